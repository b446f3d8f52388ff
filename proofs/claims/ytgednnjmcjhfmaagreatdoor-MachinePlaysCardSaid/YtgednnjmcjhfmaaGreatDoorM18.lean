/-
  strings.Clone answers the text as it was.
-/
import Derived.Test.YtgednnjmcjhfmaaGreatDoorM11
import Derived.Test.YtgednnjmcjhfmaaGreatDoorM01
import Derived.Test.YtgednnjmcjhfmaaGreatDoorProg
import Derived.Shelf.LaysM
import Derived.Shelf.Strconv.Clone
import Derived.Deep.RegionHeld
import Derived.Laws.StructEq
import Derived.Laws.Entries
import Derived.IntWalk
import Derived.Test.YtgednnjmcjhfmaaGreatDoorRows
import Derived.Test.YtgednnjmcjhfmaaGreatDoorM04
namespace Go.Proofs.YtgednnjmcjhfmaaGreatDoor
open Go.RowKit
set_option maxRecDepth 10000
set_option maxHeartbeats 80000000
def cloneRen : Go.Shelf.Ren := ⟨fun | 316 => 79 | n => n, fun | 9 => 9 | 3 => 3 | 4 => 4 | 37 => 85 | 0 => 0 | 127 => 147 | 5 => 5 | n => n, fun | n => n⟩
theorem cloneLays : Go.Proofs.LaysM.n316 Tryz.prog cloneRen := by
 constructor
 all_goals first
  | kernel_rfl
  | (constructor <;> first | kernel_rfl | exact Tryz.func79.trans (congrArg some (by kernel_rfl)) | exact Tryz.isAgg9 | exact Tryz.isAgg3 | exact Tryz.isAgg4 | exact Tryz.isAgg85 | exact Tryz.isAgg0 | exact Tryz.isAgg147 | exact Tryz.isAgg5 | exact Tryz.sizeOf9 | exact Tryz.sizeOf3 | exact Tryz.sizeOf4 | exact Tryz.sizeOf85 | exact Tryz.sizeOf0 | exact Tryz.sizeOf147 | exact Tryz.sizeOf5 | exact Tryz.zeroValue9 | exact Tryz.zeroValue3 | exact Tryz.zeroValue4 | exact Tryz.zeroValue85 | exact Tryz.zeroValue0 | exact Tryz.zeroValue147 | exact Tryz.zeroValue5)
  | exact Tryz.isAgg9 | exact Tryz.isAgg3 | exact Tryz.isAgg4 | exact Tryz.isAgg85 | exact Tryz.isAgg0 | exact Tryz.isAgg147 | exact Tryz.isAgg5 | exact Tryz.sizeOf9 | exact Tryz.sizeOf3 | exact Tryz.sizeOf4 | exact Tryz.sizeOf85 | exact Tryz.sizeOf0 | exact Tryz.sizeOf147 | exact Tryz.sizeOf5 | exact Tryz.zeroValue9 | exact Tryz.zeroValue3 | exact Tryz.zeroValue4 | exact Tryz.zeroValue85 | exact Tryz.zeroValue0 | exact Tryz.zeroValue147 | exact Tryz.zeroValue5
theorem sclone_any (s : ByteArray) (w : World) (h : s.size ≤ 281474976710656) :
  Calls Tryz.prog 79 #[.string s] w fun e w' => e = .returned (.string s) ∧ Below w.heap.size w w' := Any.stringslite_Clone cloneLays s w h
theorem clone_any (s : ByteArray) (w : World) (h : s.size ≤ 281474976710656) :
  Calls Tryz.prog 50 #[.string s] w fun e w' => e = .returned (.string s) ∧ Below w.heap.size w w' := by
 go_enter Tryz.func50, Tryz.ntmps50
 go_wp2_with (go_at_call 79; refine (sclone_any s _ h).mono ?_; rintro e w1 ⟨rfl, hb1⟩)
 go_ret
 exact ⟨rfl, hb1⟩
theorem results_cell0 {P : Program} {fn : Func} {p : Tmp} {ty : TypeId} (h : fn.results = #[.cell p ty]) (tmps : Array Value) (w : World) (g : Nat) (e : TypeId) (cs : Array Value) (fr : Nat × Nat) (d : TypeDesc)
  (hp : tmps.getD p undef = .pointer (some ⟨g, 0, none⟩)) (hg : w.heap[g]? = some (.cells cs e fr))
  (hu : P.underlying ty = some d) (hd : (match d with | .struct _ | .array _ _ => true | _ => false) = true) (hi : (P.info? ty).map (·.size) = some cs.size) :
  (results fn tmps).run P w = .ok (.agg cs) w := by
 have hp' : tmps[p]?.getD undef = .pointer (some ⟨g, 0, none⟩) := by simpa using hp
 simp [results, h, hp', asAddr, run_loadVar_row w g e ty cs fr d hg hu hd hi]
theorem num_yes (n : Int) (w : World) (h1 : 0 ≤ n) (h2 : n ≤ 72057594037927935) : Calls Tryz.prog 83 #[.int .i64 n] w fun e w' => e = .returned (.bool true) ∧ w' = w := by
 go_enter Tryz.func83, Tryz.ntmps83
 go_wp2_with fail
 go_ret
 exact ⟨rfl, rfl⟩
theorem num_no (n : Int) (w : World) (h : ¬ (0 ≤ n ∧ n ≤ 72057594037927935)) : Calls Tryz.prog 83 #[.int .i64 n] w fun e w' => e = .returned (.bool false) ∧ w' = w := by
 by_cases h1 : n < 0
 ·
  clear h
  go_enter Tryz.func83, Tryz.ntmps83
  go_wp2_with fail
  go_ret
  first | exact ⟨rfl, rfl⟩ | (refine ⟨?_, rfl⟩; show Ending.returned (.bool (decide (n ≤ 72057594037927935))) = _; rw [h4])
 ·
  have h2 : 72057594037927935 < n := by omega
  have h3 : 0 ≤ n := by omega
  have h4 : decide (n ≤ 72057594037927935) = false := decide_eq_false (by omega)
  clear h h1
  go_enter Tryz.func83, Tryz.ntmps83
  go_wp2_with fail
  go_ret
  first | exact ⟨rfl, rfl⟩ | (refine ⟨?_, rfl⟩; show Ending.returned (.bool (decide (n ≤ 72057594037927935))) = _; rw [h4])
theorem apart_any (x : Ss) (hx : x.t.size ≤ 200) (w : World) : Calls Tryz.prog 65 #[.agg x.cells.toArray] w (VE w (.agg x.cells.toArray)) := by
 obtain ⟨c, s, r, o, t⟩ := x
 have HZ := hid ssSize
 have HC := hid (fun W => clone_any t W (by simp only at hx; omega))
 have HR := hid (show Row ((w.alloc (.cells #[.int .i64 c, .int .i64 s, .int .i64 r, .int .i64 o, .string t] 75)).alloc (.cells #[.int .i64 0, .int .i64 0, .int .i64 0, .int .i64 0, .string ⟨#[]⟩] 75)) w.heap.size 75 [.int .i64 c, .int .i64 s, .int .i64 r, .int .i64 o, .string t] from Row.alloc (Row.new _ _ _) _)
 have HR0 := hid (show Row ((w.alloc (.cells #[.int .i64 c, .int .i64 s, .int .i64 r, .int .i64 o, .string t] 75)).alloc (.cells #[.int .i64 0, .int .i64 0, .int .i64 0, .int .i64 0, .string ⟨#[]⟩] 75)) (w.heap.size + 1) 75 ss0.cells from alloc2_new _ _ _)
 clear hx
 show Calls Tryz.prog 65 #[.agg #[.int .i64 c, .int .i64 s, .int .i64 r, .int .i64 o, .string t]] w (VE w (.agg #[.int .i64 c, .int .i64 s, .int .i64 r, .int .i64 o, .string t]))
 go_enter Tryz.func65, Tryz.ntmps65
 go_wp2_with (first
  | (go_at_call 50; refine (HC.out _).mono ?_; rintro e w3 ⟨rfl, hb3⟩; have hr3 := HR.out.below hb3 (by simp; omega); have hz3 := HR0.out.below hb3 (by simp); have hc3 := hr3.at_ 4 _ rfl; have hf3 := hr3.frozen 4; have hr4 := hr3.set_ 4 (.string t); have hz4 := hz3.far (p := ⟨w.heap.size, 4, none⟩) (by show w.heap.size + 1 ≠ w.heap.size; omega) (.string t); have HB3 := hid hb3; clear hb3; have HR4 := hid hr4; have HZ4 := hid hz4; clear hr4 hz4 hr3 hz3)
  | (refine wpList_load_row rfl 75 (.tmp 1) rfl w.heap.size rfl 75 _ (0, 0) _ HR4.out.arr' Tryz.underlying75 rfl HZ.out ?_)
  | (refine wpl_store_st rfl (.tmp 2) (.tmp 7) rfl HZ.out (w.heap.size + 1) ss0.cells [.int .i64 c, .int .i64 s, .int .i64 r, .int .i64 o, .string t] rfl rfl HZ4.out ?_ (hid rfl) (hid rfl) (hid rfl); intro w5 hr5 hg5))
 refine bodyPost_ret (results_cell0 rfl _ _ (w.heap.size + 1) 75 _ (0, 0) _ rfl hr5.arr' Tryz.underlying75 rfl HZ.out) rfl ⟨rfl, ?_⟩
 have hb0 := (((Below.refl w.heap.size w).alloc (Nat.le_refl _) (.cells #[.int .i64 c, .int .i64 s, .int .i64 r, .int .i64 o, .string t] 75)).alloc (by simp) (.cells #[.int .i64 0, .int .i64 0, .int .i64 0, .int .i64 0, .string ⟨#[]⟩] 75)).trans (HB3.out.mono (by simp; omega))
 have hb1 := below_grown (gset w3 w.heap.size 4 (.string t)) (Nat.le_refl _) hb0.size
 exact (hb0.trans hb1).trans (below_grown hg5 (by omega) (by have := hb0.size; simp; omega))
theorem iss_yes (x : Ss) (b : Nat) (w : World) (hc : w.cell? ⟨b, 0, none⟩ = some (.int .i64 x.c)) : Calls Tryz.prog 105 #[.agg x.cells.toArray, .pointer (some ⟨b, 0, none⟩)] w (VE w (.bool true)) := by
 have hb := World.block_lt_of_cell? w _ hc
 obtain ⟨c, s, r, o, t⟩ := x
 show Calls Tryz.prog 105 #[.agg #[.int .i64 c, .int .i64 s, .int .i64 r, .int .i64 o, .string t], .pointer (some ⟨b, 0, none⟩)] w _
 go_enter Tryz.func105, Tryz.ntmps105
 go_wp2_with fail
 go_ret
 exact ⟨rfl, (Below.refl _ _).alloc (Nat.le_refl _) _⟩
theorem iss_no (x : Ss) (c' : Int) (b : Nat) (w : World) (hc : w.cell? ⟨b, 0, none⟩ = some (.int .i64 c')) (hne : x.c ≠ c') : Calls Tryz.prog 105 #[.agg x.cells.toArray, .pointer (some ⟨b, 0, none⟩)] w (VE w (.bool false)) := by
 have hb := World.block_lt_of_cell? w _ hc
 obtain ⟨c, s, r, o, t⟩ := x
 have h1 : (c == c') = false := beq_eq_false_iff_ne.2 hne
 clear hne
 show Calls Tryz.prog 105 #[.agg #[.int .i64 c, .int .i64 s, .int .i64 r, .int .i64 o, .string t], .pointer (some ⟨b, 0, none⟩)] w _
 go_enter Tryz.func105, Tryz.ntmps105
 go_wp2_with fail
 go_ret
 exact ⟨rfl, (Below.refl _ _).alloc (Nat.le_refl _) _⟩
def idx (l : List Ss) (c : Int) : Int := if pl l c < l.length then (pl l c : Int) else -1
theorem index_any (A : Option Addr) (l : List Ss) (n cc B b : Nat) (c : Int) (w : World) (hr : Rd w B A (rows Ss.cells l)) (hn : n = l.length) (hB : B ≤ w.heap.size) (hc : w.cell? ⟨b, 0, none⟩ = some (.int .i64 c)) (hnc : n ≤ cc) (hbig : n ≤ 100) :
  Calls Tryz.prog 104 #[.slice A n cc, .func (.func 105) #[] #[.pointer (some ⟨b, 0, none⟩)]] w (VE w (.int .i64 (idx l c))) := by
 have hb := World.block_lt_of_cell? w _ hc
 by_cases h0 : n = 0
 ·
  have hz : idx l c = -1 := by
   unfold idx
   rw [if_neg (by omega)]
  rw [hz]
  subst h0
  clear hr hn hz hc hb
  go_enter Tryz.func104, Tryz.ntmps104
  go_wp2_with fail
  go_loop [8] (fun i => i = .int .i64 0) (fun _ => 0)
  case atStart => rfl
  case round =>
   obtain rfl := hrel
   go_wp2_with fail
   go_ret
   exact ⟨rfl, Below.refl _ _⟩
 have hlen := rows_len (C := Ss.cells) Ss.len l
 obtain ⟨g, o, rfl, hg, hx⟩ := (show _ from hr) (by intro e; rw [e] at hlen; simp at hlen; omega)
 clear hx hlen
 have HR := hid hr
 have HN := hid hn
 have HC := hid (fun W (hW : Below w.heap.size w W) => (hW.cell (p := ⟨b, 0, none⟩) hb).trans hc)
 have HZ := hid ssSize
 have HNF : Hid (pl l c = l.length → idx l c = -1) := hid fun e => by
  unfold idx
  rw [if_neg (by omega)]
 have HF : Hid (∀ k, k < l.length → pl l c = k → idx l c = (k : Int)) := hid fun k hk e => by
  unfold idx
  rw [e, if_pos hk]
 generalize idx l c = r at *
 clear hr hn hc
 go_enter Tryz.func104, Tryz.ntmps104
 go_wp2_with fail
 go_loopw [8] (fun i wr => ∃ k : Nat, k ≤ n ∧ i = .int .i64 (k : Int) ∧ Hid (k ≤ pl l c) ∧ Below w.heap.size w wr) (fun i _ => n - (intOf i).toNat)
 case atStart => exact ⟨0, by omega, rfl, hid (Nat.zero_le _), Below.refl _ _⟩
 case round =>
  obtain ⟨k, hk, rfl, HK, hbe⟩ := hrel
  have HBE := hid hbe
  by_cases hlt : k < n
  ·
   have hkl : k < l.length := by rw [← HN.out]; exact hlt
   have HRG := hid ((HR.out.below hbe hB).range Ss.len k hkl)
   have HC4 : Hid ((Ss.cells l[k]).length = 5) := hid (Ss.len _)
   by_cases he : l[k].c = c
   ·
    have HI := hid (iss_yes l[k] b wr (by rw [he]; exact HC.out wr hbe))
    have HAT := hid (HF.out k hkl (pl_this HK.out hkl he))
    generalize Ss.cells l[k] = X at *
    clear hbe he
    go_wp2_with (first
     | (refine wpList_load_mid rfl 75 (.tmp 14) rfl g (o + k * 5) rfl X _ HRG.out Tryz.underlying75 rfl (by rw [HC4.out]; exact HZ.out) ?_)
     | (go_at_call 105; refine HI.out.mono ?_; rintro e w2 ⟨rfl, hb2⟩))
    go_ret
    rw [HAT.out]
    exact ⟨rfl, HBE.out.trans (hb2.mono HBE.out.size)⟩
   ·
    have HI := hid (iss_no l[k] c b wr (HC.out wr hbe) he)
    have HAT : Hid (k + 1 ≤ pl l c) := hid (by
     rcases Nat.lt_or_ge k (pl l c) with h | h
     ·
      omega
     ·
      have e : pl l c = k := Nat.le_antisymm h HK.out
      have h2 := pl_here (T := l) (c := c) (by rw [e]; exact hkl)
      simp only [e] at h2
      exact absurd h2 he)
    generalize Ss.cells l[k] = X at *
    clear hbe he
    go_wp2_with (first
     | (refine wpList_load_mid rfl 75 (.tmp 14) rfl g (o + k * 5) rfl X _ HRG.out Tryz.underlying75 rfl (by rw [HC4.out]; exact HZ.out) ?_)
     | (go_at_call 105; refine HI.out.mono ?_; rintro e w2 ⟨rfl, hb2⟩))
    exact ⟨⟨k + 1, by omega, by go_num, hid HAT.out, HBE.out.trans (hb2.mono HBE.out.size)⟩, by simp [intOf]; omega⟩
  ·
   obtain rfl : k = n := by omega
   have HAT := hid (HNF.out (by have := HK.out; have := pl_le l c; have := HN.out; omega))
   clear hbe
   go_wp2_with fail
   go_ret
   rw [HAT.out]
   exact ⟨rfl, HBE.out⟩
theorem of_no (p : Nat) (v : Value) (T : List Ss) (c : Int) (w : World) (h : HasT w 94 p v T) (hno : ¬ pl T c < T.length) :
  Calls Tryz.prog 63 #[.pointer (some ⟨p, 0, none⟩), .int .i64 c] w (VE w (.pointer none)) := by
 obtain ⟨A, cc, e, hnc, hrd⟩ := h.shape
 have hc0 := h.c0
 rw [e] at hc0
 have hw := h.wf.le
 have hp := h.box.lt
 have hi : idx T c = -1 := by unfold idx; rw [if_neg hno]
 have HF := hid (fun W (hW : Below w.heap.size w W) b (hb : W.cell? ⟨b, 0, none⟩ = some (.int .i64 c)) => index_any A T T.length cc w.heap.size b c W (hrd.below hW (Nat.le_refl _)) rfl hW.size hb hnc (by omega))
 rw [hi] at HF
 generalize T.length = n at *
 clear h e hrd hno hi
 go_enter Tryz.func63, Tryz.ntmps63
 go_wp2_with (go_at_call 104; refine (HF.out _ ((Below.refl _ _).alloc (Nat.le_refl _) _) _ (by simp)).mono ?_; rintro e w2 ⟨rfl, hb2⟩)
 go_ret
 exact ⟨rfl, ((Below.refl _ _).alloc (Nat.le_refl _) _).trans (hb2.mono (by simp))⟩
theorem of_yes (p g k : Nat) (v : Value) (T : List Ss) (c : Int) (w : World) (h : HasT w 94 p v T) (hg : v.ownBlock = some g) (hk : pl T c = k) (hkn : k < T.length) :
  Calls Tryz.prog 63 #[.pointer (some ⟨p, 0, none⟩), .int .i64 c] w (VE w (.pointer (some ⟨g, k * 5, none⟩))) := by
 obtain ⟨A, cc, e, hnc, hrd⟩ := h.shape
 obtain ⟨g', c', e', -, hg'⟩ := own_some h.own (by omega : 0 < T.length)
 rw [hg] at hg'
 cases hg'
 rw [e'] at e
 simp only [Value.slice.injEq] at e
 obtain ⟨rfl, -, rfl⟩ := e
 have hc0 := h.c0
 rw [e'] at hc0
 have hw := h.wf.le
 have hp := h.box.lt
 have hi : idx T c = (k : Int) := by unfold idx; rw [hk, if_pos hkn]
 have HF := hid (fun W (hW : Below w.heap.size w W) b (hb : W.cell? ⟨b, 0, none⟩ = some (.int .i64 c)) => index_any (some ⟨g, 0, none⟩) T T.length c' w.heap.size b c W (hrd.below hW (Nat.le_refl _)) rfl hW.size hb hnc (by omega))
 rw [hi] at HF
 have hc2 := fun W (hW : Below w.heap.size w W) => (hW.cell (p := ⟨p, 0, none⟩) hp).trans hc0
 have HC2 := hid hc2
 have hki : (k : Int) < (T.length : Int) := by omega
 generalize T.length = n at *
 clear h e' hrd hk hg hi hc2
 go_enter Tryz.func63, Tryz.ntmps63
 go_wp2_with (go_at_call 104; refine (HF.out _ ((Below.refl _ _).alloc (Nat.le_refl _) _) _ (by simp)).mono ?_; rintro e w2 ⟨rfl, hb2⟩; have hcw := HC2.out _ (((Below.refl _ _).alloc (Nat.le_refl _) _).trans (hb2.mono (by simp))))
 go_ret
 exact ⟨rfl, ((Below.refl _ _).alloc (Nat.le_refl _) _).trans (hb2.mono (by simp))⟩
section
variable (p : Nat) (v : Value) (T : List Ss) (c s r : Int) (w : World) (h : HasT w 94 p v T)
include h in
theorem ver_no (hno : ¬ pl T c < T.length) : Calls Tryz.prog 37 #[.pointer (some ⟨p, 0, none⟩), .int .i64 c, .int .i64 s, .int .i64 r] w (VE w (.int .i64 5)) := by
 have HO := hid (of_no p v T c w h hno)
 clear h hno
 go_enter Tryz.func37, Tryz.ntmps37
 go_wp2_with (go_at_call 63; refine HO.out.mono ?_; rintro e w2 ⟨rfl, hb2⟩)
 go_ret
 exact ⟨rfl, hb2⟩
include h in
theorem ver_other (k : Nat) (hk : pl T c = k) (hkn : k < T.length) (hs : T[k].s ≠ s) : Calls Tryz.prog 37 #[.pointer (some ⟨p, 0, none⟩), .int .i64 c, .int .i64 s, .int .i64 r] w (VE w (.int .i64 5)) := by
 obtain ⟨g, cc, -, -, hg⟩ := own_some h.own (by omega : 0 < T.length)
 have HO := hid (of_yes p g k v T c w h hg hk hkn)
 have HC1 := hid (fun W (hW : Below w.heap.size w W) => show W.cell? ⟨g, k * 5 + 1, none⟩ = some (.int .i64 T[k].s) from (h.below hW).cell hg k 1 hkn (by decide))
 have HC2 := hid (fun W (hW : Below w.heap.size w W) => show W.cell? ⟨g, k * 5 + 2, none⟩ = some (.int .i64 T[k].r) from (h.below hW).cell hg k 2 hkn (by decide))
 have hx := (h.wf.ok T[k] (List.getElem_mem hkn)).r
 generalize T[k].s = xs at *
 generalize T[k].r = xr at *
 clear h hk hg
 have e1 : (xs == s) = false := beq_eq_false_iff_ne.2 hs
 have e2 : (xs != s) = true := bne_iff_ne.2 hs
 obtain ⟨hx1, hx2⟩ := hx
 go_enter Tryz.func37, Tryz.ntmps37
 go_wp2_with (go_at_call 63; refine HO.out.mono ?_; rintro e w2 ⟨rfl, hb2⟩; have hc1 := HC1.out w2 hb2; have hc2 := HC2.out w2 hb2)
 go_ret
 exact ⟨rfl, hb2⟩
include h in
theorem ver_fresh (k : Nat) (hk : pl T c = k) (hkn : k < T.length) (hs : T[k].s = s) (hr : r = T[k].r + 1) : Calls Tryz.prog 37 #[.pointer (some ⟨p, 0, none⟩), .int .i64 c, .int .i64 s, .int .i64 r] w (VE w (.int .i64 1)) := by
 obtain ⟨g, cc, -, -, hg⟩ := own_some h.own (by omega : 0 < T.length)
 have HO := hid (of_yes p g k v T c w h hg hk hkn)
 have HC1 := hid (fun W (hW : Below w.heap.size w W) => show W.cell? ⟨g, k * 5 + 1, none⟩ = some (.int .i64 T[k].s) from (h.below hW).cell hg k 1 hkn (by decide))
 have HC2 := hid (fun W (hW : Below w.heap.size w W) => show W.cell? ⟨g, k * 5 + 2, none⟩ = some (.int .i64 T[k].r) from (h.below hW).cell hg k 2 hkn (by decide))
 have hx := (h.wf.ok T[k] (List.getElem_mem hkn)).r
 generalize T[k].s = xs at *
 generalize T[k].r = xr at *
 clear h hk hg
 subst hs
 subst hr
 obtain ⟨hx1, hx2⟩ := hx
 go_enter Tryz.func37, Tryz.ntmps37
 go_wp2_with (go_at_call 63; refine HO.out.mono ?_; rintro e w2 ⟨rfl, hb2⟩; have hc1 := HC1.out w2 hb2; have hc2 := HC2.out w2 hb2)
 go_ret
 exact ⟨rfl, hb2⟩
include h in
theorem ver_again (k : Nat) (hk : pl T c = k) (hkn : k < T.length) (hs : T[k].s = s) (hr : r = T[k].r) : Calls Tryz.prog 37 #[.pointer (some ⟨p, 0, none⟩), .int .i64 c, .int .i64 s, .int .i64 r] w (VE w (.int .i64 2)) := by
 obtain ⟨g, cc, -, -, hg⟩ := own_some h.own (by omega : 0 < T.length)
 have HO := hid (of_yes p g k v T c w h hg hk hkn)
 have HC1 := hid (fun W (hW : Below w.heap.size w W) => show W.cell? ⟨g, k * 5 + 1, none⟩ = some (.int .i64 T[k].s) from (h.below hW).cell hg k 1 hkn (by decide))
 have HC2 := hid (fun W (hW : Below w.heap.size w W) => show W.cell? ⟨g, k * 5 + 2, none⟩ = some (.int .i64 T[k].r) from (h.below hW).cell hg k 2 hkn (by decide))
 have hx := (h.wf.ok T[k] (List.getElem_mem hkn)).r
 generalize T[k].s = xs at *
 generalize T[k].r = xr at *
 clear h hk hg
 subst hs
 subst hr
 have e3 : (r == r + 1) = false := beq_eq_false_iff_ne.2 (by omega)
 obtain ⟨hx1, hx2⟩ := hx
 go_enter Tryz.func37, Tryz.ntmps37
 go_wp2_with (go_at_call 63; refine HO.out.mono ?_; rintro e w2 ⟨rfl, hb2⟩; have hc1 := HC1.out w2 hb2; have hc2 := HC2.out w2 hb2)
 go_ret
 exact ⟨rfl, hb2⟩
include h in
theorem ver_old (k : Nat) (hk : pl T c = k) (hkn : k < T.length) (hs : T[k].s = s) (hr : r < T[k].r) : Calls Tryz.prog 37 #[.pointer (some ⟨p, 0, none⟩), .int .i64 c, .int .i64 s, .int .i64 r] w (VE w (.int .i64 3)) := by
 obtain ⟨g, cc, -, -, hg⟩ := own_some h.own (by omega : 0 < T.length)
 have HO := hid (of_yes p g k v T c w h hg hk hkn)
 have HC1 := hid (fun W (hW : Below w.heap.size w W) => show W.cell? ⟨g, k * 5 + 1, none⟩ = some (.int .i64 T[k].s) from (h.below hW).cell hg k 1 hkn (by decide))
 have HC2 := hid (fun W (hW : Below w.heap.size w W) => show W.cell? ⟨g, k * 5 + 2, none⟩ = some (.int .i64 T[k].r) from (h.below hW).cell hg k 2 hkn (by decide))
 have hx := (h.wf.ok T[k] (List.getElem_mem hkn)).r
 generalize T[k].s = xs at *
 generalize T[k].r = xr at *
 clear h hk hg
 subst hs
 have e3 : (r == xr + 1) = false := beq_eq_false_iff_ne.2 (by omega)
 have e4 : (r == xr) = false := beq_eq_false_iff_ne.2 (by omega)
 obtain ⟨hx1, hx2⟩ := hx
 go_enter Tryz.func37, Tryz.ntmps37
 go_wp2_with (go_at_call 63; refine HO.out.mono ?_; rintro e w2 ⟨rfl, hb2⟩; have hc1 := HC1.out w2 hb2; have hc2 := HC2.out w2 hb2)
 go_ret
 exact ⟨rfl, hb2⟩
include h in
theorem ver_ahead (k : Nat) (hk : pl T c = k) (hkn : k < T.length) (hs : T[k].s = s) (hr : T[k].r + 1 < r) : Calls Tryz.prog 37 #[.pointer (some ⟨p, 0, none⟩), .int .i64 c, .int .i64 s, .int .i64 r] w (VE w (.int .i64 4)) := by
 obtain ⟨g, cc, -, -, hg⟩ := own_some h.own (by omega : 0 < T.length)
 have HO := hid (of_yes p g k v T c w h hg hk hkn)
 have HC1 := hid (fun W (hW : Below w.heap.size w W) => show W.cell? ⟨g, k * 5 + 1, none⟩ = some (.int .i64 T[k].s) from (h.below hW).cell hg k 1 hkn (by decide))
 have HC2 := hid (fun W (hW : Below w.heap.size w W) => show W.cell? ⟨g, k * 5 + 2, none⟩ = some (.int .i64 T[k].r) from (h.below hW).cell hg k 2 hkn (by decide))
 have hx := (h.wf.ok T[k] (List.getElem_mem hkn)).r
 generalize T[k].s = xs at *
 generalize T[k].r = xr at *
 clear h hk hg
 subst hs
 have e3 : (r == xr + 1) = false := beq_eq_false_iff_ne.2 (by omega)
 have e4 : (r == xr) = false := beq_eq_false_iff_ne.2 (by omega)
 have e5 : ¬ r < xr := by omega
 obtain ⟨hx1, hx2⟩ := hx
 go_enter Tryz.func37, Tryz.ntmps37
 go_wp2_with (go_at_call 63; refine HO.out.mono ?_; rintro e w2 ⟨rfl, hb2⟩; have hc1 := HC1.out w2 hb2; have hc2 := HC2.out w2 hb2)
 go_ret
 exact ⟨rfl, hb2⟩
include h in
theorem ver_has : Calls Tryz.prog 37 #[.pointer (some ⟨p, 0, none⟩), .int .i64 c, .int .i64 s, .int .i64 r] w (VE w (.int .i64 (ver T c s r))) := by
 unfold ver
 by_cases hk : pl T c < T.length
 ·
  rw [if_neg (fun hh => hh hk), at_get hk]
  by_cases hs : T[pl T c].s = s
  ·
   rw [if_neg (fun hh => hh hs)]
   by_cases h1 : r = T[pl T c].r + 1
   ·
    rw [if_pos h1]; exact ver_fresh p v T c s r w h _ rfl hk hs h1
   rw [if_neg h1]
   by_cases h2 : r = T[pl T c].r
   ·
    rw [if_pos h2]; exact ver_again p v T c s r w h _ rfl hk hs h2
   rw [if_neg h2]
   by_cases h3 : r < T[pl T c].r
   ·
    rw [if_pos h3]; exact ver_old p v T c s r w h _ rfl hk hs h3
   ·
    rw [if_neg h3]; exact ver_ahead p v T c s r w h _ rfl hk hs (by omega)
  ·
   rw [if_pos hs]; exact ver_other p v T c s r w h _ rfl hk hs
 ·
  rw [if_pos hk]; exact ver_no p v T c s r w h hk
end
theorem ver_any (p : Nat) (fp : List Nat) (T : List Ss) (c s r : Int) (w : World) (h : Gk8 94 p T fp w) : Calls Tryz.prog 37 #[.pointer (some ⟨p, 0, none⟩), .int .i64 c, .int .i64 s, .int .i64 r] w (VE w (.int .i64 (ver T c s r))) := by
 obtain ⟨v, -, h⟩ := h
 exact ver_has p v T c s r w h
/-! ### Look -/
/-- a session and a yes or no -/
def LK (w : World) (x : Ss) (b : Bool) (e : Ending) (w' : World) : Prop := e = .returned (.tuple #[.agg x.cells.toArray, .bool b]) ∧ Below w.heap.size w w'
def look (T : List Ss) (c : Int) : Ss := if pl T c < T.length then at_8 T (pl T c) else ss0
def looks (T : List Ss) (c : Int) : Bool := decide (pl T c < T.length)
theorem look_no (c : Int) (w : World) (p : Nat) (v : Value) (T : List Ss) (h : HasT w 94 p v T) (hno : ¬ pl T c < T.length) : Calls Tryz.prog 61 #[.pointer (some ⟨p, 0, none⟩), .int .i64 c] w (LK w ss0 false) := by
 have HZ := hid ssSize
 have HR0 := hid (show Row (w.alloc (.cells #[.int .i64 0, .int .i64 0, .int .i64 0, .int .i64 0, .string ⟨#[]⟩] 75)) w.heap.size 75 ss0.cells from Row.new _ _ _)
 have HO := hid (fun W (hW : Below w.heap.size w W) => of_no p v T c W (h.below hW) hno)
 clear h hno
 go_enter Tryz.func61, Tryz.ntmps61
 go_wp2_with (first
  | (go_at_call 63; refine (HO.out _ ((Below.refl _ _).alloc (Nat.le_refl _) _)).mono ?_; rintro e w2 ⟨rfl, hb2⟩; have HB2 := hid hb2; have HR2 := hid (HR0.out.below hb2 (by simp)); clear hb2)
  | (refine wpl_store_st rfl (.tmp 4) (.tmp 12) rfl HZ.out w.heap.size ss0.cells ss0.cells rfl rfl HR2.out ?_ (hid rfl) (hid rfl) (hid rfl); intro w3 hr3 hg3))
 refine bodyPost_ret (results_cell1 rfl _ _ w.heap.size 75 ss0.cells.toArray (0, 0) _ (.bool false) rfl rfl hr3.arr' Tryz.underlying75 rfl HZ.out) rfl ⟨rfl, ?_⟩
 exact (((Below.refl _ _).alloc (Nat.le_refl _) _).trans (HB2.out.mono (by simp))).trans (below_grown hg3 (Nat.le_refl _) (by have := HB2.out.size; simp at this; omega))
theorem look_yes (c : Int) (w : World) (p : Nat) (v : Value) (T : List Ss) (h : HasT w 94 p v T) (k : Nat) (hk : pl T c = k) (hkn : k < T.length) : Calls Tryz.prog 61 #[.pointer (some ⟨p, 0, none⟩), .int .i64 c] w (LK w T[k] true) := by
 have HZ := hid ssSize
 obtain ⟨g, cc, -, -, hg⟩ := own_some h.own (by omega : 0 < T.length)
 have HR0 := hid (show Row (w.alloc (.cells #[.int .i64 0, .int .i64 0, .int .i64 0, .int .i64 0, .string ⟨#[]⟩] 75)) w.heap.size 75 ss0.cells from Row.new _ _ _)
 have HO := hid (fun W (hW : Below w.heap.size w W) => of_yes p g k v T c W (h.below hW) hg hk hkn)
 have HRG := hid (fun W (hW : Below w.heap.size w W) => (h.below hW).range hg k hkn)
 have HAP := hid (fun W => apart_any T[k] (h.wf.ok T[k] (List.getElem_mem hkn)).t W)
 unfold LK
 have HC5 : Hid ((Ss.cells T[k]).length = 5) := hid (Ss.len _)
 have HC1 : Hid ((Ss.cells T[k]).all (·.oneCell') = true) := hid (Ss.one _)
 generalize Ss.cells T[k] = X at *
 clear h hk hg
 go_enter Tryz.func61, Tryz.ntmps61
 go_wp2_with (first
  | (go_at_call 63; refine (HO.out _ ((Below.refl _ _).alloc (Nat.le_refl _) _)).mono ?_; rintro e w2 ⟨rfl, hb2⟩; have HB2 := hid hb2; have HR2 := hid (HR0.out.below hb2 (by simp)); have HRG2 := hid (HRG.out _ (((Below.refl _ _).alloc (Nat.le_refl _) _).trans (hb2.mono (by simp)))); clear hb2)
  | (refine wpList_load_mid rfl 75 (.tmp 14) rfl g (k * 5) rfl X _ HRG2.out Tryz.underlying75 rfl (by rw [HC5.out]; exact HZ.out) ?_)
  | (go_at_call 65; refine (HAP.out _).mono ?_; rintro e w3 ⟨rfl, hb3⟩; have HB3 := hid hb3; have HR3 := hid (HR2.out.below hb3 HR2.out.lt); clear hb3)
  | (refine wpl_store_st rfl (.tmp 4) (.tmp 16) rfl HZ.out w.heap.size ss0.cells X rfl rfl HR3.out ?_ (hid rfl) (hid HC5.out) (hid HC1.out); intro w4 hr4 hg4))
 refine bodyPost_ret (results_cell1 rfl _ _ w.heap.size 75 X.toArray (0, 0) _ (.bool true) rfl rfl hr4.arr' Tryz.underlying75 rfl (by rw [List.size_toArray, HC5.out]; exact HZ.out)) rfl ⟨rfl, ?_⟩
 have hb1 := ((Below.refl w.heap.size w).alloc (Nat.le_refl _) (.cells #[.int .i64 0, .int .i64 0, .int .i64 0, .int .i64 0, .string ⟨#[]⟩] 75)).trans (HB2.out.mono (by simp))
 have hb2 := hb1.trans (HB3.out.mono hb1.size)
 exact hb2.trans (below_grown hg4 (Nat.le_refl _) hb2.size)
theorem look_any (p : Nat) (fp : List Nat) (T : List Ss) (c : Int) (w : World) (h : Gk8 94 p T fp w) : Calls Tryz.prog 61 #[.pointer (some ⟨p, 0, none⟩), .int .i64 c] w (LK w (look T c) (looks T c)) := by
 obtain ⟨v, -, h⟩ := h
 unfold look looks
 by_cases hk : pl T c < T.length
 ·
  rw [if_pos hk, decide_eq_true hk, at_get hk]
  exact look_yes c w p v T h _ rfl hk
 ·
  rw [if_neg hk, decide_eq_false hk]
  exact look_no c w p v T h hk
section
variable (p : Nat) (v : Value) (T : List Ss) (c r o : Int) (t : ByteArray) (w : World) (h : HasT w 94 p v T)
include h in
theorem not_8 (hno : ¬ pl T c < T.length) : Calls Tryz.prog 54 #[.pointer (some ⟨p, 0, none⟩), .int .i64 c, .int .i64 r, .int .i64 o, .string t] w (VE w (.int .i64 8)) := by
 have HO := hid (of_no p v T c w h hno)
 clear h hno
 go_enter Tryz.func54, Tryz.ntmps54
 go_wp2_with (go_at_call 63; refine HO.out.mono ?_; rintro e w2 ⟨rfl, hb2⟩)
 go_ret
 exact ⟨rfl, hb2⟩
include h in
theorem not_1 (hk : pl T c < T.length) (hf : ¬ Fit r ∨ ¬ Fit o) : Calls Tryz.prog 54 #[.pointer (some ⟨p, 0, none⟩), .int .i64 c, .int .i64 r, .int .i64 o, .string t] w (VE w (.int .i64 1)) := by
 obtain ⟨g, cc, -, -, hg⟩ := own_some h.own (by omega : 0 < T.length)
 have HO := hid (of_yes p g (pl T c) v T c w h hg rfl hk)
 by_cases h1 : Fit r
 ·
  have h2 : ¬ Fit o := hf.resolve_left (fun q => q h1)
  have HN1 := hid (fun W => num_yes r W h1.1 h1.2)
  have HN2 := hid (fun W => num_no o W h2)
  generalize pl T c = k at *
  clear h hk hf h1 h2 hg
  go_enter Tryz.func54, Tryz.ntmps54
  go_wp2_with (first
   | (go_at_call 63; refine HO.out.mono ?_; rintro e w2 ⟨rfl, hb2⟩)
   | (go_at_call 83; refine (HN1.out _).mono ?_; rintro e w3 ⟨rfl, rfl⟩; clear HN1)
   | (go_at_call 83; refine (HN2.out _).mono ?_; rintro e w3 ⟨rfl, rfl⟩))
  go_ret
  exact ⟨rfl, hb2⟩
 ·
  have HN1 := hid (fun W => num_no r W h1)
  generalize pl T c = k at *
  clear h hk hf h1 hg
  go_enter Tryz.func54, Tryz.ntmps54
  go_wp2_with (first
   | (go_at_call 63; refine HO.out.mono ?_; rintro e w2 ⟨rfl, hb2⟩)
   | (go_at_call 83; refine (HN1.out _).mono ?_; rintro e w3 ⟨rfl, rfl⟩))
  go_ret
  exact ⟨rfl, hb2⟩
include h in
theorem not_5 (hk : pl T c < T.length) (h1 : Fit r) (h2 : Fit o) (ht : 200 < (t.size : Int)) : Calls Tryz.prog 54 #[.pointer (some ⟨p, 0, none⟩), .int .i64 c, .int .i64 r, .int .i64 o, .string t] w (VE w (.int .i64 5)) := by
 obtain ⟨g, cc, -, -, hg⟩ := own_some h.own (by omega : 0 < T.length)
 have HO := hid (of_yes p g (pl T c) v T c w h hg rfl hk)
 have HN1 := hid (fun W => num_yes r W h1.1 h1.2)
 have HN2 := hid (fun W => num_yes o W h2.1 h2.2)
 generalize pl T c = k at *
 clear h hk h1 h2 hg
 go_enter Tryz.func54, Tryz.ntmps54
 go_wp2_with (first
  | (go_at_call 63; refine HO.out.mono ?_; rintro e w2 ⟨rfl, hb2⟩)
  | (go_at_call 83; refine (HN1.out _).mono ?_; rintro e w3 ⟨rfl, rfl⟩; clear HN1)
  | (go_at_call 83; refine (HN2.out _).mono ?_; rintro e w3 ⟨rfl, rfl⟩))
 go_ret
 exact ⟨rfl, hb2⟩
/-- three cells are written -/
theorem not_turn {w : World} {g k : Nat} (h : HasT w 94 p v T) (hg : v.ownBlock = some g) (hk : k < T.length) (h1 : Fit r) (h2 : Fit o) (ht : t.size ≤ 200) :
  HasT (((w.setCell ⟨g, k * 5 + 2, none⟩ (.int .i64 r)).setCell ⟨g, k * 5 + 3, none⟩ (.int .i64 o)).setCell ⟨g, k * 5 + 4, none⟩ (.string t)) 94 p v (T.set k (noted T[k] r o t)) ∧
  Fr w (((w.setCell ⟨g, k * 5 + 2, none⟩ (.int .i64 r)).setCell ⟨g, k * 5 + 3, none⟩ (.int .i64 o)).setCell ⟨g, k * 5 + 4, none⟩ (.string t)) (fpT p v) := by
 have hx := h.wf.ok T[k] (List.getElem_mem hk)
 have a1 := h.turn hg k 2 (.int .i64 r) ⟨T[k].c, T[k].s, r, T[k].o, T[k].t⟩ hk (by decide) rfl ⟨hx.c, hx.s, h1, hx.o, hx.t⟩
 have a2 := a1.turn hg k 3 (.int .i64 o) ⟨T[k].c, T[k].s, r, o, T[k].t⟩ (by rw [List.length_set]; exact hk) (by decide) (by rw [List.getElem_set_self]; rfl) ⟨hx.c, hx.s, h1, h2, hx.t⟩
 have a3 := a2.turn hg k 4 (.string t) (noted T[k] r o t) (by rw [List.length_set, List.length_set]; exact hk) (by decide) (by rw [List.getElem_set_self]; rfl) (noted_ok hx h1 h2 ht)
 rw [List.set_set, List.set_set] at a3
 refine ⟨a3, ?_⟩
 exact ((Fr.turn8 w _ _ hg).trans (Fr.turn8 _ _ _ hg) (fun _ h _ => h)).trans (Fr.turn8 _ _ _ hg) (fun _ h _ => h)
include h in
theorem not_0 (k : Nat) (hk : pl T c = k) (hkn : k < T.length) (h1 : Fit r) (h2 : Fit o) (ht : (t.size : Int) ≤ 200) : Calls Tryz.prog 54 #[.pointer (some ⟨p, 0, none⟩), .int .i64 c, .int .i64 r, .int .i64 o, .string t] w fun e w' => e = .returned (.int .i64 0) ∧ Gw8 94 p w (fpT p v) (T.set k (noted T[k] r o t)) w' := by
 obtain ⟨g, cc, -, -, hg⟩ := own_some h.own (by omega : 0 < T.length)
 have HO := hid (of_yes p g k v T c w h hg hk hkn)
 have HN1 := hid (fun W => num_yes r W h1.1 h1.2)
 have HN2 := hid (fun W => num_yes o W h2.1 h2.2)
 have HCL := hid (fun W => clone_any t W (by omega))
 have HT := hid (fun W (hW : Below w.heap.size w W) => not_turn p v T r o t (h.below hW) hg hkn h1 h2 (by omega))
 have HC2 := hid (fun W (hW : Below w.heap.size w W) => show W.cell? ⟨g, k * 5 + 2, none⟩ = some (.int .i64 T[k].r) from (h.below hW).cell hg k 2 hkn (by decide))
 have HC3 := hid (fun W (hW : Below w.heap.size w W) => show W.cell? ⟨g, k * 5 + 3, none⟩ = some (.int .i64 T[k].o) from (h.below hW).cell hg k 3 hkn (by decide))
 have HC4 := hid (fun W (hW : Below w.heap.size w W) => show W.cell? ⟨g, k * 5 + 4, none⟩ = some (.string T[k].t) from (h.below hW).cell hg k 4 hkn (by decide))
 have HF := hid (fun W (hW : Below w.heap.size w W) i => (h.below hW).frozen hg i)
 generalize T[k].r = xr at *
 generalize T[k].o = xo at *
 generalize T[k].t = xt at *
 clear h hk hg h1 h2
 go_enter Tryz.func54, Tryz.ntmps54
 go_wp2_with (first
  | (go_at_call 63; refine HO.out.mono ?_; rintro e w2 ⟨rfl, hb2⟩)
  | (go_at_call 83; refine (HN1.out _).mono ?_; rintro e w3 ⟨rfl, rfl⟩; clear HN1)
  | (go_at_call 83; refine (HN2.out _).mono ?_; rintro e w3 ⟨rfl, rfl⟩)
  | (go_at_call 50; refine (HCL.out _).mono ?_; rintro e w4 ⟨rfl, hb4⟩; have hb5 := hb2.trans (hb4.mono hb2.size); have hc2 := HC2.out _ hb5; have hc3 := HC3.out _ hb5; have hc4 := HC4.out _ hb5; have f2 := HF.out _ hb5 (k * 5 + 2); have f3 := HF.out _ hb5 (k * 5 + 3); have f4 := HF.out _ hb5 (k * 5 + 4); have HB5 := hid hb5; clear hb4 hb5 hb2))
 go_ret
 obtain ⟨a1, a2⟩ := HT.out _ HB5.out
 refine ⟨rfl, fpT p v, ⟨_, rfl, a1⟩, ?_, fun _ h => .inl h⟩
 exact ((Fr.of_below HB5.out).mono (fq := fpT p v) (by simp)).trans a2 (by intro b hb _; exact hb)
end
theorem not_any (p : Nat) (fp : List Nat) (T : List Ss) (c r o : Int) (t : ByteArray) (w : World) (h : Gk8 94 p T fp w) : Calls Tryz.prog 54 #[.pointer (some ⟨p, 0, none⟩), .int .i64 c, .int .i64 r, .int .i64 o, .string t] w fun e w' => e = .returned (.int .i64 (notE T c r o t)) ∧ Gw8 94 p w fp (note T c r o t) w' := by
 have hG := h
 obtain ⟨v, rfl, h⟩ := h
 have same : ∀ {z : Int}, Calls Tryz.prog 54 #[.pointer (some ⟨p, 0, none⟩), .int .i64 c, .int .i64 r, .int .i64 o, .string t] w (VE w (.int .i64 z)) → z ≠ 0 → notE T c r o t = z → Calls Tryz.prog 54 #[.pointer (some ⟨p, 0, none⟩), .int .i64 c, .int .i64 r, .int .i64 o, .string t] w fun e w' => e = .returned (.int .i64 (notE T c r o t)) ∧ Gw8 94 p w (fpT p v) (note T c r o t) w' := by
  intro z hc hz hn
  refine hc.mono fun e w' hh => ⟨by rw [hn]; exact hh.1, ?_⟩
  have : note T c r o t = T := by unfold note; rw [hn, if_neg hz]
  rw [this]
  exact (Gw8.start hG).below hh.2
 by_cases h1 : pl T c < T.length
 ·
  by_cases h2 : ¬ Fit r ∨ ¬ Fit o
  ·
   exact same (not_1 p v T c r o t w h h1 h2) (by decide) (by unfold notE; rw [if_neg (fun q => q h1), if_pos h2])
  ·
   by_cases h3 : 200 < t.size
   ·
    exact same (not_5 p v T c r o t w h h1 (by omega) (by omega) (by omega)) (by decide) (by unfold notE; rw [if_neg (fun q => q h1), if_neg h2, if_pos h3])
   ·
    have e0 : notE T c r o t = 0 := by unfold notE; rw [if_neg (fun q => q h1), if_neg h2, if_neg h3]
    unfold note
    rw [e0, if_pos rfl, at_get h1]
    exact not_0 p v T c r o t w h _ rfl h1 (by omega) (by omega) (by omega)
 ·
  exact same (not_8 p v T c r o t w h h1) (by decide) (by unfold notE; rw [if_pos h1])
/-- a list, in a row of one's own -/
def LO (w : World) (l : List Ss) (e : Ending) (w' : World) : Prop :=
 ∃ v, e = .returned v ∧ w'.ownsRow w.heap.size 75 5 v l.length (rows Ss.cells l) ∧ Below w.heap.size w w'
theorem LO.ls {w w' : World} {l : List Ss} {e : Ending} (h : LO w l e w') : LS Ss.cells w l e w' := by
 obtain ⟨v, rfl, ho, hb⟩ := h
 obtain ⟨A, c, rfl, hc, hr⟩ := own_rd ho
 exact ⟨A, c, rfl, hc, hr, hb, NewA.own ho⟩
theorem clones_nil (w : World) : Calls Tryz.prog 64 #[.slice none 0 0] w (LO w []) := by
 have he : (binOp .eql 48 (.slice none 0 0) (.slice none 0 0)).run Tryz.prog w = .ok (.bool true) w := Lib.run_eql_slice_nil w _ _ none 0 0 0 0 Tryz.underlying48
 go_enter Tryz.func64, Tryz.ntmps64
 go_wp2_with fail
 go_ret
 exact ⟨_, rfl, World.ownsRow_nil _ _ _ _, Below.refl _ _⟩
theorem clones_some (g o : Nat) (l : List Ss) (n c B : Nat) (w : World) (hr : Rd w B (some ⟨g, o, none⟩) (rows Ss.cells l)) (hn : n = l.length) (hB : B ≤ w.heap.size) (hbig : n ≤ 100) :
  Calls Tryz.prog 64 #[.slice (some ⟨g, o, none⟩) n c] w (LO w l) := by
 obtain ⟨i0, hi, hz0, hz1, hz2⟩ := info_parts ssInfo
 have HR := hid (fun W (hW : Below w.heap.size w W) => hr.below hW hB)
 have HL := hid (rows_len (C := Ss.cells) Ss.len l)
 have H1 := hid (rows_one (C := Ss.cells) (l := l) Ss.ones)
 have HN := hid hn
 have HE : Hid (∀ W : World, (W.alloc (.cells #[] 75)).ownsRow W.heap.size 75 5 (.slice (some ⟨W.heap.size, 0, none⟩) 0 0) 0 []) := hid fun W => own_empty (Row.new _ _ #[]) (Nat.le_refl _)
 have he : (binOp .eql 48 (.slice (some ⟨g, o, none⟩) n c) (.slice none 0 0)).run Tryz.prog w = .ok (.bool false) w := Lib.run_eql_slice_nil w _ _ (some ⟨g, o, none⟩) n c 0 0 Tryz.underlying48
 clear hr hn
 go_enter Tryz.func64, Tryz.ntmps64
 go_wp2_with (refine wpl_append rfl (.tmp 5) (.tmp 6) 48 rfl w.heap.size 75 i0 _ 5 48 Tryz.underlying48 hi hz0 hz1 hz2 rfl (by omega) (.slice (some ⟨w.heap.size, 0, none⟩) 0 0) 0 _ rfl (HE.out w) B (some ⟨g, o, none⟩) n c (rows Ss.cells l) rfl ?_ ?_ ?_ ?_ ?_ ?_ ?_; intro v' w2 hown2 hb2 hg2; have HO2 := hid hown2; have HB2 := hid hb2; clear hown2 hb2 hg2)
 rotate_left
 ·
  exact hid (HR.out _ ((Below.refl _ _).alloc (Nat.le_refl _) _))
 ·
  exact hid (by rw [HL.out, HN.out])
 ·
  exact hid H1.out
 ·
  exact hid (le_maxLen (by omega))
 ·
  exact hid (by omega)
 ·
  exact hid (by simp)
 go_ret
 have ho := HO2.out
 rw [Nat.zero_add, List.nil_append, HN.out] at ho
 exact ⟨v', rfl, ho, ((Below.refl _ _).alloc (Nat.le_refl _) _).trans HB2.out⟩
theorem clones_any (v : Value) (l : List Ss) (w : World) (h : w.ownsRow 0 75 5 v l.length (rows Ss.cells l)) (hbig : l.length ≤ 100) :
  Calls Tryz.prog 64 #[v] w (LO w l) := by
 obtain ⟨A, c, e, hnc, hrd⟩ := own_rd h
 rcases h.2 with ⟨e2, h0⟩ | ⟨g, cap, cur, e2, -⟩
 ·
  have hnil : l = [] := List.eq_nil_of_length_eq_zero h0
  subst hnil
  rw [e2]
  exact clones_nil w
 ·
  rw [e2] at e
  simp only [Value.slice.injEq, true_and] at e
  obtain ⟨rfl, rfl⟩ := e
  rw [e2]
  exact clones_some g 0 l l.length cap w.heap.size w hrd rfl (Nat.le_refl _) hbig
theorem splice_same {α : Type} {xs X : List α} {o : Nat} (h : ∀ j u, X[j]? = some u → xs[o + j]? = some u) : splice xs o X = xs := by
 have e : (xs.drop o).take X.length = X := by
  apply List.ext_getElem?
  intro j
  rw [List.getElem?_take, List.getElem?_drop]
  by_cases hj : j < X.length
  ·
   rw [if_pos hj, h j _ (List.getElem?_eq_getElem hj), List.getElem?_eq_getElem hj]
  ·
   rw [if_neg hj, List.getElem?_eq_none (by omega)]
 unfold splice
 have h1 := List.take_append_drop o xs
 have h2 := List.take_append_drop X.length (xs.drop o)
 rw [e, List.drop_drop] at h2
 rw [h2, h1]
/-- a list of one's own, the same cells written again -/
theorem own_same {w : World} {B m n g cap : Nat} {e : TypeId} {xs X : List Value} (h : w.ownsRow B e m (.slice (some ⟨g, 0, none⟩) n cap) n xs) (o : Nat) (hX : ∀ j u, X[j]? = some u → xs[o + j]? = some u) (hl : o + X.length ≤ xs.length) :
  (w.setCells g o X).ownsRow B e m (.slice (some ⟨g, 0, none⟩) n cap) n xs ∧ w.grownBy (w.setCells g o X) (some g) ∧ w.there g o X.length := by
 rcases h.2 with ⟨hv, _⟩ | ⟨g', cap', cur, hv, hb, hh, h1, h2, h3, h4⟩
 ·
  cases hv
 ·
  simp only [Value.slice.injEq, Option.some.injEq, Addr.mk.injEq, and_true, true_and] at hv
  obtain ⟨rfl, rfl⟩ := hv
  have hr : Row w g e cur.toList := by unfold Row; simpa using hh
  have hle : xs.length ≤ cur.toList.length := by rw [← h4, List.length_take]; omega
  obtain ⟨r1, r2⟩ := hr.setCells X o (by omega)
  rw [splice_same (fun j u hu => by
   have h5 := hX j u hu
   rw [← h4, List.getElem?_take] at h5
   split at h5
   ·
    exact h5
   ·
    cases h5)] at r1
  exact ⟨⟨h.1, .inr ⟨g, cap, cur, rfl, hb, by unfold Row at r1; simpa using r1, h1, h2, h3, h4⟩⟩, r2, hr.there _ _ (by omega)⟩
theorem list_has (p : Nat) (v : Value) (T : List Ss) (w : World) (h : HasT w 94 p v T) : Calls Tryz.prog 38 #[.pointer (some ⟨p, 0, none⟩)] w (LO w T) := by
 have hw := h.wf.le
 have hc0 := h.c0
 have HCL := hid (fun W (hW : Below w.heap.size w W) => clones_any v T W (h.below hW).own (by omega))
 have HOK := hid (fun k (hk : k < T.length) => (h.wf.ok T[k] (List.getElem_mem hk)).t)
 have HZ := hid ssSize
 have HRL := hid (rows_len (C := Ss.cells) Ss.len T)
 have HGET := hid (fun k (hk : k < T.length) j u (hu : (Ss.cells T[k])[j]? = some u) => (rows_get (C := Ss.cells) Ss.len T k j hk (by have := (List.getElem?_eq_some_iff.1 hu).1; rw [Ss.len] at this; exact this)).trans hu)
 obtain ⟨n, hn⟩ : ∃ n, T.length = n := ⟨_, rfl⟩
 have HN := hid hn
 rw [hn] at hw
 clear h
 go_enter Tryz.func38, Tryz.ntmps38
 go_wp2_with (go_at_call 64; refine (HCL.out _ (Below.refl _ _)).mono ?_; rintro e w2 ⟨v2, rfl, ho2, hb2⟩; rw [hn] at ho2; have HO2 := hid ho2; have HB2 := hid hb2; clear ho2 hb2; obtain ⟨A2, c2, e2, hc2, hrd2⟩ := own_rd HO2.out; subst e2; clear hrd2)
 clear hn HCL hc0
 by_cases h0 : n = 0
 ·
  subst h0
  go_loop [15] (fun i => i = .int .i64 0) (fun _ => 0)
  case atStart => rfl
  case round =>
   obtain rfl := hrel
   go_wp2_with fail
   go_ret
   exact ⟨_, rfl, by rw [HN.out]; exact HO2.out, HB2.out⟩
 obtain ⟨g, cap, e3, -, -⟩ := own_some HO2.out (by omega)
 simp only [Value.slice.injEq, true_and] at e3
 obtain ⟨rfl, rfl⟩ := e3
 go_loopw [15] (fun i wr => ∃ k : Nat, k ≤ n ∧ i = .int .i64 (k : Int) ∧ wr.ownsRow w.heap.size 75 5 (.slice (some ⟨g, 0, none⟩) n c2) n (rows Ss.cells T) ∧ Below w.heap.size w wr) (fun i _ => n - (intOf i).toNat)
 case atStart => exact ⟨0, by omega, rfl, HO2.out, HB2.out⟩
 case round =>
  obtain ⟨k, hk, rfl, ho, hbe⟩ := hrel
  have HBE := hid hbe
  have HO := hid ho
  by_cases hlt : k < n
  ·
   have hkl : k < T.length := by rw [HN.out]; exact hlt
   obtain ⟨hge, hglt⟩ := ho.lt g rfl
   have hrg : wr.rangeAt g (k * 5) (Ss.cells T[k]) := fun j u hu => by
    have := ho.cells rfl (k * 5 + j) u (HGET.out k hkl j u hu)
    rw [add_lit, Nat.zero_add] at this
    exact this
   have HAP := hid (fun W => apart_any T[k] (HOK.out k hkl) W)
   have HG := hid (HGET.out k hkl)
   have HC5 : Hid ((Ss.cells T[k]).length = 5) := hid (Ss.len _)
   have HC1 : Hid ((Ss.cells T[k]).all (·.oneCell') = true) := hid (Ss.one _)
   have HFIT : Hid (k * 5 + 5 ≤ (rows Ss.cells T).length) := hid (by rw [HRL.out, HN.out]; omega)
   generalize Ss.cells T[k] = X at *
   have HRG := hid hrg
   have HGL := hid hglt
   have HGE := hid hge
   have hi0 : (0 : Int) ≤ (k : Int) := by omega
   have hi1 : (k : Int) < (n : Int) := by omega
   clear ho hbe hrg hglt hge
   go_wp2_with (first
    | (refine wpList_load_mid rfl 75 (.tmp 18) rfl g (k * 5) rfl X _ HRG.out Tryz.underlying75 rfl (by rw [HC5.out]; exact HZ.out) ?_)
    | (refine wpl_store_st rfl (.tmp 5) (.tmp 19) rfl HZ.out wr.heap.size ss0.cells X rfl rfl (Row.new _ _ _) ?_ (hid rfl) (hid HC5.out) (hid HC1.out); intro w3 hr3 hg3; have hb3 : Below wr.heap.size wr w3 := ((Below.refl _ _).alloc (Nat.le_refl _) _).trans (below_grown hg3 (Nat.le_refl _) (by simp)); have HB3 := hid hb3; have HR3 := hid hr3; clear hb3 hg3 hr3)
    | (refine wpList_load_row rfl 75 (.tmp 5) rfl wr.heap.size rfl 75 X.toArray (0, 0) _ HR3.out.arr' Tryz.underlying75 rfl (by rw [List.size_toArray, HC5.out]; exact HZ.out) ?_)
    | (go_at_call 65; refine (HAP.out _).mono ?_; rintro e w4 ⟨rfl, hb4⟩; have hb5 := HB3.out.trans (hb4.mono HB3.out.size); have HB5 := hid hb5; have HS := hid (own_same (own_below HO.out hb5) (k * 5) HG.out (by rw [HC5.out]; exact HFIT.out)); clear hb4 hb5)
    | (refine wpList_store_mid rfl 75 (.tmp 24) (.tmp 23) rfl g (k * 5) X.toArray rfl rfl HS.out.2.2 (by rw [List.size_toArray, HC5.out]; exact HZ.out) (by simpa using HC1.out) ?_))
   refine ⟨⟨k + 1, by omega, by go_num, HS.out.1, ?_⟩, by simp [intOf]; omega⟩
   have hb6 := HBE.out.trans (HB5.out.mono HBE.out.size)
   exact hb6.trans (below_grown HS.out.2.1 HGE.out hb6.size)
  ·
   obtain rfl : k = n := by omega
   clear ho hbe
   go_wp2_with fail
   go_ret
   exact ⟨_, rfl, by rw [HN.out]; exact HO.out, HBE.out⟩
theorem list_any (p : Nat) (fp : List Nat) (T : List Ss) (w : World) (h : Gk8 94 p T fp w) : Calls Tryz.prog 38 #[.pointer (some ⟨p, 0, none⟩)] w (LS Ss.cells w T) := by
 obtain ⟨v, -, h⟩ := h
 exact (list_has p v T w h).mono fun e w' hh => LO.ls hh
end Go.Proofs.YtgednnjmcjhfmaaGreatDoor
namespace Go.Proofs.YtgednnjmcjhfmaaGreatDoor
set_option maxHeartbeats 80000000
/-! ### numbers as the walk has them -/
theorem wrap_u32_nat (n : Nat) (h : n < 2 ^ 32) : IntKind.u32.wrap (n : Int) = n := by
 simp [IntKind.wrap, IntKind.bits, IntKind.signed]; omega
theorem wrap_u64_nat (n : Nat) (h : n < 2 ^ 64) : IntKind.u64.wrap (n : Int) = n := by
 simp [IntKind.wrap, IntKind.bits, IntKind.signed]; omega
theorem wrap_u8_nat (n : Nat) (h : n < 2 ^ 8) : IntKind.u8.wrap (n : Int) = n := by
 simp [IntKind.wrap, IntKind.bits, IntKind.signed]; omega
theorem xor32 (x y : BitVec 32) : bits .xor .u32 (x.toNat : Int) (y.toNat : Int) = ((x ^^^ y).toNat : Int) := by
 have e : ∀ z : BitVec 32, BitVec.ofInt IntKind.u32.bits (z.toNat : Int) = z := fun z => by
  show BitVec.ofInt 32 (z.toNat : Int) = z
  rw [BitVec.ofInt_natCast]; simp
 show IntKind.u32.wrap ((BitVec.ofInt IntKind.u32.bits (x.toNat : Int) ^^^ BitVec.ofInt IntKind.u32.bits (y.toNat : Int)).toNat : Int) = _
 rw [e, e]
 exact wrap_u32_nat _ (BitVec.isLt _)
theorem xor64 (x y : BitVec 64) : bits .xor .u64 (x.toNat : Int) (y.toNat : Int) = ((x ^^^ y).toNat : Int) := by
 have e : ∀ z : BitVec 64, BitVec.ofInt IntKind.u64.bits (z.toNat : Int) = z := fun z => by
  show BitVec.ofInt 64 (z.toNat : Int) = z
  rw [BitVec.ofInt_natCast]; simp
 show IntKind.u64.wrap ((BitVec.ofInt IntKind.u64.bits (x.toNat : Int) ^^^ BitVec.ofInt IntKind.u64.bits (y.toNat : Int)).toNat : Int) = _
 rw [e, e]
 exact wrap_u64_nat _ (BitVec.isLt _)
theorem xor8 (x y : BitVec 8) : bits .xor .u8 (x.toNat : Int) (y.toNat : Int) = ((x ^^^ y).toNat : Int) := by
 have e : ∀ z : BitVec 8, BitVec.ofInt IntKind.u8.bits (z.toNat : Int) = z := fun z => by
  show BitVec.ofInt 8 (z.toNat : Int) = z
  rw [BitVec.ofInt_natCast]; simp
 show IntKind.u8.wrap ((BitVec.ofInt IntKind.u8.bits (x.toNat : Int) ^^^ BitVec.ofInt IntKind.u8.bits (y.toNat : Int)).toNat : Int) = _
 rw [e, e]
 exact wrap_u8_nat _ (BitVec.isLt _)
/-! ### the register -/
def poly : BitVec 32 := 2197175160#32
/-- one step -/
def rs (x : BitVec 32) : BitVec 32 := (x >>> 1) ^^^ (if x.getLsbD 0 then poly else 0#32)
/-- so many -/
def rsn : Nat → BitVec 32 → BitVec 32
 | 0, x => x
 | k + 1, x => rs (rsn k x)
/-- by a byte -/
def byStep (r : BitVec 32) (c : UInt8) : BitVec 32 := rsn 8 (r ^^^ c.toBitVec.setWidth 32)
def byAll (r : BitVec 32) (l : List UInt8) : BitVec 32 := l.foldl byStep r
theorem half32 (x : BitVec 32) : ((x.toNat : Int) / (2 : Int)) = ((x >>> 1).toNat : Int) := by
 simp [BitVec.toNat_ushiftRight, Nat.shiftRight_eq_div_pow]
theorem lsb_mod (x : BitVec 32) : x.getLsbD 0 = decide (x.toNat % 2 = 1) := by
 rw [BitVec.getLsbD, Nat.testBit_zero]
theorem and_one (x : BitVec 32) : bits .and .u32 (x.toNat : Int) 1 = ((x.toNat % 2 : Nat) : Int) := by
 have e : BitVec.ofInt IntKind.u32.bits (x.toNat : Int) = x := by
  show BitVec.ofInt 32 (x.toNat : Int) = x
  rw [BitVec.ofInt_natCast]; simp
 have e1 : BitVec.ofInt IntKind.u32.bits 1 = 1#32 := rfl
 show IntKind.u32.wrap ((BitVec.ofInt IntKind.u32.bits (x.toNat : Int) &&& BitVec.ofInt IntKind.u32.bits 1).toNat : Int) = _
 rw [e, e1]
 have h : (x &&& 1#32).toNat = x.toNat % 2 := by
  rw [BitVec.toNat_and]
  show x.toNat &&& 1 = _
  rw [Nat.and_one_is_mod]
 show IntKind.u32.wrap (((x &&& 1#32).toNat : Nat) : Int) = _
 rw [h]
 exact wrap_u32_nat _ (by omega)
/-- the code's step -/
theorem rs_code (x : BitVec 32) :
  bits .xor .u32 ((x.toNat : Int) / 2) (bits .and .u32 2197175160 (-bits .and .u32 (x.toNat : Int) 1 % 4294967296)) = ((rs x).toNat : Int) := by
 rw [and_one, half32, rs, lsb_mod]
 rcases Nat.mod_two_eq_zero_or_one x.toNat with h | h
 ·
  rw [h]
  have e : bits .and .u32 2197175160 (-((0 : Nat) : Int) % 4294967296) = ((0#32 : BitVec 32).toNat : Int) := by decide +kernel
  rw [e, xor32]
  simp
 ·
  rw [h]
  have e : bits .and .u32 2197175160 (-((1 : Nat) : Int) % 4294967296) = (poly.toNat : Int) := by decide +kernel
  rw [e, xor32]
  simp
/-- the document's step -/
theorem rs_odd (x : BitVec 32) (h : x.toNat % 2 = 1) : bits .xor .u32 ((x.toNat : Int) / 2) 2197175160 = ((rs x).toNat : Int) := by
 rw [half32, rs, lsb_mod]
 have e : (2197175160 : Int) = (poly.toNat : Int) := by decide +kernel
 rw [e, xor32]
 simp [h]
theorem rs_even (x : BitVec 32) (h : ¬ x.toNat % 2 = 1) : ((x.toNat : Int) / 2) = ((rs x).toNat : Int) := by
 rw [half32, rs, lsb_mod]
 simp [h]
theorem rs_xor (x y : BitVec 32) : rs (x ^^^ y) = rs x ^^^ rs y := by
 unfold rs
 rw [BitVec.ushiftRight_xor_distrib, BitVec.getLsbD_xor]
 cases x.getLsbD 0 <;> cases y.getLsbD 0 <;> simp
 ·
  rw [BitVec.xor_assoc]
 ·
  rw [BitVec.xor_assoc, BitVec.xor_assoc, BitVec.xor_comm poly]
 ·
  rw [BitVec.xor_assoc (x >>> 1) poly, ← BitVec.xor_assoc poly, BitVec.xor_comm poly, BitVec.xor_assoc (y >>> 1), BitVec.xor_self, BitVec.xor_zero]
theorem rsn_xor : ∀ (k : Nat) (x y : BitVec 32), rsn k (x ^^^ y) = rsn k x ^^^ rsn k y
 | 0, _, _ => rfl
 | k + 1, x, y => by rw [rsn, rsn_xor k, rs_xor]; rfl
/-- a register whose lowest k bits are none just moves down -/
theorem rsn_low : ∀ (k : Nat) (x : BitVec 32), (∀ i < k, x.getLsbD i = false) → rsn k x = x >>> k
 | 0, x, _ => by simp [rsn]
 | k + 1, x, h => by
  rw [rsn, rsn_low k x (fun i hi => h i (by omega)), rs, BitVec.getLsbD_ushiftRight, h (k + 0) (by omega)]
  rw [BitVec.shiftRight_add]
  simp
theorem byAll_app (r : BitVec 32) (a b : List UInt8) : byAll r (a ++ b) = byAll (byAll r a) b := by simp [byAll]
/-- the table's way: the lowest byte by the table, the rest moves down -/
theorem byStep_table (r : BitVec 32) (c : UInt8) : (r >>> 8) ^^^ rsn 8 ((r.setWidth 8 ^^^ c.toBitVec).setWidth 32) = byStep r c := by
 have h1 : r = ((r >>> 8) <<< 8) ^^^ (r.setWidth 8).setWidth 32 := by
  apply BitVec.eq_of_getLsbD_eq
  intro i hi
  rw [BitVec.getLsbD_xor, BitVec.getLsbD_shiftLeft, BitVec.getLsbD_ushiftRight, BitVec.getLsbD_setWidth, BitVec.getLsbD_setWidth]
  by_cases h8 : i < 8
  ·
   simp [hi, h8]
  ·
   simp [hi, h8, show 8 + (i - 8) = i by omega]
 have h2 : rsn 8 ((r >>> 8) <<< 8) = r >>> 8 := by
  rw [rsn_low 8 _ (fun i hi => by simp [hi])]
  apply BitVec.eq_of_getLsbD_eq
  intro i hi
  simp only [BitVec.getLsbD_ushiftRight, BitVec.getLsbD_shiftLeft]
  by_cases h : 8 + i < 32
  ·
   simp [h]
  ·
   simp [h]; exact (BitVec.getLsbD_of_ge r (8 + i) (by omega))
 have h3 : (r.setWidth 8 ^^^ c.toBitVec).setWidth 32 = (r.setWidth 8).setWidth 32 ^^^ c.toBitVec.setWidth 32 := by
  rw [BitVec.setWidth_xor]
 rw [byStep]
 conv => rhs; rw [h1]
 rw [BitVec.xor_assoc, rsn_xor, h2, h3]
theorem idx_code (r : BitVec 32) (b : UInt8) : bits .xor .u8 ((r.toNat : Int) % 256) (b.toNat : Int) = ((r.setWidth 8 ^^^ b.toBitVec).toNat : Int) := by
 have e : ((r.toNat : Int) % 256) = ((r.setWidth 8).toNat : Int) := by rw [BitVec.toNat_setWidth]; rfl
 rw [e]
 exact xor8 _ _
theorem tab_code (r : BitVec 32) (b : UInt8) :
  bits .xor .u32 ((r.toNat : Int) / 256) ((rsn 8 (BitVec.ofNat 32 (r.setWidth 8 ^^^ b.toBitVec).toNat)).toNat : Int) = ((byStep r b).toNat : Int) := by
 have e : ((r.toNat : Int) / (256 : Int)) = ((r >>> 8).toNat : Int) := by
  rw [BitVec.toNat_ushiftRight, Nat.shiftRight_eq_div_pow]
  rfl
 rw [e, xor32, ← byStep_table, BitVec.ofNat_toNat]
theorem not_code (x : BitVec 32) : bits .xor .u32 4294967295 (x.toNat : Int) = ((~~~x).toNat : Int) := by
 have e : (4294967295 : Int) = ((BitVec.allOnes 32).toNat : Int) := rfl
 rw [e, xor32, BitVec.allOnes_xor]
theorem less_code (x : BitVec 32) : (4294967295 : Int) - (x.toNat : Int) = ((~~~x).toNat : Int) := by
 rw [BitVec.toNat_not]
 have := x.isLt
 omega
/-! ### four neighbouring bytes -/
/-! ### the chain -/
def fac : BitVec 64 := 1099511628211#64
def orig : BitVec 64 := 14695981039346656037#64
def linkStep (h : BitVec 64) (c : UInt8) : BitVec 64 :=
 ((h ^^^ c.toBitVec.setWidth 64) * fac) ^^^ (((h ^^^ c.toBitVec.setWidth 64) * fac) >>> 29)
/-- eight bytes of a length -/
def long8 (n : Nat) : List UInt8 := (List.range 8).map fun i => UInt8.ofNat (n / 2 ^ (8 * i))
def chainOf (h : BitVec 64) (l : List UInt8) : BitVec 64 := (l ++ long8 l.length).foldl linkStep (h ^^^ orig)
theorem mul_code (x : BitVec 64) (m : Nat) : IntKind.u64.wrap ((x.toNat : Int) * (m : Int)) = ((x * BitVec.ofNat 64 m).toNat : Int) := by
 rw [BitVec.toNat_mul, BitVec.toNat_ofNat, Nat.mul_mod_mod]
 show (x.toNat : Int) * (m : Int) % 2 ^ 64 = _
 rw [← Int.natCast_mul]
 rfl
theorem div_code (x : BitVec 64) : ((x.toNat : Int) / (536870912 : Int)) = ((x >>> 29).toNat : Int) := by
 rw [BitVec.toNat_ushiftRight, Nat.shiftRight_eq_div_pow]
 rfl
theorem byte_up (c : UInt8) : ((c.toNat : Nat) : Int) = ((c.toBitVec.setWidth 64).toNat : Int) := by
 rw [BitVec.toNat_setWidth, Nat.mod_eq_of_lt]
 ·
  rfl
 ·
  have : c.toBitVec.toNat < 2 ^ 8 := c.toBitVec.isLt
  omega
/-- the step as the walk has it -/
theorem link_code (h : BitVec 64) (c : UInt8) :
  bits .xor .u64 (IntKind.u64.wrap (bits .xor .u64 (h.toNat : Int) (c.toNat : Int) * 1099511628211)) (IntKind.u64.wrap (bits .xor .u64 (h.toNat : Int) (c.toNat : Int) * 1099511628211) / 536870912)
   = ((linkStep h c).toNat : Int) := by
 have e : (1099511628211 : Int) = ((1099511628211 : Nat) : Int) := rfl
 rw [byte_up, xor64, e, mul_code, div_code, xor64]
 rfl
end Go.Proofs.YtgednnjmcjhfmaaGreatDoor
namespace Go.Proofs.YtgednnjmcjhfmaaGreatDoor
open Go.RowKit
set_option maxRecDepth 10000
set_option maxHeartbeats 80000000
theorem ret_int {k : IntKind} {a b : Int} (h : a = b) : Ending.returned (.int k a) = .returned (.int k b) := by rw [h]
theorem rs_calls (x : BitVec 32) (w : World) :
  Calls Tryz.prog 166 #[.int .u32 (x.toNat : Int)] w fun e w' => e = .returned (.int .u32 ((rs x).toNat : Int)) ∧ w = w' := by
 have h1 : x.toNat < 4294967296 := x.isLt
 have HC := hid (rs_code x)
 go_enter Tryz.func166, Tryz.ntmps166
 go_wp2
 go_ret
 exact ⟨ret_int HC.out, rfl⟩
theorem mod2_true (x : BitVec 32) (h : x.toNat % 2 = 1) : (((x.toNat : Int) % 2) == 1) = true := by simp; omega
theorem mod2_false (x : BitVec 32) (h : ¬ x.toNat % 2 = 1) : (((x.toNat : Int) % 2) == 1) = false := by simp; omega
theorem steps_calls (x : BitVec 32) (w : World) :
  Calls Tryz.prog 167 #[.int .u32 (x.toNat : Int), .int .i64 8] w fun e w' => e = .returned (.int .u32 ((rsn 8 x).toNat : Int)) ∧ w = w' := by
 go_enter Tryz.func167, Tryz.ntmps167
 go_wp2
 go_loop [0, 5] (fun r i => ∃ k : Nat, k ≤ 8 ∧ i = .int .i64 k ∧ r = .int .u32 ((rsn k x).toNat : Int)) (fun _ i => 8 - (intOf i).toNat)
 case atStart => exact ⟨0, by omega, rfl, rfl⟩
 case round =>
  obtain ⟨k, hk, rfl, rfl⟩ := hrel
  have h1 : (rsn k x).toNat < 4294967296 := (rsn k x).isLt
  by_cases hlt : k < 8
  ·
   by_cases ho : (rsn k x).toNat % 2 = 1
   ·
    have HC := hid (rs_odd _ ho)
    have ht := mod2_true _ ho
    clear ho
    go_wp2_with fail
    go_round
    case rel => exact ⟨k + 1, by omega, by go_num, by rw [HC.out]; rfl⟩
    case measure => simp [intOf]; omega
   ·
    have HC := hid (rs_even _ ho)
    have ht := mod2_false _ ho
    clear ho
    go_wp2_with fail
    go_round
    case rel => exact ⟨k + 1, by omega, by go_num, by rw [HC.out]; rfl⟩
    case measure => simp [intOf]; omega
  ·
   obtain rfl : k = 8 := by omega
   go_wp2_with fail
   go_ret
   exact ⟨rfl, rfl⟩
/-- the table's first k entries; the others are none -/
def tab (k : Nat) : List Value := (List.range k).map (fun i => Value.int .u32 ((rsn 8 (BitVec.ofNat 32 i)).toNat : Int)) ++ List.replicate (256 - k) (.int .u32 0)
theorem tab_len (k : Nat) (h : k ≤ 256) : (tab k).length = 256 := by simp [tab]; omega
theorem tab_zero : tab 0 = List.replicate 256 (.int .u32 0) := by simp only [tab, List.range_zero, List.map_nil, List.nil_append, Nat.sub_zero]
theorem tab_set (k : Nat) (h : k < 256) : (tab k).set k (.int .u32 ((rsn 8 (BitVec.ofNat 32 k)).toNat : Int)) = tab (k + 1) := by
 apply List.ext_getElem?
 intro j
 rw [List.getElem?_set]
 by_cases hj : k = j
 ·
  subst hj
  rw [if_pos rfl, if_pos (by rw [tab_len k (by omega)]; exact h), tab, List.getElem?_append_left (by simp)]
  simp
 ·
  rw [if_neg hj]
  by_cases hlt : j < k
  ·
   rw [tab, tab, List.getElem?_append_left (by simpa using hlt), List.getElem?_append_left (by simp; omega)]
   simp [List.getElem?_range hlt, List.getElem?_range (show j < k + 1 by omega)]
  ·
   rw [tab, tab, List.getElem?_append_right (by simp; omega), List.getElem?_append_right (by simp; omega)]
   simp [List.getElem?_replicate]
   by_cases h2 : j < 256
   ·
    rw [if_pos (by omega), if_pos (by omega)]
   ·
    rw [if_neg (by omega), if_neg (by omega)]
theorem tab_get (i : Nat) (h : i < 256) : (tab 256)[i]? = some (.int .u32 ((rsn 8 (BitVec.ofNat 32 i)).toNat : Int)) := by
 rw [tab, List.getElem?_append_left (by simpa using h)]
 simp [List.getElem?_range h]
theorem tab_one : ∀ u ∈ tab 256, u.oneCell' = true := by
 intro u hu
 simp only [tab, List.mem_append, List.mem_map, List.mem_replicate] at hu
 rcases hu with ⟨i, _, rfl⟩ | ⟨_, rfl⟩ <;> rfl
def z256 : Array Value := (List.replicate 256 (.int .u32 0)).toArray
theorem zero256 (w : World) : (zeroValue 197).run Tryz.prog w = .ok (.agg z256) w := by kernel_rfl
theorem z256_list : z256.toList = tab 0 := by rw [tab_zero]; rfl
set_option maxRecDepth 100000 in
theorem table_calls (w : World) :
  Calls Tryz.prog 156 #[] w fun e w' => e = .returned (.agg (tab 256).toArray) ∧ Below w.heap.size w w' := by
 have hz := zero256
 go_enter Tryz.func156, Tryz.ntmps156
 go_wp2_with fail
 go_loopw [4] (fun i wr => ∃ k : Nat, k ≤ 256 ∧ i = .int .i64 k ∧ Row wr w.heap.size 197 (tab 0) ∧ Row wr (w.heap.size + 1) 197 (tab k) ∧ Below w.heap.size w wr) (fun i _ => 256 - (intOf i).toNat)
 case atStart =>
  have h1 := Row.new w 197 z256
  have h2 := Row.new (w.alloc (.cells z256 197)) 197 z256
  rw [z256_list] at h1 h2
  simp only [World.alloc, Array.size_push] at h2
  exact ⟨0, by omega, rfl, h1.alloc _, h2, ((Below.refl _ _).alloc (Nat.le_refl _) _).alloc (by simp) _⟩
 case round =>
  obtain ⟨k, hk, rfl, hr0, hr1, hbe⟩ := hrel
  by_cases hlt : k < 256
  ·
   obtain ⟨u, hu⟩ : ∃ u, (tab k)[k]? = some u := ⟨_, List.getElem?_eq_getElem (by rw [tab_len k hk]; exact hlt)⟩
   have hc := (hr1.cell k).trans hu
   have hf := hr1.frozen k
   have hst := hr1.set_ k (.int .u32 ((rsn 8 (BitVec.ofNat 32 k)).toNat : Int))
   have hst0 := hr0.far (p := ⟨w.heap.size + 1, k, none⟩) (by simp) (.int .u32 ((rsn 8 (BitVec.ofNat 32 k)).toNat : Int))
   have hb2 := hbe.setCell (p := ⟨w.heap.size + 1, k, none⟩) (by simp) (.int .u32 ((rsn 8 (BitVec.ofNat 32 k)).toNat : Int))
   rw [tab_set k hlt] at hst
   have HS := hid hst
   have HS0 := hid hst0
   have HB := hid hb2
   clear hst hr0 hr1 hst0 hb2 hbe hu
   have hd : decide ((k : Int) < 256) = true := by simp; omega
   go_wp2_with fail
   go_loop [3, 9] (fun r i => ∃ j : Nat, j ≤ 8 ∧ i = .int .i64 j ∧ r = .int .u32 ((rsn j (BitVec.ofNat 32 k)).toNat : Int)) (fun _ i => 8 - (intOf i).toNat)
   case atStart => exact ⟨0, by omega, rfl, by simp [rsn]; omega⟩
   case round =>
    obtain ⟨j, hj, rfl, rfl⟩ := hrel
    by_cases hjl : j < 8
    ·
     go_wp2_with (go_at_call 166; refine (rs_calls _ _).mono ?_; rintro e w' ⟨rfl, rfl⟩)
     go_round
     case rel => exact ⟨j + 1, by omega, by go_num, rfl⟩
     case measure => simp [intOf]; omega
    ·
     obtain rfl : j = 8 := by omega
     go_wp2_with fail
     go_roundw
     case rel => exact ⟨k + 1, by omega, by go_num, HS0.out, HS.out, HB.out⟩
     case measure => simp [intOf]; omega
  ·
   obtain rfl : k = 256 := by omega
   have HT : Hid ((tab 256).toArray.size = 256) := hid (by simpa using tab_len 256 (by omega))
   have HR1 := hid hr1
   have HR0 := hid hr0
   have hb0 := hr0.lt
   clear hr0 hr1
   go_wp2_with (first
    | (refine wpList_load_row rfl 197 (.tmp 1) rfl (w.heap.size + 1) rfl 197 (tab 256).toArray (0, 0) _ HR1.out Tryz.underlying197 rfl (by rw [HT.out]; kernel_rfl) ?_)
    | (refine wpList_store_row rfl 197 (.tmp 0) (.tmp 18) rfl w.heap.size (tab 256).toArray rfl rfl 197 (tab 0).toArray HR0.out (by rw [HT.out]; kernel_rfl) (by rw [HT.out]; simpa using tab_len 0 (by omega)) ?_ ?_))
   ·
    rw [Array.all_eq_true']
    intro u hu
    exact tab_one u (by simpa using hu)
   ·
    have hg := setRow_heap wr w.heap.size _ (tab 256).toArray 197 (0, 0) HR0.out
    exact bodyPost_ret (v := .agg (tab 256).toArray) (results_cell_row rfl _ _ w.heap.size 197 (tab 256).toArray (0, 0) _ rfl hg Tryz.underlying197 rfl (by rw [HT.out]; kernel_rfl)) rfl
     ⟨rfl, hbe.trans (below_grown (grownBy_setRow wr w.heap.size _) (Nat.le_refl _) (by omega))⟩
/-- what Add answers -/
def addS (x : BitVec 32) (l : List UInt8) : BitVec 32 := ~~~ byAll (~~~x) l
set_option maxRecDepth 100000 in
theorem add_calls (x : BitVec 32) (s : ByteArray) (w : World) (hs : s.size ≤ 1125899906842624) :
  Calls Tryz.prog 144 #[.int .u32 (x.toNat : Int), .string s] w fun e w' => e = .returned (.int .u32 ((addS x (sb s)).toNat : Int)) ∧ Below w.heap.size w w' := by
 have hz := zero256
 have HT : Hid ((tab 256).toArray.size = 256) := hid (by simpa using tab_len 256 (by omega))
 have HZ : Hid (z256.size = 256) := hid (by rfl)
 have hsg : IntKind.u32.signed = false := rfl
 have hmx : IntKind.u32.max = 4294967295 := rfl
 go_enter Tryz.func144, Tryz.ntmps144
 go_wp2_with (first
  | (go_at_call 156; refine (table_calls _).mono ?_; rintro e w1 ⟨rfl, hb1⟩)
  | (refine wpList_store_row rfl 197 (.tmp 5) (.tmp 9) rfl w1.heap.size (tab 256).toArray rfl rfl 197 z256 (heap_alloc_new _ _) (by rw [HT.out]; kernel_rfl) (by rw [HT.out, HZ.out]) ?_ ?_)
  | (with_reducible refine wpl_bytes rfl _ _ _ rfl 5 Tryz.underlying9 Tryz.underlying85 Tryz.underlying5 s rfl ?_; intro g c k w2 HG HC HR HB))

 ·
  rw [Array.all_eq_true']
  intro u hu
  exact tab_one u (by simpa using hu)
 have hb2 : Below w.heap.size w w2 := ((hb1.alloc hb1.size _).trans (below_grown (grownBy_setRow _ w1.heap.size _) (hb1.size) (by simp; have := hb1.size; omega))).trans (HB.mono (by simp [World.setRow]; have := hb1.size; omega))
 have hT : Row w2 w1.heap.size 197 (tab 256) := Row.below (by
  have := setRow_heap (w1.alloc (.cells z256 197)) w1.heap.size _ (tab 256).toArray 197 (0, 0) (heap_alloc_new _ _)
  exact this) HB (by simp [World.setRow])
 have HB2 := hid hb2
 have HT2 := hid hT
 have HS := hid (sb_len s)
 clear hb2 hT HB hb1
 have hn := not_code x
 go_loop [6, 15] (fun r i => ∃ k : Nat, k ≤ s.size ∧ i = .int .i64 k ∧ r = .int .u32 ((byAll (~~~x) ((sb s).take k)).toNat : Int)) (fun _ i => s.size - (intOf i).toNat)
 case atStart => exact ⟨0, by omega, rfl, by rw [hn]; rfl⟩
 case round =>
  obtain ⟨k, hk, rfl, rfl⟩ := hrel
  by_cases hlt : k < s.size
  ·
   have hkl : k < (sb s).length := by rw [HS.out]; exact hlt
   have hc := HR.cell k
   rw [List.getElem?_append_left (by rw [bvs_len]; exact hkl)] at hc
   simp only [bvs, List.getElem?_map, List.getElem?_eq_getElem hkl, Option.map_some, bv] at hc
   have hstep : byAll (~~~x) ((sb s).take (k + 1)) = byStep (byAll (~~~x) ((sb s).take k)) (sb s)[k] := by
    rw [List.take_succ_eq_append_getElem hkl, byAll_app]; rfl
   generalize hb : (sb s)[k] = b at hc hstep
   generalize hx : byAll (~~~x) ((sb s).take k) = r at hstep ⊢
   have h1 : r.toNat < 4294967296 := r.isLt
   have h2 : b.toNat < 256 := UInt8.toNat_lt b
   have hix := idx_code r b
   have htc := tab_code r b
   generalize hm : (r.setWidth 8 ^^^ b.toBitVec).toNat = m at hix htc
   have hm2 : m < 256 := by rw [← hm]; exact BitVec.isLt _
   have hcell := (HT2.out.cell m).trans (tab_get m hm2)
   have HST := hid hstep
   have HTC := hid htc
   clear hb hx hstep htc hm
   go_wp2_with fail
   go_round
   case rel => exact ⟨k + 1, by omega, by go_num, by rw [HST.out, HTC.out]⟩
   case measure => simp [intOf]; omega
  ·
   obtain rfl : k = s.size := by omega
   have hxt : byAll (~~~x) ((sb s).take s.size) = byAll (~~~x) (sb s) := by rw [List.take_of_length_le (by rw [HS.out]; exact Nat.le_refl _)]
   have hn2 := not_code (byAll (~~~x) (sb s))
   rw [hxt]
   have HN := hid hn2
   clear hn2 hxt
   go_wp2_with fail
   go_ret
   exact ⟨ret_int HN.out, HB2.out⟩
theorem u32_zero : ((0#32 : BitVec 32).toNat : Int) = 0 := rfl
theorem sum_calls (s : ByteArray) (w : World) (hs : s.size ≤ 1125899906842624) :
  Calls Tryz.prog 117 #[.string s] w fun e w' => e = .returned (.int .u32 ((addS 0#32 (sb s)).toNat : Int)) ∧ Below w.heap.size w w' := by
 have P := fun W => add_calls 0#32 s W hs
 simp only [u32_zero] at P
 have H := hid P
 clear P
 go_enter Tryz.func117, Tryz.ntmps117
 go_wp2_with (go_at_call 144; refine (H.out _).mono ?_; rintro e w1 ⟨rfl, hb1⟩)
 go_ret
 exact ⟨rfl, hb1⟩
theorem u8_up32 (b : UInt8) : ((b.toNat : Nat) : Int) = ((b.toBitVec.setWidth 32).toNat : Int) := by
 rw [BitVec.toNat_setWidth, Nat.mod_eq_of_lt]
 ·
  rfl
 ·
  have : b.toBitVec.toNat < 2 ^ 8 := b.toBitVec.isLt
  omega
theorem in_code (r : BitVec 32) (b : UInt8) : bits .xor .u32 (r.toNat : Int) (b.toNat : Int) = ((r ^^^ b.toBitVec.setWidth 32).toNat : Int) := by
 rw [u8_up32, xor32]
theorem radd_calls (x : BitVec 32) (s : ByteArray) (w : World) (hs : s.size ≤ 1125899906842624) :
  Calls Tryz.prog 162 #[.int .u32 (x.toNat : Int), .string s] w fun e w' => e = .returned (.int .u32 ((addS x (sb s)).toNat : Int)) ∧ w = w' := by
 have hx1 : x.toNat < 4294967296 := x.isLt
 have HS := hid (sb_len s)
 go_enter Tryz.func162, Tryz.ntmps162
 go_wp2_with fail
 go_loop [5, 6] (fun r i => ∃ k : Nat, k ≤ s.size ∧ i = .int .i64 k ∧ r = .int .u32 ((byAll (~~~x) ((sb s).take k)).toNat : Int)) (fun _ i => s.size - (intOf i).toNat)
 case atStart => exact ⟨0, by omega, rfl, by rw [less_code]; rfl⟩
 case round =>
  obtain ⟨k, hk, rfl, rfl⟩ := hrel
  by_cases hlt : k < s.size
  ·
   have hkl : k < (sb s).length := by rw [HS.out]; exact hlt
   have hstep : byAll (~~~x) ((sb s).take (k + 1)) = byStep (byAll (~~~x) ((sb s).take k)) (s[k]'hlt) := by
    rw [List.take_succ_eq_append_getElem hkl, byAll_app]; rfl
   generalize hx : byAll (~~~x) ((sb s).take k) = r at hstep ⊢
   have HIN := hid (in_code r (s[k]'hlt))
   have h1 : r.toNat < 4294967296 := r.isLt
   have h2 : (s[k]'hlt).toNat < 256 := UInt8.toNat_lt _
   have HST := hid hstep
   clear hx hstep
   go_wp2_with (go_at_call 167; rw [HIN.out]; refine (steps_calls _ _).mono ?_; rintro e w' ⟨rfl, rfl⟩)
   go_round
   case rel => exact ⟨k + 1, by omega, by go_num, by rw [HST.out]; rfl⟩
   case measure => simp [intOf]; omega
  ·
   obtain rfl : k = s.size := by omega
   have hxt : byAll (~~~x) ((sb s).take s.size) = byAll (~~~x) (sb s) := by rw [List.take_of_length_le (by rw [HS.out]; exact Nat.le_refl _)]
   rw [hxt]
   generalize hb : byAll (~~~x) (sb s) = r
   have h3 : r.toNat < 4294967296 := r.isLt
   have HN := hid (less_code r)
   have HA : Hid (addS x (sb s) = ~~~r) := hid (by rw [addS, hb])
   clear hb hxt
   go_wp2_with fail
   go_ret
   exact ⟨ret_int (by rw [HA.out]; exact HN.out), rfl⟩
theorem rsum_calls (s : ByteArray) (w : World) (hs : s.size ≤ 1125899906842624) :
  Calls Tryz.prog 153 #[.string s] w fun e w' => e = .returned (.int .u32 ((addS 0#32 (sb s)).toNat : Int)) ∧ w = w' := by
 have P := fun W => radd_calls 0#32 s W hs
 simp only [u32_zero] at P
 have H := hid P
 clear P
 go_enter Tryz.func153, Tryz.ntmps153
 go_wp2_with (go_at_call 162; refine (H.out _).mono ?_; rintro e w1 ⟨rfl, rfl⟩)
 go_ret
 exact ⟨rfl, rfl⟩
end Go.Proofs.YtgednnjmcjhfmaaGreatDoor
namespace Go.Proofs.YtgednnjmcjhfmaaGreatDoor
open Go.RowKit
set_option maxHeartbeats 80000000
theorem zeroes_u8 (n : Nat) : Builtin.zeroCells #[Value.int .u8 0] n = (List.replicate n (Value.int .u8 0)).toArray := by
 apply Array.ext
 ·
  simp [Builtin.zeroCells]
 ·
  intro i h1 h2
  simp [Builtin.zeroCells, Nat.mod_one]
theorem run_append_zeros {P : Program} (w : World) (base : Nat) (t u ty e : TypeId) (i : TypeInfo) (ik : IntKind) (ht : P.underlying t = some (.slice e)) (hu : P.underlying u = some (.int ik)) (hi : P.info? e = some i) (hz : i.zero = some (.int .u8 0))
  (hsize : i.size = 1) (hby : i.bytes = 1) (v : Value) (n : Nat) (xs : List Value) (hown : w.ownsRow base e 1 v n xs) (m : Nat) (h0 : 0 < n) (h63 : n + m ≤ 140737488355328) (hbase : base ≤ w.heap.size) :
  ∃ v' w', (Builtin.append_ #[t, u] ty #[v, .int .i64 m]).run P w = .ok v' w' ∧ w'.ownsRow base e 1 v' (n + m) (xs ++ List.replicate m (.int .u8 0)) ∧ w.grownBy w' v.ownBlock := by
 have hw : IntKind.i64.wrap (m : Int) = m := by rw [IntKind.wrap_i64]; omega
 have hm63 : n + m ≤ maxLen := by simp only [maxLen]; omega
 have hlen : (xs ++ List.replicate m (Value.int .u8 0)).length = (n + m) * 1 := by rw [List.length_append, hown.1]; simp
 have hneg : ¬ ((m : Int) < 0) := by omega
 have h48i : ¬ (281474976710656 < (m : Int)) := by omega
 have hone : ∀ u ∈ List.replicate m (Value.int .u8 0), u.oneCell' = true := by
  intro u hu
  rw [(List.mem_replicate.1 hu).2]
  rfl
 rcases hown.2 with ⟨rfl, h⟩ | ⟨g, cap, cur, rfl, hbg, hg, hnc, hcm, hcs, htake⟩
 ·
  omega
 ·
  have hx1 := hown.1
  by_cases hroom : n + m ≤ cap
  ·
   have hst := run_storeCells_at P g (n * 1) e (List.replicate m (Value.int .u8 0)) 0 cur w hg (by simp; omega) hone
   simp only [Nat.add_zero] at hst
   have hr : (Builtin.append_ #[t, u] ty #[.slice (some ⟨g, 0, none⟩) n cap, .int .i64 m]).run P w = .ok (.slice (some ⟨g, 0, none⟩) (n + m) cap) (w.setRow g (cur.toList.take (n * 1) ++ List.replicate m (Value.int .u8 0) ++ cur.toList.drop (n * 1 + (List.replicate m (Value.int .u8 0)).length)).toArray) := by
    by_cases hm : m = 0
    ·
     subst hm
     have he : (List.take n cur.toList ++ List.drop n cur.toList).toArray = cur := by simp
     have hsr : w.setRow g cur = w := by
      have := setRow_heap w g cur cur e (0, 0) hg
      unfold World.setRow
      congr 1
      apply Array.ext
      ·
       simp
      ·
       intro j h1 h2
       by_cases hj : j = g
       ·
        subst hj
        have h3 := (Array.getElem?_eq_some_iff.1 hg).2
        simp [Array.getElem_modify, h3]
       ·
        simp [Array.getElem_modify, Ne.symm hj]
     simp [Builtin.append_, run_underlying ht, run_underlying hu, sizeOf, typeInfo, hi, hby, asInt, asIntOf, show IntKind.i64.wrap 0 = 0 from rfl, hnc, storeCells, hsr]
    ·
     simp [Builtin.append_, run_underlying ht, run_underlying hu, sizeOf, typeInfo, zeroValue, hi, hz, hsize, hby, asInt, asIntOf, hw, hneg, h48i, hroom, hm, Value.cells, zeroes_u8, Addr.add_lit] at hst ⊢
     simp [hst]
   refine ⟨_, _, hr, ⟨hlen, .inr ⟨g, cap, _, rfl, hbg, setRow_heap w g cur _ e _ hg, hroom, hcm, ?_, ?_⟩⟩, ⟨rfl, rfl, rfl, by simp, fun k _ hk => setRow_other w g k _ (fun e => hk (by simp [Value.ownBlock, e]))⟩⟩
   ·
    simp
    omega
   ·
    rw [htake, ← hlen]
    exact List.take_left
  ·
   have holds : ∀ j u, xs[j]? = some u → w.cell? ((⟨g, 0, none⟩ : Addr).add j) = some u := hown.cells (g := g) rfl
   have hfo := run_firstCells_some (P := P) w.drew 1 n ⟨g, 0, none⟩ n cap xs hx1 (by simpa using holds)
   have hm : m ≠ 0 := by omega
   have h48' : ¬ (281474976710656 < Builtin.nextslicecap (n + m) cap) := by
    have := growslice_fits (need := n + m) (old := cap) (bytes := 1) (by omega) (by omega)
    omega
   have h63' : ¬ (9223372036854775807 < ((n : Int) + (m : Int))) := by omega
   have hge := grownCap_ge w (n + m) cap e
   have hcm' : grownCap w (n + m) cap e ≤ maxLen := grownCap_le_maxLen w (n + m) cap e hm63
   have hr : (Builtin.append_ #[t, u] ty #[.slice (some ⟨g, 0, none⟩) n cap, .int .i64 m]).run P w =
     .ok (.slice (some ⟨w.heap.size, 0, none⟩) (n + m) (grownCap w (n + m) cap e)) (w.drew.alloc (.cells (xs.toArray ++ (List.replicate m (Value.int .u8 0)).toArray ++ (List.replicate (grownCap w (n + m) cap e - (n + m)) (Value.int .u8 0)).toArray) e)) := by
    simp [Builtin.append_, run_underlying ht, run_underlying hu, sizeOf, typeInfo, zeroValue, hi, hz, hsize, hby, asInt, asIntOf, hw, hneg, h48i, hroom, hm, h63', h48', Value.cells, zeroes_u8, Question.forced, hfo, newRow, grownCap]
   refine ⟨_, _, hr, ⟨hlen, .inr ⟨w.heap.size, _, _, rfl, hbase, heap_alloc_new w.drew _, hge, hcm', ?_, ?_⟩⟩, ⟨rfl, rfl, rfl, by simp, fun k hk _ => heap_alloc_old w.drew _ hk⟩⟩
   ·
    simp [hx1]
    omega
   ·
    simp only [Array.toList_append, List.append_assoc]
    rw [← List.append_assoc, ← hlen]
    exact List.take_left
theorem wpl_append_zeros {P : Program} {w : World} {ops : Array Oper} {rest : List Oper} {o : Oper} {a : Act} {Q : Exit → Act → World → Prop} (hgd : o.guard = none) (sl x : Operand) (t u : TypeId)
  (ho : o.op = .call { callee := .builtin .append, args := #[sl, x], argTypes := #[t, u] })
  (base : Nat) (e : TypeId) (i : TypeInfo) (ik : IntKind) (ht : P.underlying t = some (.slice e)) (hu : P.underlying u = some (.int ik)) (hi : P.info? e = some i) (hz : i.zero = some (.int .u8 0)) (hsize : i.size = 1) (hby : i.bytes = 1)
  (v : Value) (n : Nat) (xs : List Value) (hs : a.eval sl = v) (hown : w.ownsRow base e 1 v n xs) (M : Int) (m : Nat) (hx : a.eval x = .int .i64 M)
  (h : ∀ v' w', w'.ownsRow base e 1 v' (n + m) (xs ++ List.replicate m (.int .u8 0)) → Below base w w' → Hid (w.grownBy w' v.ownBlock) → wpList P ops Q rest (a.put o.dst v') w')
  (hM : Hid (M = (m : Int))) (h0 : Hid (0 < n)) (h63 : Hid (n + m ≤ 140737488355328)) (hbase : Hid (base ≤ w.heap.size)) : wpList P ops Q (o :: rest) a w := by
 refine wpList_plain hgd fun K hK => ?_
 obtain ⟨v', w', hrun, h2, h3⟩ := run_append_zeros (P := P) w base t u o.type e i ik ht hu hi hz hsize hby v n xs hown m h0.out h63.out hbase.out
 rw [hM.out] at hx
 unfold Oper.wp execOp
 simp only [ho, resolve, invoke, builtin, Sem.run_bind, Sem.run_pure, Result.andThen_ok, List.map_toArray, List.map_cons, List.map_nil, hs, hx, hrun]
 exact hK _ _ (h v' w' h2 ((Below.refl _ _).grown h3 hbase.out (fun k hk => (hown.lt k hk).1)) (hid h3))
/-- a header's numbers -/
structure Hd where
 kind : Int
 frm : Int
 oper : Int
 view : Int
 opn : Int
 commit : Int
 client : Int
 session : Int
 request : Int
 a : Int
 b : Int
 parent : Nat
deriving DecidableEq
def Hd.cells (h : Hd) : Array Value := #[.int .i64 h.kind, .int .i64 h.frm, .int .i64 h.oper, .int .i64 h.view, .int .i64 h.opn, .int .i64 h.commit, .int .i64 h.client, .int .i64 h.session, .int .i64 h.request, .int .i64 h.a, .int .i64 h.b, .int .u64 (h.parent : Int)]
def Hd.val (h : Hd) : Value := .agg h.cells
def In64 (x : Int) : Prop := -9223372036854775808 ≤ x ∧ x ≤ 9223372036854775807
/-- a header of the machine's -/
def Hd.fits (h : Hd) : Prop := (In64 h.kind ∧ In64 h.frm ∧ In64 h.oper ∧ In64 h.view ∧ In64 h.opn ∧ In64 h.commit) ∧ (In64 h.client ∧ In64 h.session ∧ In64 h.request ∧ In64 h.a ∧ In64 h.b) ∧ h.parent < 18446744073709551616
/-- an int's bits as a number -/
def un (x : Int) : Nat := (IntKind.u64.wrap x).toNat
theorem un_wrap (x : Int) : IntKind.u64.wrap x = ((un x : Nat) : Int) := by
 unfold un
 have : 0 ≤ IntKind.u64.wrap x := by rw [IntKind.wrap_u64]; omega
 omega
theorem un_eq (x : Int) : ((un x : Nat) : Int) = x % 18446744073709551616 := by rw [← un_wrap, IntKind.wrap_u64]
theorem un_lt (x : Int) : un x < 18446744073709551616 := by have := un_eq x; omega
def Hd.nums (h : Hd) : List Nat := [0, un h.kind, un h.frm, un h.oper, 0, 0, h.parent, un h.view, un h.opn, un h.commit, un h.client, un h.session, un h.request, un h.a, un h.b]
theorem nums_len (h : Hd) : h.nums.length = 15 := rfl
def av (l : List Nat) : List Value := l.map fun (n : Nat) => .int .u64 (n : Int)
theorem av_get (l : List Nat) (k : Nat) (h : k < l.length) : (av l)[k]? = some (.int .u64 ((l[k] : Nat) : Int)) := by simp [av, h]
theorem av_set (l : List Nat) (k n : Nat) : (av l).set k (.int .u64 (n : Int)) = av (l.set k n) := by simp [av, List.map_set]
theorem av_one (l : List Nat) : ∀ u ∈ av l, u.oneCell' = true := by
 intro u hu
 simp only [av, List.mem_map] at hu
 obtain ⟨b, _, rfl⟩ := hu
 rfl
/-- the table: bytes and the greatest number of each place -/
def sizes : List Nat := [4, 1, 1, 1, 1, 4, 8, 8, 8, 8, 8, 8, 8, 8, 8]
def mosts : List Nat := [4294967295, 255, 255, 255, 0, 4294967295, 18446744073709551615, 72057594037927935, 72057594037927935, 72057594037927935, 72057594037927935, 72057594037927935, 72057594037927935, 72057594037927935, 72057594037927935]
def fcells : List Value := [.int .i64 4, .int .u64 4294967295, .int .i64 1, .int .u64 255, .int .i64 1, .int .u64 255, .int .i64 1, .int .u64 255, .int .i64 1, .int .u64 0, .int .i64 4, .int .u64 4294967295, .int .i64 8, .int .u64 18446744073709551615, .int .i64 8, .int .u64 72057594037927935, .int .i64 8, .int .u64 72057594037927935, .int .i64 8, .int .u64 72057594037927935, .int .i64 8, .int .u64 72057594037927935, .int .i64 8, .int .u64 72057594037927935, .int .i64 8, .int .u64 72057594037927935, .int .i64 8, .int .u64 72057594037927935, .int .i64 8, .int .u64 72057594037927935]
def sz (k : Nat) : Nat := sizes.getD k 0
def mo (k : Nat) : Nat := mosts.getD k 0
theorem sz_lo : ∀ k, k < 15 → 1 ≤ sz k ∧ sz k ≤ 8 := by decide
theorem mo_lt : ∀ k, k < 15 → mo k < 2 ^ (8 * sz k) := by decide
theorem fcell_sz : ∀ k, k < 15 → fcells[k * 2]? = some (.int .i64 (sz k : Nat)) := by
 intro k hk
 match k, hk with
 | 0, _ | 1, _ | 2, _ | 3, _ | 4, _ | 5, _ | 6, _ | 7, _ | 8, _ | 9, _ | 10, _ | 11, _ | 12, _ | 13, _ | 14, _ => rfl
theorem fcell_mo : ∀ k, k < 15 → fcells[k * 2 + 1]? = some (.int .u64 (mo k : Nat)) := by
 intro k hk
 match k, hk with
 | 0, _ | 1, _ | 2, _ | 3, _ | 4, _ | 5, _ | 6, _ | 7, _ | 8, _ | 9, _ | 10, _ | 11, _ | 12, _ | 13, _ | 14, _ => rfl
/-- the table lies where its initialiser laid it -/
def Fd (w : World) : Prop := 1 ≤ w.heap.size ∧ Rd w 1 (some ⟨0, 0, none⟩) fcells
theorem Fd.below {w w' : World} {B : Nat} (h : Fd w) (hb : Below B w w') (hB : 1 ≤ B) : Fd w' :=
 ⟨Nat.le_trans h.1 hb.size, h.2.below hb hB⟩
theorem Fd.size {w : World} {k : Nat} (h : Fd w) (hk : k < 15) : w.cell? ⟨0, k * 2, none⟩ = some (.int .i64 (sz k : Nat)) := by
 obtain ⟨g, o, e, _, hc⟩ := h.2 (by simp [fcells])
 cases e
 simpa using hc _ _ (fcell_sz k hk)
theorem Fd.most {w : World} {k : Nat} (h : Fd w) (hk : k < 15) : w.cell? ⟨0, k * 2 + 1, none⟩ = some (.int .u64 (mo k : Nat)) := by
 obtain ⟨g, o, e, _, hc⟩ := h.2 (by simp [fcells])
 cases e
 simpa using hc _ _ (fcell_mo k hk)
/-- do the numbers fit? -/
def Fits (l : List Nat) : Prop := l.length = 15 ∧ ∀ k (h : k < l.length), l[k] ≤ mo k
instance (l : List Nat) : Decidable (Fits l) := by unfold Fits; infer_instance
/-- the bytes of the first k numbers -/
def fl (l : List Nat) : Nat → List UInt8
 | 0 => []
 | k + 1 => fl l k ++ le (l.getD k 0) (sz k)
def off : Nat → Nat
 | 0 => 0
 | k + 1 => off k + sz k
theorem fl_len (l : List Nat) : ∀ k, (fl l k).length = off k
 | 0 => rfl
 | k + 1 => by simp [fl, off, fl_len l k, le_len]
theorem off_le : ∀ k, k ≤ 15 → off k ≤ 84 := by decide
theorem off_15 : off 15 = 84 := by decide
/-- the bytes behind the sum -/
def restS (l : List Nat) : List UInt8 := fl l 15 ++ List.replicate 40 0
theorem restS_len (l : List Nat) : (restS l).length = 124 := by simp [restS, fl_len, off_15]
def sumS (l : List UInt8) : List UInt8 := le (addS 0#32 l).toNat 4
theorem sumS_len (l : List UInt8) : (sumS l).length = 4 := le_len _ _
/-- a header's bytes -/
def headB (l : List Nat) : List UInt8 := sumS (restS l) ++ restS l
theorem headB_len (l : List Nat) : (headB l).length = 128 := by simp [headB, sumS_len, restS_len]
/-- the numbers with the body's -/
def full (h : Hd) (body : List UInt8) : List Nat := (h.nums.set 0 (addS 0#32 body).toNat).set 5 body.length
theorem full_len (h : Hd) (body : List UInt8) : (full h body).length = 15 := by simp [full, nums_len]
/-- what Pack answers -/
def packS (h : Hd) (body : List UInt8) : List UInt8 × Int :=
 if ¬ Fits h.nums then ([], 4) else if 3968 < body.length then ([], 5) else (headB (full h body) ++ body, 0)
def hd0 : Hd := ⟨0, 0, 0, 0, 0, 0, 0, 0, 0, 0, 0, 0⟩
end Go.Proofs.YtgednnjmcjhfmaaGreatDoor
namespace Go.Proofs.YtgednnjmcjhfmaaGreatDoor
open Go.RowKit
set_option maxRecDepth 10000
set_option maxHeartbeats 80000000
theorem numbers_any (h : Hd) (w : World) : Calls Tryz.prog 116 #[h.val] w (VE w (.agg (av h.nums).toArray)) := by
 obtain ⟨kind, frm, oper, view, opn, commit, client, session, request, a, b, parent⟩ := h
 show Calls Tryz.prog 116 #[.agg #[.int .i64 kind, .int .i64 frm, .int .i64 oper, .int .i64 view, .int .i64 opn, .int .i64 commit, .int .i64 client, .int .i64 session, .int .i64 request, .int .i64 a, .int .i64 b, .int .u64 (parent : Int)]] w _
 go_enter Tryz.func116, Tryz.ntmps116
 go_wp2_with fail
 have e : (av (Hd.nums ⟨kind, frm, oper, view, opn, commit, client, session, request, a, b, parent⟩)).toArray = #[.int .u64 0, .int .u64 (IntKind.u64.wrap kind), .int .u64 (IntKind.u64.wrap frm), .int .u64 (IntKind.u64.wrap oper), .int .u64 0, .int .u64 0, .int .u64 (parent : Int), .int .u64 (IntKind.u64.wrap view),
   .int .u64 (IntKind.u64.wrap opn), .int .u64 (IntKind.u64.wrap commit), .int .u64 (IntKind.u64.wrap client), .int .u64 (IntKind.u64.wrap session), .int .u64 (IntKind.u64.wrap request), .int .u64 (IntKind.u64.wrap a), .int .u64 (IntKind.u64.wrap b)] := by
  simp [av, Hd.nums, un_wrap]
 refine bodyPost_ret (v := .agg (av (Hd.nums ⟨kind, frm, oper, view, opn, commit, client, session, request, a, b, parent⟩)).toArray)
  (results_cell_row rfl _ _ (w.heap.size + 1) 149 (av (Hd.nums ⟨kind, frm, oper, view, opn, commit, client, session, request, a, b, parent⟩)).toArray (0, 0) _ rfl ?_ Tryz.underlying149 rfl (by kernel_rfl)) rfl ⟨rfl, ?_⟩
 ·
  rw [e]
  exact alloc2_new _ _ _
 ·
  exact ((Below.refl _ _).alloc (Nat.le_refl _) _).alloc (by simp) _
end Go.Proofs.YtgednnjmcjhfmaaGreatDoor
