/-
  strings.Clone answers the text as it was.
-/
import Derived.Test.YtdimlfjepliflaaGreatDoorD10
import Derived.Test.YtdimlfjepliflaaGreatDoorD01
import Derived.Test.YtdimlfjepliflaaGreatDoorProg
import Derived.Shelf.LaysM
import Derived.Shelf.Strconv.Clone
import Derived.Test.YtdimlfjepliflaaGreatDoorD11
import Derived.Deep.RegionHeld
import Derived.Laws.StructEq
import Derived.Deep.RegionLaw
import Derived.BigRegion
import Derived.BigQuiet
import Derived.Deep.QuietTactic
namespace Go.Proofs.YtdimlfjepliflaaGreatDoor
open Go.RowKit
set_option maxRecDepth 10000

def cloneRen : Go.Shelf.Ren := ⟨fun | 316 => 95 | n => n, fun | 9 => 9 | 3 => 3 | 4 => 4 | 37 => 93 | 0 => 0 | 127 => 175 | 5 => 5 | n => n, fun | n => n⟩
theorem cloneLays : Go.Proofs.LaysM.n316 Tryz.prog cloneRen := by
  constructor
  all_goals first
    | kernel_rfl
    | (constructor <;> first | kernel_rfl | exact Tryz.func95.trans (congrArg some (by kernel_rfl)) | exact Tryz.isAgg9 | exact Tryz.isAgg3 | exact Tryz.isAgg4 | exact Tryz.isAgg93 | exact Tryz.isAgg0 | exact Tryz.isAgg175 | exact Tryz.isAgg5 | exact Tryz.sizeOf9 | exact Tryz.sizeOf3 | exact Tryz.sizeOf4 | exact Tryz.sizeOf93 | exact Tryz.sizeOf0 | exact Tryz.sizeOf175 | exact Tryz.sizeOf5 | exact Tryz.zeroValue9 | exact Tryz.zeroValue3 | exact Tryz.zeroValue4 | exact Tryz.zeroValue93 | exact Tryz.zeroValue0 | exact Tryz.zeroValue175 | exact Tryz.zeroValue5)
    | exact Tryz.isAgg9 | exact Tryz.isAgg3 | exact Tryz.isAgg4 | exact Tryz.isAgg93 | exact Tryz.isAgg0 | exact Tryz.isAgg175 | exact Tryz.isAgg5 | exact Tryz.sizeOf9 | exact Tryz.sizeOf3 | exact Tryz.sizeOf4 | exact Tryz.sizeOf93 | exact Tryz.sizeOf0 | exact Tryz.sizeOf175 | exact Tryz.sizeOf5 | exact Tryz.zeroValue9 | exact Tryz.zeroValue3 | exact Tryz.zeroValue4 | exact Tryz.zeroValue93 | exact Tryz.zeroValue0 | exact Tryz.zeroValue175 | exact Tryz.zeroValue5
theorem sclone_any (s : ByteArray) (w : World) (h : s.size ≤ 281474976710656) :
    Calls Tryz.prog 95 #[.string s] w fun e w' => e = .returned (.string s) ∧ Below w.heap.size w w' := Any.stringslite_Clone cloneLays s w h
theorem clone_any (s : ByteArray) (w : World) (h : s.size ≤ 281474976710656) :
    Calls Tryz.prog 57 #[.string s] w fun e w' => e = .returned (.string s) ∧ Below w.heap.size w w' := by
  go_enter Tryz.func57, Tryz.ntmps57
  go_wp2_with (go_at_call 95; refine (sclone_any s _ h).mono ?_; rintro e w1 ⟨rfl, hb1⟩)
  go_ret
  exact ⟨rfl, hb1⟩
end Go.Proofs.YtdimlfjepliflaaGreatDoor
/-
  The walks of package session's small things: a text of one's own, numbers that may be, where a client's session stands.
-/
namespace Go.Proofs.YtdimlfjepliflaaGreatDoor
open Go.RowKit
set_option maxRecDepth 10000

theorem results_cell0 {P : Program} {fn : Func} {p : Tmp} {ty : TypeId} (h : fn.results = #[.cell p ty]) (tmps : Array Value) (w : World) (g : Nat) (e : TypeId) (cs : Array Value) (fr : Nat × Nat) (d : TypeDesc)
    (hp : tmps.getD p undef = .pointer (some ⟨g, 0, none⟩)) (hg : w.heap[g]? = some (.cells cs e fr))
    (hu : P.underlying ty = some d) (hd : (match d with | .struct _ | .array _ _ => true | _ => false) = true) (hi : (P.info? ty).map (·.size) = some cs.size) :
    (results fn tmps).run P w = .ok (.agg cs) w := by
  have hp' : tmps[p]?.getD undef = .pointer (some ⟨g, 0, none⟩) := by simpa using hp
  simp [results, h, hp', asAddr, run_loadVar_row w g e ty cs fr d hg hu hd hi]
theorem num_yes (n : Int) (w : World) (h1 : 0 ≤ n) (h2 : n ≤ 72057594037927935) : Calls Tryz.prog 111 #[.int .i64 n] w fun e w' => e = .returned (.bool true) ∧ w' = w := by
  go_enter Tryz.func111, Tryz.ntmps111
  go_wp2_with fail
  go_ret
  exact ⟨rfl, rfl⟩
theorem num_no (n : Int) (w : World) (h : ¬ (0 ≤ n ∧ n ≤ 72057594037927935)) : Calls Tryz.prog 111 #[.int .i64 n] w fun e w' => e = .returned (.bool false) ∧ w' = w := by
  by_cases h1 : n < 0
  · clear h
    go_enter Tryz.func111, Tryz.ntmps111
    go_wp2_with fail
    go_ret
    first | exact ⟨rfl, rfl⟩ | (refine ⟨?_, rfl⟩; show Ending.returned (.bool (decide (n ≤ 72057594037927935))) = _; rw [h4])
  · have h2 : 72057594037927935 < n := by omega
    have h3 : 0 ≤ n := by omega
    have h4 : decide (n ≤ 72057594037927935) = false := decide_eq_false (by omega)
    clear h h1
    go_enter Tryz.func111, Tryz.ntmps111
    go_wp2_with fail
    go_ret
    first | exact ⟨rfl, rfl⟩ | (refine ⟨?_, rfl⟩; show Ending.returned (.bool (decide (n ≤ 72057594037927935))) = _; rw [h4])
set_option maxHeartbeats 400000 in
theorem apart_any (x : Ss) (hx : x.t.size ≤ 200) (w : World) : Calls Tryz.prog 82 #[.agg x.cells.toArray] w (VE w (.agg x.cells.toArray)) := by
  obtain ⟨c, s, r, o, t⟩ := x
  have HZ := hid ssSize
  have HC := hid (fun W => clone_any t W (by simp only at hx; omega))
  have HR := hid (show Row ((w.alloc (.cells #[.int .i64 c, .int .i64 s, .int .i64 r, .int .i64 o, .string t] 65)).alloc (.cells #[.int .i64 0, .int .i64 0, .int .i64 0, .int .i64 0, .string ⟨#[]⟩] 65)) w.heap.size 65 [.int .i64 c, .int .i64 s, .int .i64 r, .int .i64 o, .string t] from Row.alloc (Row.new _ _ _) _)
  have HR0 := hid (show Row ((w.alloc (.cells #[.int .i64 c, .int .i64 s, .int .i64 r, .int .i64 o, .string t] 65)).alloc (.cells #[.int .i64 0, .int .i64 0, .int .i64 0, .int .i64 0, .string ⟨#[]⟩] 65)) (w.heap.size + 1) 65 ss0.cells from alloc2_new _ _ _)
  clear hx
  show Calls Tryz.prog 82 #[.agg #[.int .i64 c, .int .i64 s, .int .i64 r, .int .i64 o, .string t]] w (VE w (.agg #[.int .i64 c, .int .i64 s, .int .i64 r, .int .i64 o, .string t]))
  go_enter Tryz.func82, Tryz.ntmps82
  go_wp2_with (first
    | (go_at_call 57; refine (HC.out _).mono ?_; rintro e w3 ⟨rfl, hb3⟩; have hr3 := HR.out.below hb3 (by simp; omega); have hz3 := HR0.out.below hb3 (by simp); have hc3 := hr3.at_ 4 _ rfl; have hf3 := hr3.frozen 4; have hr4 := hr3.set_ 4 (.string t); have hz4 := hz3.far (p := ⟨w.heap.size, 4, none⟩) (by show w.heap.size + 1 ≠ w.heap.size; omega) (.string t); have HB3 := hid hb3; clear hb3; have HR4 := hid hr4; have HZ4 := hid hz4; clear hr4 hz4 hr3 hz3)
    | (refine wpList_load_row rfl 65 (.tmp 1) rfl w.heap.size rfl 65 _ (0, 0) _ HR4.out.arr' Tryz.underlying65 rfl HZ.out ?_)
    | (refine wpl_store_st rfl (.tmp 2) (.tmp 7) rfl HZ.out (w.heap.size + 1) ss0.cells [.int .i64 c, .int .i64 s, .int .i64 r, .int .i64 o, .string t] rfl rfl HZ4.out ?_ (hid rfl) (hid rfl) (hid rfl); intro w5 hr5 hg5))
  refine bodyPost_ret (results_cell0 rfl _ _ (w.heap.size + 1) 65 _ (0, 0) _ rfl hr5.arr' Tryz.underlying65 rfl HZ.out) rfl ⟨rfl, ?_⟩
  have hb0 := (((Below.refl w.heap.size w).alloc (Nat.le_refl _) (.cells #[.int .i64 c, .int .i64 s, .int .i64 r, .int .i64 o, .string t] 65)).alloc (by simp) (.cells #[.int .i64 0, .int .i64 0, .int .i64 0, .int .i64 0, .string ⟨#[]⟩] 65)).trans (HB3.out.mono (by simp; omega))
  have hb1 := below_grown (gset w3 w.heap.size 4 (.string t)) (Nat.le_refl _) hb0.size
  exact (hb0.trans hb1).trans (below_grown hg5 (by omega) (by have := hb0.size; simp; omega))
set_option maxHeartbeats 400000 in
theorem iss_yes (x : Ss) (b : Nat) (w : World) (hc : w.cell? ⟨b, 0, none⟩ = some (.int .i64 x.c)) : Calls Tryz.prog 127 #[.agg x.cells.toArray, .pointer (some ⟨b, 0, none⟩)] w (VE w (.bool true)) := by
  have hb := World.block_lt_of_cell? w _ hc
  obtain ⟨c, s, r, o, t⟩ := x
  show Calls Tryz.prog 127 #[.agg #[.int .i64 c, .int .i64 s, .int .i64 r, .int .i64 o, .string t], .pointer (some ⟨b, 0, none⟩)] w _
  go_enter Tryz.func127, Tryz.ntmps127
  go_wp2_with fail
  go_ret
  exact ⟨rfl, (Below.refl _ _).alloc (Nat.le_refl _) _⟩
set_option maxHeartbeats 400000 in
theorem iss_no (x : Ss) (c' : Int) (b : Nat) (w : World) (hc : w.cell? ⟨b, 0, none⟩ = some (.int .i64 c')) (hne : x.c ≠ c') : Calls Tryz.prog 127 #[.agg x.cells.toArray, .pointer (some ⟨b, 0, none⟩)] w (VE w (.bool false)) := by
  have hb := World.block_lt_of_cell? w _ hc
  obtain ⟨c, s, r, o, t⟩ := x
  have h1 : (c == c') = false := beq_eq_false_iff_ne.2 hne
  clear hne
  show Calls Tryz.prog 127 #[.agg #[.int .i64 c, .int .i64 s, .int .i64 r, .int .i64 o, .string t], .pointer (some ⟨b, 0, none⟩)] w _
  go_enter Tryz.func127, Tryz.ntmps127
  go_wp2_with fail
  go_ret
  exact ⟨rfl, (Below.refl _ _).alloc (Nat.le_refl _) _⟩
def idx (l : List Ss) (c : Int) : Int := if pl l c < l.length then (pl l c : Int) else -1
set_option maxHeartbeats 1000000 in
theorem index_any (A : Option Addr) (l : List Ss) (n cc B b : Nat) (c : Int) (w : World) (hr : Rd w B A (rows Ss.cells l)) (hn : n = l.length) (hB : B ≤ w.heap.size) (hc : w.cell? ⟨b, 0, none⟩ = some (.int .i64 c)) (hnc : n ≤ cc) (hbig : n ≤ 100) :
    Calls Tryz.prog 126 #[.slice A n cc, .func (.func 127) #[] #[.pointer (some ⟨b, 0, none⟩)]] w (VE w (.int .i64 (idx l c))) := by
  have hb := World.block_lt_of_cell? w _ hc
  by_cases h0 : n = 0
  · have hz : idx l c = -1 := by
      unfold idx
      rw [if_neg (by omega)]
    rw [hz]
    subst h0
    clear hr hn hz hc hb
    go_enter Tryz.func126, Tryz.ntmps126
    go_wp2_with fail
    go_loop [8] (fun i => i = .int .i64 0) (fun _ => 0)
    case atStart => rfl
    case round =>
      obtain rfl := hrel
      go_wp2_with fail
      go_ret
      exact ⟨rfl, Below.refl _ _⟩
  have hlen := rows_len (C := Ss.cells) Ss.len l
  obtain ⟨g, o, rfl, hg, hx⟩ := (show _ from hr) (by intro e; rw [e] at hlen; simp at hlen; omega)
  clear hx hlen
  have HR := hid hr
  have HN := hid hn
  have HC := hid (fun W (hW : Below w.heap.size w W) => (hW.cell (p := ⟨b, 0, none⟩) hb).trans hc)
  have HZ := hid ssSize
  have HNF : Hid (pl l c = l.length → idx l c = -1) := hid fun e => by
    unfold idx
    rw [if_neg (by omega)]
  have HF : Hid (∀ k, k < l.length → pl l c = k → idx l c = (k : Int)) := hid fun k hk e => by
    unfold idx
    rw [e, if_pos hk]
  generalize idx l c = r at *
  clear hr hn hc
  go_enter Tryz.func126, Tryz.ntmps126
  go_wp2_with fail
  go_loopw [8] (fun i wr => ∃ k : Nat, k ≤ n ∧ i = .int .i64 (k : Int) ∧ Hid (k ≤ pl l c) ∧ Below w.heap.size w wr) (fun i _ => n - (intOf i).toNat)
  case atStart => exact ⟨0, by omega, rfl, hid (Nat.zero_le _), Below.refl _ _⟩
  case round =>
    obtain ⟨k, hk, rfl, HK, hbe⟩ := hrel
    have HBE := hid hbe
    by_cases hlt : k < n
    · have hkl : k < l.length := by rw [← HN.out]; exact hlt
      have HRG := hid ((HR.out.below hbe hB).range Ss.len k hkl)
      have HC4 : Hid ((Ss.cells l[k]).length = 5) := hid (Ss.len _)
      by_cases he : l[k].c = c
      · have HI := hid (iss_yes l[k] b wr (by rw [he]; exact HC.out wr hbe))
        have HAT := hid (HF.out k hkl (pl_this HK.out hkl he))
        generalize Ss.cells l[k] = X at *
        clear hbe he
        go_wp2_with (first
          | (refine wpList_load_mid rfl 65 (.tmp 14) rfl g (o + k * 5) rfl X _ HRG.out Tryz.underlying65 rfl (by rw [HC4.out]; exact HZ.out) ?_)
          | (go_at_call 127; refine HI.out.mono ?_; rintro e w2 ⟨rfl, hb2⟩))
        go_ret
        rw [HAT.out]
        exact ⟨rfl, HBE.out.trans (hb2.mono HBE.out.size)⟩
      · have HI := hid (iss_no l[k] c b wr (HC.out wr hbe) he)
        have HAT : Hid (k + 1 ≤ pl l c) := hid (by
          rcases Nat.lt_or_ge k (pl l c) with h | h
          · omega
          · have e : pl l c = k := Nat.le_antisymm h HK.out
            have h2 := pl_here (T := l) (c := c) (by rw [e]; exact hkl)
            simp only [e] at h2
            exact absurd h2 he)
        generalize Ss.cells l[k] = X at *
        clear hbe he
        go_wp2_with (first
          | (refine wpList_load_mid rfl 65 (.tmp 14) rfl g (o + k * 5) rfl X _ HRG.out Tryz.underlying65 rfl (by rw [HC4.out]; exact HZ.out) ?_)
          | (go_at_call 127; refine HI.out.mono ?_; rintro e w2 ⟨rfl, hb2⟩))
        exact ⟨⟨k + 1, by omega, by go_num, hid HAT.out, HBE.out.trans (hb2.mono HBE.out.size)⟩, by simp [intOf]; omega⟩
    · obtain rfl : k = n := by omega
      have HAT := hid (HNF.out (by have := HK.out; have := pl_le l c; have := HN.out; omega))
      clear hbe
      go_wp2_with fail
      go_ret
      rw [HAT.out]
      exact ⟨rfl, HBE.out⟩
set_option maxHeartbeats 400000 in
theorem of_no (p : Nat) (v : Value) (T : List Ss) (c : Int) (w : World) (h : HasT w 121 p v T) (hno : ¬ pl T c < T.length) :
    Calls Tryz.prog 80 #[.pointer (some ⟨p, 0, none⟩), .int .i64 c] w (VE w (.pointer none)) := by
  obtain ⟨A, cc, e, hnc, hrd⟩ := h.shape
  have hc0 := h.c0
  rw [e] at hc0
  have hw := h.wf.le
  have hp := h.box.lt
  have hi : idx T c = -1 := by unfold idx; rw [if_neg hno]
  have HF := hid (fun W (hW : Below w.heap.size w W) b (hb : W.cell? ⟨b, 0, none⟩ = some (.int .i64 c)) => index_any A T T.length cc w.heap.size b c W (hrd.below hW (Nat.le_refl _)) rfl hW.size hb hnc (by omega))
  rw [hi] at HF
  generalize T.length = n at *
  clear h e hrd hno hi
  go_enter Tryz.func80, Tryz.ntmps80
  go_wp2_with (go_at_call 126; refine (HF.out _ ((Below.refl _ _).alloc (Nat.le_refl _) _) _ (by simp)).mono ?_; rintro e w2 ⟨rfl, hb2⟩)
  go_ret
  exact ⟨rfl, ((Below.refl _ _).alloc (Nat.le_refl _) _).trans (hb2.mono (by simp))⟩
set_option maxHeartbeats 400000 in
theorem of_yes (p g k : Nat) (v : Value) (T : List Ss) (c : Int) (w : World) (h : HasT w 121 p v T) (hg : v.ownBlock = some g) (hk : pl T c = k) (hkn : k < T.length) :
    Calls Tryz.prog 80 #[.pointer (some ⟨p, 0, none⟩), .int .i64 c] w (VE w (.pointer (some ⟨g, k * 5, none⟩))) := by
  obtain ⟨A, cc, e, hnc, hrd⟩ := h.shape
  obtain ⟨g', c', e', -, hg'⟩ := own_some h.own (by omega : 0 < T.length)
  rw [hg] at hg'
  cases hg'
  rw [e'] at e
  simp only [Value.slice.injEq] at e
  obtain ⟨rfl, -, rfl⟩ := e
  have hc0 := h.c0
  rw [e'] at hc0
  have hw := h.wf.le
  have hp := h.box.lt
  have hi : idx T c = (k : Int) := by unfold idx; rw [hk, if_pos hkn]
  have HF := hid (fun W (hW : Below w.heap.size w W) b (hb : W.cell? ⟨b, 0, none⟩ = some (.int .i64 c)) => index_any (some ⟨g, 0, none⟩) T T.length c' w.heap.size b c W (hrd.below hW (Nat.le_refl _)) rfl hW.size hb hnc (by omega))
  rw [hi] at HF
  have hc2 := fun W (hW : Below w.heap.size w W) => (hW.cell (p := ⟨p, 0, none⟩) hp).trans hc0
  have HC2 := hid hc2
  have hki : (k : Int) < (T.length : Int) := by omega
  generalize T.length = n at *
  clear h e' hrd hk hg hi hc2
  go_enter Tryz.func80, Tryz.ntmps80
  go_wp2_with (go_at_call 126; refine (HF.out _ ((Below.refl _ _).alloc (Nat.le_refl _) _) _ (by simp)).mono ?_; rintro e w2 ⟨rfl, hb2⟩; have hcw := HC2.out _ (((Below.refl _ _).alloc (Nat.le_refl _) _).trans (hb2.mono (by simp))))
  go_ret
  exact ⟨rfl, ((Below.refl _ _).alloc (Nat.le_refl _) _).trans (hb2.mono (by simp))⟩
end Go.Proofs.YtdimlfjepliflaaGreatDoor
/-
  The walks of package session's Verdict and Look.
-/
namespace Go.Proofs.YtdimlfjepliflaaGreatDoor
open Go.RowKit
set_option maxRecDepth 10000

section
variable (p : Nat) (v : Value) (T : List Ss) (c s r : Int) (w : World) (h : HasT w 121 p v T)
include h in
theorem ver_no (hno : ¬ pl T c < T.length) : Calls Tryz.prog 44 #[.pointer (some ⟨p, 0, none⟩), .int .i64 c, .int .i64 s, .int .i64 r] w (VE w (.int .i64 5)) := by
  have HO := hid (of_no p v T c w h hno)
  clear h hno
  go_enter Tryz.func44, Tryz.ntmps44
  go_wp2_with (go_at_call 80; refine HO.out.mono ?_; rintro e w2 ⟨rfl, hb2⟩)
  go_ret
  exact ⟨rfl, hb2⟩
include h in
set_option maxHeartbeats 400000 in
theorem ver_other (k : Nat) (hk : pl T c = k) (hkn : k < T.length) (hs : T[k].s ≠ s) : Calls Tryz.prog 44 #[.pointer (some ⟨p, 0, none⟩), .int .i64 c, .int .i64 s, .int .i64 r] w (VE w (.int .i64 5)) := by
  obtain ⟨g, cc, -, -, hg⟩ := own_some h.own (by omega : 0 < T.length)
  have HO := hid (of_yes p g k v T c w h hg hk hkn)
  have HC1 := hid (fun W (hW : Below w.heap.size w W) => show W.cell? ⟨g, k * 5 + 1, none⟩ = some (.int .i64 T[k].s) from (h.below hW).cell hg k 1 hkn (by decide))
  have HC2 := hid (fun W (hW : Below w.heap.size w W) => show W.cell? ⟨g, k * 5 + 2, none⟩ = some (.int .i64 T[k].r) from (h.below hW).cell hg k 2 hkn (by decide))
  have hx := (h.wf.ok T[k] (List.getElem_mem hkn)).r
  generalize T[k].s = xs at *
  generalize T[k].r = xr at *
  clear h hk hg
  have e1 : (xs == s) = false := beq_eq_false_iff_ne.2 hs
  have e2 : (xs != s) = true := bne_iff_ne.2 hs
  obtain ⟨hx1, hx2⟩ := hx
  go_enter Tryz.func44, Tryz.ntmps44
  go_wp2_with (go_at_call 80; refine HO.out.mono ?_; rintro e w2 ⟨rfl, hb2⟩; have hc1 := HC1.out w2 hb2; have hc2 := HC2.out w2 hb2)
  go_ret
  exact ⟨rfl, hb2⟩
include h in
set_option maxHeartbeats 400000 in
theorem ver_fresh (k : Nat) (hk : pl T c = k) (hkn : k < T.length) (hs : T[k].s = s) (hr : r = T[k].r + 1) : Calls Tryz.prog 44 #[.pointer (some ⟨p, 0, none⟩), .int .i64 c, .int .i64 s, .int .i64 r] w (VE w (.int .i64 1)) := by
  obtain ⟨g, cc, -, -, hg⟩ := own_some h.own (by omega : 0 < T.length)
  have HO := hid (of_yes p g k v T c w h hg hk hkn)
  have HC1 := hid (fun W (hW : Below w.heap.size w W) => show W.cell? ⟨g, k * 5 + 1, none⟩ = some (.int .i64 T[k].s) from (h.below hW).cell hg k 1 hkn (by decide))
  have HC2 := hid (fun W (hW : Below w.heap.size w W) => show W.cell? ⟨g, k * 5 + 2, none⟩ = some (.int .i64 T[k].r) from (h.below hW).cell hg k 2 hkn (by decide))
  have hx := (h.wf.ok T[k] (List.getElem_mem hkn)).r
  generalize T[k].s = xs at *
  generalize T[k].r = xr at *
  clear h hk hg
  subst hs
  subst hr
  obtain ⟨hx1, hx2⟩ := hx
  go_enter Tryz.func44, Tryz.ntmps44
  go_wp2_with (go_at_call 80; refine HO.out.mono ?_; rintro e w2 ⟨rfl, hb2⟩; have hc1 := HC1.out w2 hb2; have hc2 := HC2.out w2 hb2)
  go_ret
  exact ⟨rfl, hb2⟩
include h in
set_option maxHeartbeats 400000 in
theorem ver_again (k : Nat) (hk : pl T c = k) (hkn : k < T.length) (hs : T[k].s = s) (hr : r = T[k].r) : Calls Tryz.prog 44 #[.pointer (some ⟨p, 0, none⟩), .int .i64 c, .int .i64 s, .int .i64 r] w (VE w (.int .i64 2)) := by
  obtain ⟨g, cc, -, -, hg⟩ := own_some h.own (by omega : 0 < T.length)
  have HO := hid (of_yes p g k v T c w h hg hk hkn)
  have HC1 := hid (fun W (hW : Below w.heap.size w W) => show W.cell? ⟨g, k * 5 + 1, none⟩ = some (.int .i64 T[k].s) from (h.below hW).cell hg k 1 hkn (by decide))
  have HC2 := hid (fun W (hW : Below w.heap.size w W) => show W.cell? ⟨g, k * 5 + 2, none⟩ = some (.int .i64 T[k].r) from (h.below hW).cell hg k 2 hkn (by decide))
  have hx := (h.wf.ok T[k] (List.getElem_mem hkn)).r
  generalize T[k].s = xs at *
  generalize T[k].r = xr at *
  clear h hk hg
  subst hs
  subst hr
  have e3 : (r == r + 1) = false := beq_eq_false_iff_ne.2 (by omega)
  obtain ⟨hx1, hx2⟩ := hx
  go_enter Tryz.func44, Tryz.ntmps44
  go_wp2_with (go_at_call 80; refine HO.out.mono ?_; rintro e w2 ⟨rfl, hb2⟩; have hc1 := HC1.out w2 hb2; have hc2 := HC2.out w2 hb2)
  go_ret
  exact ⟨rfl, hb2⟩
include h in
set_option maxHeartbeats 400000 in
theorem ver_old (k : Nat) (hk : pl T c = k) (hkn : k < T.length) (hs : T[k].s = s) (hr : r < T[k].r) : Calls Tryz.prog 44 #[.pointer (some ⟨p, 0, none⟩), .int .i64 c, .int .i64 s, .int .i64 r] w (VE w (.int .i64 3)) := by
  obtain ⟨g, cc, -, -, hg⟩ := own_some h.own (by omega : 0 < T.length)
  have HO := hid (of_yes p g k v T c w h hg hk hkn)
  have HC1 := hid (fun W (hW : Below w.heap.size w W) => show W.cell? ⟨g, k * 5 + 1, none⟩ = some (.int .i64 T[k].s) from (h.below hW).cell hg k 1 hkn (by decide))
  have HC2 := hid (fun W (hW : Below w.heap.size w W) => show W.cell? ⟨g, k * 5 + 2, none⟩ = some (.int .i64 T[k].r) from (h.below hW).cell hg k 2 hkn (by decide))
  have hx := (h.wf.ok T[k] (List.getElem_mem hkn)).r
  generalize T[k].s = xs at *
  generalize T[k].r = xr at *
  clear h hk hg
  subst hs
  have e3 : (r == xr + 1) = false := beq_eq_false_iff_ne.2 (by omega)
  have e4 : (r == xr) = false := beq_eq_false_iff_ne.2 (by omega)
  obtain ⟨hx1, hx2⟩ := hx
  go_enter Tryz.func44, Tryz.ntmps44
  go_wp2_with (go_at_call 80; refine HO.out.mono ?_; rintro e w2 ⟨rfl, hb2⟩; have hc1 := HC1.out w2 hb2; have hc2 := HC2.out w2 hb2)
  go_ret
  exact ⟨rfl, hb2⟩
include h in
set_option maxHeartbeats 400000 in
theorem ver_ahead (k : Nat) (hk : pl T c = k) (hkn : k < T.length) (hs : T[k].s = s) (hr : T[k].r + 1 < r) : Calls Tryz.prog 44 #[.pointer (some ⟨p, 0, none⟩), .int .i64 c, .int .i64 s, .int .i64 r] w (VE w (.int .i64 4)) := by
  obtain ⟨g, cc, -, -, hg⟩ := own_some h.own (by omega : 0 < T.length)
  have HO := hid (of_yes p g k v T c w h hg hk hkn)
  have HC1 := hid (fun W (hW : Below w.heap.size w W) => show W.cell? ⟨g, k * 5 + 1, none⟩ = some (.int .i64 T[k].s) from (h.below hW).cell hg k 1 hkn (by decide))
  have HC2 := hid (fun W (hW : Below w.heap.size w W) => show W.cell? ⟨g, k * 5 + 2, none⟩ = some (.int .i64 T[k].r) from (h.below hW).cell hg k 2 hkn (by decide))
  have hx := (h.wf.ok T[k] (List.getElem_mem hkn)).r
  generalize T[k].s = xs at *
  generalize T[k].r = xr at *
  clear h hk hg
  subst hs
  have e3 : (r == xr + 1) = false := beq_eq_false_iff_ne.2 (by omega)
  have e4 : (r == xr) = false := beq_eq_false_iff_ne.2 (by omega)
  have e5 : ¬ r < xr := by omega
  obtain ⟨hx1, hx2⟩ := hx
  go_enter Tryz.func44, Tryz.ntmps44
  go_wp2_with (go_at_call 80; refine HO.out.mono ?_; rintro e w2 ⟨rfl, hb2⟩; have hc1 := HC1.out w2 hb2; have hc2 := HC2.out w2 hb2)
  go_ret
  exact ⟨rfl, hb2⟩
include h in
theorem ver_has : Calls Tryz.prog 44 #[.pointer (some ⟨p, 0, none⟩), .int .i64 c, .int .i64 s, .int .i64 r] w (VE w (.int .i64 (ver T c s r))) := by
  unfold ver
  by_cases hk : pl T c < T.length
  · rw [if_neg (fun hh => hh hk), at_get hk]
    by_cases hs : T[pl T c].s = s
    · rw [if_neg (fun hh => hh hs)]
      by_cases h1 : r = T[pl T c].r + 1
      · rw [if_pos h1]; exact ver_fresh p v T c s r w h _ rfl hk hs h1
      rw [if_neg h1]
      by_cases h2 : r = T[pl T c].r
      · rw [if_pos h2]; exact ver_again p v T c s r w h _ rfl hk hs h2
      rw [if_neg h2]
      by_cases h3 : r < T[pl T c].r
      · rw [if_pos h3]; exact ver_old p v T c s r w h _ rfl hk hs h3
      · rw [if_neg h3]; exact ver_ahead p v T c s r w h _ rfl hk hs (by omega)
    · rw [if_pos hs]; exact ver_other p v T c s r w h _ rfl hk hs
  · rw [if_pos hk]; exact ver_no p v T c s r w h hk
end
theorem ver_any (p : Nat) (fp : List Nat) (T : List Ss) (c s r : Int) (w : World) (h : Gk8 121 p T fp w) : Calls Tryz.prog 44 #[.pointer (some ⟨p, 0, none⟩), .int .i64 c, .int .i64 s, .int .i64 r] w (VE w (.int .i64 (ver T c s r))) := by
  obtain ⟨v, -, h⟩ := h
  exact ver_has p v T c s r w h
/-! ### Look -/
/-- a session and a yes or no -/
def LK (w : World) (x : Ss) (b : Bool) (e : Ending) (w' : World) : Prop := e = .returned (.tuple #[.agg x.cells.toArray, .bool b]) ∧ Below w.heap.size w w'
def look (T : List Ss) (c : Int) : Ss := if pl T c < T.length then at_8 T (pl T c) else ss0
def looks (T : List Ss) (c : Int) : Bool := decide (pl T c < T.length)
set_option maxHeartbeats 400000 in
theorem look_no (c : Int) (w : World) (p : Nat) (v : Value) (T : List Ss) (h : HasT w 121 p v T) (hno : ¬ pl T c < T.length) : Calls Tryz.prog 78 #[.pointer (some ⟨p, 0, none⟩), .int .i64 c] w (LK w ss0 false) := by
  have HZ := hid ssSize
  have HR0 := hid (show Row (w.alloc (.cells #[.int .i64 0, .int .i64 0, .int .i64 0, .int .i64 0, .string ⟨#[]⟩] 65)) w.heap.size 65 ss0.cells from Row.new _ _ _)
  have HO := hid (fun W (hW : Below w.heap.size w W) => of_no p v T c W (h.below hW) hno)
  clear h hno
  go_enter Tryz.func78, Tryz.ntmps78
  go_wp2_with (first
    | (go_at_call 80; refine (HO.out _ ((Below.refl _ _).alloc (Nat.le_refl _) _)).mono ?_; rintro e w2 ⟨rfl, hb2⟩; have HB2 := hid hb2; have HR2 := hid (HR0.out.below hb2 (by simp)); clear hb2)
    | (refine wpl_store_st rfl (.tmp 4) (.tmp 12) rfl HZ.out w.heap.size ss0.cells ss0.cells rfl rfl HR2.out ?_ (hid rfl) (hid rfl) (hid rfl); intro w3 hr3 hg3))
  refine bodyPost_ret (results_cell1 rfl _ _ w.heap.size 65 ss0.cells.toArray (0, 0) _ (.bool false) rfl rfl hr3.arr' Tryz.underlying65 rfl HZ.out) rfl ⟨rfl, ?_⟩
  exact (((Below.refl _ _).alloc (Nat.le_refl _) _).trans (HB2.out.mono (by simp))).trans (below_grown hg3 (Nat.le_refl _) (by have := HB2.out.size; simp at this; omega))
set_option maxHeartbeats 400000 in
theorem look_yes (c : Int) (w : World) (p : Nat) (v : Value) (T : List Ss) (h : HasT w 121 p v T) (k : Nat) (hk : pl T c = k) (hkn : k < T.length) : Calls Tryz.prog 78 #[.pointer (some ⟨p, 0, none⟩), .int .i64 c] w (LK w T[k] true) := by
  have HZ := hid ssSize
  obtain ⟨g, cc, -, -, hg⟩ := own_some h.own (by omega : 0 < T.length)
  have HR0 := hid (show Row (w.alloc (.cells #[.int .i64 0, .int .i64 0, .int .i64 0, .int .i64 0, .string ⟨#[]⟩] 65)) w.heap.size 65 ss0.cells from Row.new _ _ _)
  have HO := hid (fun W (hW : Below w.heap.size w W) => of_yes p g k v T c W (h.below hW) hg hk hkn)
  have HRG := hid (fun W (hW : Below w.heap.size w W) => (h.below hW).range hg k hkn)
  have HAP := hid (fun W => apart_any T[k] (h.wf.ok T[k] (List.getElem_mem hkn)).t W)
  unfold LK
  have HC5 : Hid ((Ss.cells T[k]).length = 5) := hid (Ss.len _)
  have HC1 : Hid ((Ss.cells T[k]).all (·.oneCell') = true) := hid (Ss.one _)
  generalize Ss.cells T[k] = X at *
  clear h hk hg
  go_enter Tryz.func78, Tryz.ntmps78
  go_wp2_with (first
    | (go_at_call 80; refine (HO.out _ ((Below.refl _ _).alloc (Nat.le_refl _) _)).mono ?_; rintro e w2 ⟨rfl, hb2⟩; have HB2 := hid hb2; have HR2 := hid (HR0.out.below hb2 (by simp)); have HRG2 := hid (HRG.out _ (((Below.refl _ _).alloc (Nat.le_refl _) _).trans (hb2.mono (by simp)))); clear hb2)
    | (refine wpList_load_mid rfl 65 (.tmp 14) rfl g (k * 5) rfl X _ HRG2.out Tryz.underlying65 rfl (by rw [HC5.out]; exact HZ.out) ?_)
    | (go_at_call 82; refine (HAP.out _).mono ?_; rintro e w3 ⟨rfl, hb3⟩; have HB3 := hid hb3; have HR3 := hid (HR2.out.below hb3 HR2.out.lt); clear hb3)
    | (refine wpl_store_st rfl (.tmp 4) (.tmp 16) rfl HZ.out w.heap.size ss0.cells X rfl rfl HR3.out ?_ (hid rfl) (hid HC5.out) (hid HC1.out); intro w4 hr4 hg4))
  refine bodyPost_ret (results_cell1 rfl _ _ w.heap.size 65 X.toArray (0, 0) _ (.bool true) rfl rfl hr4.arr' Tryz.underlying65 rfl (by rw [List.size_toArray, HC5.out]; exact HZ.out)) rfl ⟨rfl, ?_⟩
  have hb1 := ((Below.refl w.heap.size w).alloc (Nat.le_refl _) (.cells #[.int .i64 0, .int .i64 0, .int .i64 0, .int .i64 0, .string ⟨#[]⟩] 65)).trans (HB2.out.mono (by simp))
  have hb2 := hb1.trans (HB3.out.mono hb1.size)
  exact hb2.trans (below_grown hg4 (Nat.le_refl _) hb2.size)
theorem look_any (p : Nat) (fp : List Nat) (T : List Ss) (c : Int) (w : World) (h : Gk8 121 p T fp w) : Calls Tryz.prog 78 #[.pointer (some ⟨p, 0, none⟩), .int .i64 c] w (LK w (look T c) (looks T c)) := by
  obtain ⟨v, -, h⟩ := h
  unfold look looks
  by_cases hk : pl T c < T.length
  · rw [if_pos hk, decide_eq_true hk, at_get hk]
    exact look_yes c w p v T h _ rfl hk
  · rw [if_neg hk, decide_eq_false hk]
    exact look_no c w p v T h hk
end Go.Proofs.YtdimlfjepliflaaGreatDoor
/-
  The walk of package session's Note.
-/
namespace Go.Proofs.YtdimlfjepliflaaGreatDoor
open Go.RowKit
set_option maxRecDepth 10000

section
variable (p : Nat) (v : Value) (T : List Ss) (c r o : Int) (t : ByteArray) (w : World) (h : HasT w 121 p v T)
include h in
set_option maxHeartbeats 400000 in
theorem not_8 (hno : ¬ pl T c < T.length) : Calls Tryz.prog 72 #[.pointer (some ⟨p, 0, none⟩), .int .i64 c, .int .i64 r, .int .i64 o, .string t] w (VE w (.int .i64 8)) := by
  have HO := hid (of_no p v T c w h hno)
  clear h hno
  go_enter Tryz.func72, Tryz.ntmps72
  go_wp2_with (go_at_call 80; refine HO.out.mono ?_; rintro e w2 ⟨rfl, hb2⟩)
  go_ret
  exact ⟨rfl, hb2⟩
include h in
set_option maxHeartbeats 400000 in
theorem not_1 (hk : pl T c < T.length) (hf : ¬ Fit r ∨ ¬ Fit o) : Calls Tryz.prog 72 #[.pointer (some ⟨p, 0, none⟩), .int .i64 c, .int .i64 r, .int .i64 o, .string t] w (VE w (.int .i64 1)) := by
  obtain ⟨g, cc, -, -, hg⟩ := own_some h.own (by omega : 0 < T.length)
  have HO := hid (of_yes p g (pl T c) v T c w h hg rfl hk)
  by_cases h1 : Fit r
  · have h2 : ¬ Fit o := hf.resolve_left (fun q => q h1)
    have HN1 := hid (fun W => num_yes r W h1.1 h1.2)
    have HN2 := hid (fun W => num_no o W h2)
    generalize pl T c = k at *
    clear h hk hf h1 h2 hg
    go_enter Tryz.func72, Tryz.ntmps72
    go_wp2_with (first
      | (go_at_call 80; refine HO.out.mono ?_; rintro e w2 ⟨rfl, hb2⟩)
      | (go_at_call 111; refine (HN1.out _).mono ?_; rintro e w3 ⟨rfl, rfl⟩; clear HN1)
      | (go_at_call 111; refine (HN2.out _).mono ?_; rintro e w3 ⟨rfl, rfl⟩))
    go_ret
    exact ⟨rfl, hb2⟩
  · have HN1 := hid (fun W => num_no r W h1)
    generalize pl T c = k at *
    clear h hk hf h1 hg
    go_enter Tryz.func72, Tryz.ntmps72
    go_wp2_with (first
      | (go_at_call 80; refine HO.out.mono ?_; rintro e w2 ⟨rfl, hb2⟩)
      | (go_at_call 111; refine (HN1.out _).mono ?_; rintro e w3 ⟨rfl, rfl⟩))
    go_ret
    exact ⟨rfl, hb2⟩
include h in
set_option maxHeartbeats 400000 in
theorem not_5 (hk : pl T c < T.length) (h1 : Fit r) (h2 : Fit o) (ht : 200 < (t.size : Int)) : Calls Tryz.prog 72 #[.pointer (some ⟨p, 0, none⟩), .int .i64 c, .int .i64 r, .int .i64 o, .string t] w (VE w (.int .i64 5)) := by
  obtain ⟨g, cc, -, -, hg⟩ := own_some h.own (by omega : 0 < T.length)
  have HO := hid (of_yes p g (pl T c) v T c w h hg rfl hk)
  have HN1 := hid (fun W => num_yes r W h1.1 h1.2)
  have HN2 := hid (fun W => num_yes o W h2.1 h2.2)
  generalize pl T c = k at *
  clear h hk h1 h2 hg
  go_enter Tryz.func72, Tryz.ntmps72
  go_wp2_with (first
    | (go_at_call 80; refine HO.out.mono ?_; rintro e w2 ⟨rfl, hb2⟩)
    | (go_at_call 111; refine (HN1.out _).mono ?_; rintro e w3 ⟨rfl, rfl⟩; clear HN1)
    | (go_at_call 111; refine (HN2.out _).mono ?_; rintro e w3 ⟨rfl, rfl⟩))
  go_ret
  exact ⟨rfl, hb2⟩
/-- three cells are written -/
theorem not_turn {w : World} {g k : Nat} (h : HasT w 121 p v T) (hg : v.ownBlock = some g) (hk : k < T.length) (h1 : Fit r) (h2 : Fit o) (ht : t.size ≤ 200) :
    HasT (((w.setCell ⟨g, k * 5 + 2, none⟩ (.int .i64 r)).setCell ⟨g, k * 5 + 3, none⟩ (.int .i64 o)).setCell ⟨g, k * 5 + 4, none⟩ (.string t)) 121 p v (T.set k (noted T[k] r o t)) ∧
    Fr w (((w.setCell ⟨g, k * 5 + 2, none⟩ (.int .i64 r)).setCell ⟨g, k * 5 + 3, none⟩ (.int .i64 o)).setCell ⟨g, k * 5 + 4, none⟩ (.string t)) (fpT p v) := by
  have hx := h.wf.ok T[k] (List.getElem_mem hk)
  have a1 := h.turn hg k 2 (.int .i64 r) ⟨T[k].c, T[k].s, r, T[k].o, T[k].t⟩ hk (by decide) rfl ⟨hx.c, hx.s, h1, hx.o, hx.t⟩
  have a2 := a1.turn hg k 3 (.int .i64 o) ⟨T[k].c, T[k].s, r, o, T[k].t⟩ (by rw [List.length_set]; exact hk) (by decide) (by rw [List.getElem_set_self]; rfl) ⟨hx.c, hx.s, h1, h2, hx.t⟩
  have a3 := a2.turn hg k 4 (.string t) (noted T[k] r o t) (by rw [List.length_set, List.length_set]; exact hk) (by decide) (by rw [List.getElem_set_self]; rfl) (noted_ok hx h1 h2 ht)
  rw [List.set_set, List.set_set] at a3
  refine ⟨a3, ?_⟩
  exact ((Fr.turn8 w _ _ hg).trans (Fr.turn8 _ _ _ hg) (fun _ h _ => h)).trans (Fr.turn8 _ _ _ hg) (fun _ h _ => h)
include h in
set_option maxHeartbeats 1000000 in
theorem not_0 (k : Nat) (hk : pl T c = k) (hkn : k < T.length) (h1 : Fit r) (h2 : Fit o) (ht : (t.size : Int) ≤ 200) : Calls Tryz.prog 72 #[.pointer (some ⟨p, 0, none⟩), .int .i64 c, .int .i64 r, .int .i64 o, .string t] w fun e w' => e = .returned (.int .i64 0) ∧ Gw8 121 p w (fpT p v) (T.set k (noted T[k] r o t)) w' := by
  obtain ⟨g, cc, -, -, hg⟩ := own_some h.own (by omega : 0 < T.length)
  have HO := hid (of_yes p g k v T c w h hg hk hkn)
  have HN1 := hid (fun W => num_yes r W h1.1 h1.2)
  have HN2 := hid (fun W => num_yes o W h2.1 h2.2)
  have HCL := hid (fun W => clone_any t W (by omega))
  have HT := hid (fun W (hW : Below w.heap.size w W) => not_turn p v T r o t (h.below hW) hg hkn h1 h2 (by omega))
  have HC2 := hid (fun W (hW : Below w.heap.size w W) => show W.cell? ⟨g, k * 5 + 2, none⟩ = some (.int .i64 T[k].r) from (h.below hW).cell hg k 2 hkn (by decide))
  have HC3 := hid (fun W (hW : Below w.heap.size w W) => show W.cell? ⟨g, k * 5 + 3, none⟩ = some (.int .i64 T[k].o) from (h.below hW).cell hg k 3 hkn (by decide))
  have HC4 := hid (fun W (hW : Below w.heap.size w W) => show W.cell? ⟨g, k * 5 + 4, none⟩ = some (.string T[k].t) from (h.below hW).cell hg k 4 hkn (by decide))
  have HF := hid (fun W (hW : Below w.heap.size w W) i => (h.below hW).frozen hg i)
  generalize T[k].r = xr at *
  generalize T[k].o = xo at *
  generalize T[k].t = xt at *
  clear h hk hg h1 h2
  go_enter Tryz.func72, Tryz.ntmps72
  go_wp2_with (first
    | (go_at_call 80; refine HO.out.mono ?_; rintro e w2 ⟨rfl, hb2⟩)
    | (go_at_call 111; refine (HN1.out _).mono ?_; rintro e w3 ⟨rfl, rfl⟩; clear HN1)
    | (go_at_call 111; refine (HN2.out _).mono ?_; rintro e w3 ⟨rfl, rfl⟩)
    | (go_at_call 57; refine (HCL.out _).mono ?_; rintro e w4 ⟨rfl, hb4⟩; have hb5 := hb2.trans (hb4.mono hb2.size); have hc2 := HC2.out _ hb5; have hc3 := HC3.out _ hb5; have hc4 := HC4.out _ hb5; have f2 := HF.out _ hb5 (k * 5 + 2); have f3 := HF.out _ hb5 (k * 5 + 3); have f4 := HF.out _ hb5 (k * 5 + 4); have HB5 := hid hb5; clear hb4 hb5 hb2))
  go_ret
  obtain ⟨a1, a2⟩ := HT.out _ HB5.out
  refine ⟨rfl, fpT p v, ⟨_, rfl, a1⟩, ?_, fun _ h => .inl h⟩
  exact ((Fr.of_below HB5.out).mono (fq := fpT p v) (by simp)).trans a2 (by intro b hb _; exact hb)
end
theorem not_any (p : Nat) (fp : List Nat) (T : List Ss) (c r o : Int) (t : ByteArray) (w : World) (h : Gk8 121 p T fp w) : Calls Tryz.prog 72 #[.pointer (some ⟨p, 0, none⟩), .int .i64 c, .int .i64 r, .int .i64 o, .string t] w fun e w' => e = .returned (.int .i64 (notE T c r o t)) ∧ Gw8 121 p w fp (note T c r o t) w' := by
  have hG := h
  obtain ⟨v, rfl, h⟩ := h
  have same : ∀ {z : Int}, Calls Tryz.prog 72 #[.pointer (some ⟨p, 0, none⟩), .int .i64 c, .int .i64 r, .int .i64 o, .string t] w (VE w (.int .i64 z)) → z ≠ 0 → notE T c r o t = z → Calls Tryz.prog 72 #[.pointer (some ⟨p, 0, none⟩), .int .i64 c, .int .i64 r, .int .i64 o, .string t] w fun e w' => e = .returned (.int .i64 (notE T c r o t)) ∧ Gw8 121 p w (fpT p v) (note T c r o t) w' := by
    intro z hc hz hn
    refine hc.mono fun e w' hh => ⟨by rw [hn]; exact hh.1, ?_⟩
    have : note T c r o t = T := by unfold note; rw [hn, if_neg hz]
    rw [this]
    exact (Gw8.start hG).below hh.2
  by_cases h1 : pl T c < T.length
  · by_cases h2 : ¬ Fit r ∨ ¬ Fit o
    · exact same (not_1 p v T c r o t w h h1 h2) (by decide) (by unfold notE; rw [if_neg (fun q => q h1), if_pos h2])
    · by_cases h3 : 200 < t.size
      · exact same (not_5 p v T c r o t w h h1 (by omega) (by omega) (by omega)) (by decide) (by unfold notE; rw [if_neg (fun q => q h1), if_neg h2, if_pos h3])
      · have e0 : notE T c r o t = 0 := by unfold notE; rw [if_neg (fun q => q h1), if_neg h2, if_neg h3]
        unfold note
        rw [e0, if_pos rfl, at_get h1]
        exact not_0 p v T c r o t w h _ rfl h1 (by omega) (by omega) (by omega)
  · exact same (not_8 p v T c r o t w h h1) (by decide) (by unfold notE; rw [if_pos h1])
end Go.Proofs.YtdimlfjepliflaaGreatDoor
/-
  The walks of package session's List (and slices.Clone), of the document's Same.
-/
namespace Go.Proofs.YtdimlfjepliflaaGreatDoor
open Go.RowKit
set_option maxRecDepth 10000

/-- a list, in a row of one's own -/
def LO (w : World) (l : List Ss) (e : Ending) (w' : World) : Prop :=
  ∃ v, e = .returned v ∧ w'.ownsRow w.heap.size 65 5 v l.length (rows Ss.cells l) ∧ Below w.heap.size w w'
theorem LO.ls {w w' : World} {l : List Ss} {e : Ending} (h : LO w l e w') : LS Ss.cells w l e w' := by
  obtain ⟨v, rfl, ho, hb⟩ := h
  obtain ⟨A, c, rfl, hc, hr⟩ := own_rd ho
  exact ⟨A, c, rfl, hc, hr, hb, NewA.own ho⟩
set_option maxHeartbeats 400000 in
theorem clones_nil (w : World) : Calls Tryz.prog 81 #[.slice none 0 0] w (LO w []) := by
  have he : (binOp .eql 48 (.slice none 0 0) (.slice none 0 0)).run Tryz.prog w = .ok (.bool true) w := Lib.run_eql_slice_nil w _ _ none 0 0 0 0 Tryz.underlying48
  go_enter Tryz.func81, Tryz.ntmps81
  go_wp2_with fail
  go_ret
  exact ⟨_, rfl, World.ownsRow_nil _ _ _ _, Below.refl _ _⟩
set_option maxHeartbeats 1000000 in
theorem clones_some (g o : Nat) (l : List Ss) (n c B : Nat) (w : World) (hr : Rd w B (some ⟨g, o, none⟩) (rows Ss.cells l)) (hn : n = l.length) (hB : B ≤ w.heap.size) (hbig : n ≤ 100) :
    Calls Tryz.prog 81 #[.slice (some ⟨g, o, none⟩) n c] w (LO w l) := by
  obtain ⟨i0, hi, hz0, hz1, hz2⟩ := info_parts ssInfo
  have HR := hid (fun W (hW : Below w.heap.size w W) => hr.below hW hB)
  have HL := hid (rows_len (C := Ss.cells) Ss.len l)
  have H1 := hid (rows_one (C := Ss.cells) (l := l) Ss.ones)
  have HN := hid hn
  have HE : Hid (∀ W : World, (W.alloc (.cells #[] 65)).ownsRow W.heap.size 65 5 (.slice (some ⟨W.heap.size, 0, none⟩) 0 0) 0 []) := hid fun W => own_empty (Row.new _ _ #[]) (Nat.le_refl _)
  have he : (binOp .eql 48 (.slice (some ⟨g, o, none⟩) n c) (.slice none 0 0)).run Tryz.prog w = .ok (.bool false) w := Lib.run_eql_slice_nil w _ _ (some ⟨g, o, none⟩) n c 0 0 Tryz.underlying48
  clear hr hn
  go_enter Tryz.func81, Tryz.ntmps81
  go_wp2_with (refine wpl_append rfl (.tmp 5) (.tmp 6) 48 rfl w.heap.size 65 i0 _ 5 48 Tryz.underlying48 hi hz0 hz1 hz2 rfl (by omega) (.slice (some ⟨w.heap.size, 0, none⟩) 0 0) 0 _ rfl (HE.out w) B (some ⟨g, o, none⟩) n c (rows Ss.cells l) rfl ?_ ?_ ?_ ?_ ?_ ?_ ?_; intro v' w2 hown2 hb2 hg2; have HO2 := hid hown2; have HB2 := hid hb2; clear hown2 hb2 hg2)
  rotate_left
  · exact hid (HR.out _ ((Below.refl _ _).alloc (Nat.le_refl _) _))
  · exact hid (by rw [HL.out, HN.out])
  · exact hid H1.out
  · exact hid (le_maxLen (by omega))
  · exact hid (by omega)
  · exact hid (by simp)
  go_ret
  have ho := HO2.out
  rw [Nat.zero_add, List.nil_append, HN.out] at ho
  exact ⟨v', rfl, ho, ((Below.refl _ _).alloc (Nat.le_refl _) _).trans HB2.out⟩
theorem clones_any (v : Value) (l : List Ss) (w : World) (h : w.ownsRow 0 65 5 v l.length (rows Ss.cells l)) (hbig : l.length ≤ 100) :
    Calls Tryz.prog 81 #[v] w (LO w l) := by
  obtain ⟨A, c, e, hnc, hrd⟩ := own_rd h
  rcases h.2 with ⟨e2, h0⟩ | ⟨g, cap, cur, e2, -⟩
  · have hnil : l = [] := List.eq_nil_of_length_eq_zero h0
    subst hnil
    rw [e2]
    exact clones_nil w
  · rw [e2] at e
    simp only [Value.slice.injEq, true_and] at e
    obtain ⟨rfl, rfl⟩ := e
    rw [e2]
    exact clones_some g 0 l l.length cap w.heap.size w hrd rfl (Nat.le_refl _) hbig
theorem splice_same {α : Type} {xs X : List α} {o : Nat} (h : ∀ j u, X[j]? = some u → xs[o + j]? = some u) : splice xs o X = xs := by
  have e : (xs.drop o).take X.length = X := by
    apply List.ext_getElem?
    intro j
    rw [List.getElem?_take, List.getElem?_drop]
    by_cases hj : j < X.length
    · rw [if_pos hj, h j _ (List.getElem?_eq_getElem hj), List.getElem?_eq_getElem hj]
    · rw [if_neg hj, List.getElem?_eq_none (by omega)]
  unfold splice
  have h1 := List.take_append_drop o xs
  have h2 := List.take_append_drop X.length (xs.drop o)
  rw [e, List.drop_drop] at h2
  rw [h2, h1]
/-- a list of one's own, the same cells written again -/
theorem own_same {w : World} {B m n g cap : Nat} {e : TypeId} {xs X : List Value} (h : w.ownsRow B e m (.slice (some ⟨g, 0, none⟩) n cap) n xs) (o : Nat) (hX : ∀ j u, X[j]? = some u → xs[o + j]? = some u) (hl : o + X.length ≤ xs.length) :
    (w.setCells g o X).ownsRow B e m (.slice (some ⟨g, 0, none⟩) n cap) n xs ∧ w.grownBy (w.setCells g o X) (some g) ∧ w.there g o X.length := by
  rcases h.2 with ⟨hv, _⟩ | ⟨g', cap', cur, hv, hb, hh, h1, h2, h3, h4⟩
  · cases hv
  · simp only [Value.slice.injEq, Option.some.injEq, Addr.mk.injEq, and_true, true_and] at hv
    obtain ⟨rfl, rfl⟩ := hv
    have hr : Row w g e cur.toList := by unfold Row; simpa using hh
    have hle : xs.length ≤ cur.toList.length := by rw [← h4, List.length_take]; omega
    obtain ⟨r1, r2⟩ := hr.setCells X o (by omega)
    rw [splice_same (fun j u hu => by
      have h5 := hX j u hu
      rw [← h4, List.getElem?_take] at h5
      split at h5
      · exact h5
      · cases h5)] at r1
    exact ⟨⟨h.1, .inr ⟨g, cap, cur, rfl, hb, by unfold Row at r1; simpa using r1, h1, h2, h3, h4⟩⟩, r2, hr.there _ _ (by omega)⟩
set_option maxHeartbeats 1000000 in
theorem list_has (p : Nat) (v : Value) (T : List Ss) (w : World) (h : HasT w 121 p v T) : Calls Tryz.prog 45 #[.pointer (some ⟨p, 0, none⟩)] w (LO w T) := by
  have hw := h.wf.le
  have hc0 := h.c0
  have HCL := hid (fun W (hW : Below w.heap.size w W) => clones_any v T W (h.below hW).own (by omega))
  have HOK := hid (fun k (hk : k < T.length) => (h.wf.ok T[k] (List.getElem_mem hk)).t)
  have HZ := hid ssSize
  have HRL := hid (rows_len (C := Ss.cells) Ss.len T)
  have HGET := hid (fun k (hk : k < T.length) j u (hu : (Ss.cells T[k])[j]? = some u) => (rows_get (C := Ss.cells) Ss.len T k j hk (by have := (List.getElem?_eq_some_iff.1 hu).1; rw [Ss.len] at this; exact this)).trans hu)
  obtain ⟨n, hn⟩ : ∃ n, T.length = n := ⟨_, rfl⟩
  have HN := hid hn
  rw [hn] at hw
  clear h
  go_enter Tryz.func45, Tryz.ntmps45
  go_wp2_with (go_at_call 81; refine (HCL.out _ (Below.refl _ _)).mono ?_; rintro e w2 ⟨v2, rfl, ho2, hb2⟩; rw [hn] at ho2; have HO2 := hid ho2; have HB2 := hid hb2; clear ho2 hb2; obtain ⟨A2, c2, e2, hc2, hrd2⟩ := own_rd HO2.out; subst e2; clear hrd2)
  clear hn HCL hc0
  by_cases h0 : n = 0
  · subst h0
    go_loop [15] (fun i => i = .int .i64 0) (fun _ => 0)
    case atStart => rfl
    case round =>
      obtain rfl := hrel
      go_wp2_with fail
      go_ret
      exact ⟨_, rfl, by rw [HN.out]; exact HO2.out, HB2.out⟩
  obtain ⟨g, cap, e3, -, -⟩ := own_some HO2.out (by omega)
  simp only [Value.slice.injEq, true_and] at e3
  obtain ⟨rfl, rfl⟩ := e3
  go_loopw [15] (fun i wr => ∃ k : Nat, k ≤ n ∧ i = .int .i64 (k : Int) ∧ wr.ownsRow w.heap.size 65 5 (.slice (some ⟨g, 0, none⟩) n c2) n (rows Ss.cells T) ∧ Below w.heap.size w wr) (fun i _ => n - (intOf i).toNat)
  case atStart => exact ⟨0, by omega, rfl, HO2.out, HB2.out⟩
  case round =>
    obtain ⟨k, hk, rfl, ho, hbe⟩ := hrel
    have HBE := hid hbe
    have HO := hid ho
    by_cases hlt : k < n
    · have hkl : k < T.length := by rw [HN.out]; exact hlt
      obtain ⟨hge, hglt⟩ := ho.lt g rfl
      have hrg : wr.rangeAt g (k * 5) (Ss.cells T[k]) := fun j u hu => by
        have := ho.cells rfl (k * 5 + j) u (HGET.out k hkl j u hu)
        rw [add_lit, Nat.zero_add] at this
        exact this
      have HAP := hid (fun W => apart_any T[k] (HOK.out k hkl) W)
      have HG := hid (HGET.out k hkl)
      have HC5 : Hid ((Ss.cells T[k]).length = 5) := hid (Ss.len _)
      have HC1 : Hid ((Ss.cells T[k]).all (·.oneCell') = true) := hid (Ss.one _)
      have HFIT : Hid (k * 5 + 5 ≤ (rows Ss.cells T).length) := hid (by rw [HRL.out, HN.out]; omega)
      generalize Ss.cells T[k] = X at *
      have HRG := hid hrg
      have HGL := hid hglt
      have HGE := hid hge
      have hi0 : (0 : Int) ≤ (k : Int) := by omega
      have hi1 : (k : Int) < (n : Int) := by omega
      clear ho hbe hrg hglt hge
      go_wp2_with (first
        | (refine wpList_load_mid rfl 65 (.tmp 18) rfl g (k * 5) rfl X _ HRG.out Tryz.underlying65 rfl (by rw [HC5.out]; exact HZ.out) ?_)
        | (refine wpl_store_st rfl (.tmp 5) (.tmp 19) rfl HZ.out wr.heap.size ss0.cells X rfl rfl (Row.new _ _ _) ?_ (hid rfl) (hid HC5.out) (hid HC1.out); intro w3 hr3 hg3; have hb3 : Below wr.heap.size wr w3 := ((Below.refl _ _).alloc (Nat.le_refl _) _).trans (below_grown hg3 (Nat.le_refl _) (by simp)); have HB3 := hid hb3; have HR3 := hid hr3; clear hb3 hg3 hr3)
        | (refine wpList_load_row rfl 65 (.tmp 5) rfl wr.heap.size rfl 65 X.toArray (0, 0) _ HR3.out.arr' Tryz.underlying65 rfl (by rw [List.size_toArray, HC5.out]; exact HZ.out) ?_)
        | (go_at_call 82; refine (HAP.out _).mono ?_; rintro e w4 ⟨rfl, hb4⟩; have hb5 := HB3.out.trans (hb4.mono HB3.out.size); have HB5 := hid hb5; have HS := hid (own_same (own_below HO.out hb5) (k * 5) HG.out (by rw [HC5.out]; exact HFIT.out)); clear hb4 hb5)
        | (refine wpList_store_mid rfl 65 (.tmp 24) (.tmp 23) rfl g (k * 5) X.toArray rfl rfl HS.out.2.2 (by rw [List.size_toArray, HC5.out]; exact HZ.out) (by simpa using HC1.out) ?_))
      refine ⟨⟨k + 1, by omega, by go_num, HS.out.1, ?_⟩, by simp [intOf]; omega⟩
      have hb6 := HBE.out.trans (HB5.out.mono HBE.out.size)
      exact hb6.trans (below_grown HS.out.2.1 HGE.out hb6.size)
    · obtain rfl : k = n := by omega
      clear ho hbe
      go_wp2_with fail
      go_ret
      exact ⟨_, rfl, by rw [HN.out]; exact HO.out, HBE.out⟩
theorem list_any (p : Nat) (fp : List Nat) (T : List Ss) (w : World) (h : Gk8 121 p T fp w) : Calls Tryz.prog 45 #[.pointer (some ⟨p, 0, none⟩)] w (LS Ss.cells w T) := by
  obtain ⟨v, -, h⟩ := h
  exact (list_has p v T w h).mono fun e w' hh => LO.ls hh
end Go.Proofs.YtdimlfjepliflaaGreatDoor
/-
  The walk of slices.Delete: one session is taken out of a list of one's own.
-/
namespace Go.Proofs.YtdimlfjepliflaaGreatDoor
open Go.RowKit
set_option maxRecDepth 10000

theorem zeroSs (w : World) : (zeroValue 65).run Tryz.prog w = .ok (.agg ss0.cells.toArray) w := by
  obtain ⟨i0, hi, hz0, hz1, hz2⟩ := info_parts ssInfo
  simp [zeroValue, typeInfo, hi, hz0]
/-- clear(s), s of one element -/
theorem run_clear_one {P : Program} (w : World) (t e ty : TypeId) (zs : List Value) (ht : P.underlying t = some (.slice e)) (hv : ∀ w, (zeroValue e).run P w = .ok (.agg zs.toArray) w) (h1 : ∀ u ∈ zs, u.oneCell' = true) (b o c : Nat) (hth : w.there b o zs.length) :
    (Builtin.clear_ #[t] ty #[.slice (some ⟨b, o, none⟩) 1 c]).run P w = .ok (.tuple #[]) (w.setCells b o zs) := by
  have hzc : (Builtin.zeroCells (Value.agg zs.toArray).cells 1).toList = zs := by
    simp only [Value.cells, Builtin.zeroCells, Nat.one_mul]
    apply List.ext_getElem
    · simp
    · intro i h1 h2
      simp [Nat.mod_eq_of_lt h2, h2]
  have hst := run_storeCells_cells (P := P) b o zs 0 w (fun j hj => (hth j hj).1) (fun j hj => (hth j hj).2) h1
  simp only [Nat.add_zero] at hst
  simp [Builtin.clear_, run_underlying ht, hv, hzc, hst]
theorem rows_drop {α : Type} {C : α → List Value} {n : Nat} (h : ∀ x, (C x).length = n) : ∀ (l : List α) (k : Nat), rows C (l.drop k) = (rows C l).drop (k * n)
  | [], k => by simp [rows]
  | x :: l, 0 => by simp [rows]
  | x :: l, k + 1 => by
    have := rows_drop h l k
    simp only [rows, List.drop_succ_cons, List.map_cons, List.flatten_cons] at this ⊢
    have e : (k + 1) * n = (C x).length + k * n := by rw [h x, Nat.add_mul]; omega
    rw [this, e, List.drop_length_add_append]
/-- the cells behind the two writes -/
theorem del_own {w : World} {B g cap i : Nat} {T : List Ss} (h : w.ownsRow B 65 5 (.slice (some ⟨g, 0, none⟩) T.length cap) T.length (rows Ss.cells T)) (hi : i < T.length) (zs : List Value) (hz : zs.length = 5) :
    ((w.setCells g (i * 5) (rows Ss.cells (T.drop (i + 1)))).setCells g ((T.length - 1) * 5) zs).ownsRow B 65 5 (.slice (some ⟨g, 0, none⟩) (T.length - 1) cap) (T.length - 1) (rows Ss.cells (T.eraseIdx i)) ∧
    w.grownBy ((w.setCells g (i * 5) (rows Ss.cells (T.drop (i + 1)))).setCells g ((T.length - 1) * 5) zs) (some g) ∧
    (w.setCells g (i * 5) (rows Ss.cells (T.drop (i + 1)))).there g ((T.length - 1) * 5) 5 ∧
    w.there g (i * 5) (rows Ss.cells (T.drop (i + 1))).length := by
  have hlen := rows_len (C := Ss.cells) Ss.len T
  have hdl : (rows Ss.cells (T.drop (i + 1))).length = (T.length - (i + 1)) * 5 := by rw [rows_len (C := Ss.cells) Ss.len, List.length_drop]
  have hel : (rows Ss.cells (T.eraseIdx i)).length = (T.length - 1) * 5 := by rw [rows_len (C := Ss.cells) Ss.len, List.length_eraseIdx, if_pos hi]
  rcases h.2 with ⟨hv, _⟩ | ⟨g', cap', cur, hv, hb, hh, h1, h2, h3, h4⟩
  · cases hv
  · simp only [Value.slice.injEq, Option.some.injEq, Addr.mk.injEq, and_true, true_and] at hv
    obtain ⟨rfl, rfl⟩ := hv
    have hr : Row w g 65 cur.toList := by unfold Row; simpa using hh
    have hcs : cur.toList.length = cap * 5 := by simpa using h3
    obtain ⟨r1, q1⟩ := hr.setCells (rows Ss.cells (T.drop (i + 1))) (i * 5) (by omega)
    have hsl : (splice cur.toList (i * 5) (rows Ss.cells (T.drop (i + 1)))).length = cap * 5 := by
      unfold splice
      simp only [List.length_append, List.length_take, List.length_drop]
      omega
    obtain ⟨r2, q2⟩ := r1.setCells zs ((T.length - 1) * 5) (by omega)
    refine ⟨⟨by rw [hel], .inr ⟨g, cap, (splice (splice cur.toList (i * 5) (rows Ss.cells (T.drop (i + 1)))) ((T.length - 1) * 5) zs).toArray, rfl, hb, r2, by omega, h2, ?_, ?_⟩⟩, gtrans q1 q2, r1.there _ _ (by omega), hr.there _ _ (by omega)⟩
    · rw [List.size_toArray]
      unfold splice at hsl ⊢
      simp only [List.length_append, List.length_take, List.length_drop] at hsl ⊢
      omega
    · have e1 : rows Ss.cells (T.eraseIdx i) = (rows Ss.cells T).take (i * 5) ++ rows Ss.cells (T.drop (i + 1)) := by
        rw [List.eraseIdx_eq_take_drop_succ, rows_app, rows_take Ss.len]
      have e2 : (rows Ss.cells T).take (i * 5) = cur.toList.take (i * 5) := by
        rw [← h4, List.take_take, Nat.min_eq_left (by omega)]
      rw [e1, e2]
      show List.take ((T.length - 1) * 5) (splice _ _ _) = _
      unfold splice
      rw [List.take_append_of_le_length (by simp only [List.length_take, List.length_append, List.length_drop]; omega), List.take_take, Nat.min_self, ← List.append_assoc]
      rw [List.take_append_of_le_length (by simp only [List.length_take, List.length_append]; omega)]
      rw [List.take_of_length_le (by simp only [List.length_take, List.length_append]; omega)]
set_option maxHeartbeats 2000000 in
theorem del_any (g cap n i j : Nat) (T : List Ss) (w : World) (h : w.ownsRow 0 65 5 (.slice (some ⟨g, 0, none⟩) n cap) n (rows Ss.cells T)) (hn : n = T.length) (hj : j = i + 1) (hjn : j ≤ n) (hcap : n ≤ cap) :
    Calls Tryz.prog 145 #[.slice (some ⟨g, 0, none⟩) n cap, .int .i64 (i : Int), .int .i64 (j : Int)] w fun e w' => e = .returned (.slice (some ⟨g, 0, none⟩) (n - 1) cap) ∧ w'.ownsRow 0 65 5 (.slice (some ⟨g, 0, none⟩) (n - 1) cap) (n - 1) (rows Ss.cells (T.eraseIdx i)) ∧ Fr w w' [g] := by
  obtain ⟨i0, hi, hz0, hz1, hz2⟩ := info_parts ssInfo
  subst hn
  obtain ⟨k1, k2, k3, k4⟩ := del_own (w := w.drew) h (i := i) (by omega) ss0.cells rfl
  have hdl : (rows Ss.cells (T.drop (i + 1))).length = (T.length - j) * 5 := by rw [rows_len (C := Ss.cells) Ss.len, List.length_drop, hj]
  have hone := rows_one (C := Ss.cells) (l := T.drop (i + 1)) Ss.ones
  obtain ⟨A, hA, hsrc⟩ : ∃ A : Addr, (if cap = j then some (⟨g, 0, none⟩ : Addr) else some ⟨g, j * 5, none⟩) = some A ∧ Hid (∀ t u, (rows Ss.cells (T.drop (i + 1)))[t]? = some u → w.drew.cell? (A.add t) = some u) := by
    by_cases hc : cap = j
    · refine ⟨⟨g, 0, none⟩, by simp [hc], fun t u hu => ?_⟩
      have h0 : (rows Ss.cells (T.drop (i + 1))).length = 0 := by rw [hdl, show T.length - j = 0 by omega]
      rw [List.length_eq_zero_iff.1 h0] at hu
      simp at hu
    · refine ⟨⟨g, j * 5, none⟩, by simp [hc], fun t u hu => ?_⟩
      rw [rows_drop Ss.len, List.getElem?_drop, ← hj] at hu
      have := World.ownsRow.cells (w := w) h rfl (j * 5 + t) u hu
      rw [add_lit, Nat.zero_add] at this
      rw [add_lit]
      exact this
  generalize hX : rows Ss.cells (T.drop (i + 1)) = X at *
  obtain ⟨W1, hW1⟩ : ∃ W1, W1 = w.drew.setCells g (i * 5) X := ⟨_, rfl⟩
  rw [← hW1] at k1 k2 k3
  have hcl : ∀ ty, (Builtin.clear_ #[48] ty #[.slice (some ⟨g, (T.length - 1) * 5, none⟩) 1 (cap - (T.length - 1))]).run Tryz.prog W1 = .ok (.tuple #[]) (W1.setCells g ((T.length - 1) * 5) ss0.cells) :=
    fun ty => run_clear_one W1 _ _ ty ss0.cells Tryz.underlying48 zeroSs (Ss.ones _) g _ _ (by rw [Ss.len]; exact k3)
  have HW := hid hW1
  have HK1 := hid k1
  have HK2 := hid k2
  have s1 := hid hdl
  have s2 := hid hone
  have s3 := hid k4
  have e1 : i + (T.length - j) = T.length - 1 := by omega
  have e2 : T.length - (T.length - 1) = 1 := by omega
  generalize hN : T.length = n at *
  generalize T.eraseIdx i = U at *
  have h1 : i ≤ cap := by omega
  have h2 : j ≤ cap := by omega
  have h3 : n - 1 ≤ n := by omega
  have h4 : (i : Int) ≤ (j : Int) := by omega
  have h5 : ((i : Int) == (j : Int)) = false := beq_eq_false_iff_ne.2 (by omega)
  have HJ := hid hj
  clear hN hX hW1 k1 k2 k3 k4 hdl hone h hj
  go_enter Tryz.func145, Tryz.ntmps145
  go_wp2_with fail
  go_region_law (refine step_append_room rfl (.tmp 22) (.tmp 25) 48 rfl 65 i0 5 Tryz.underlying48 hi hz1 g 0 i cap (by simp [Act.eval, Act.put]) A (n - j) (cap - j) X (by simp [Act.eval, Act.put]) s1.out hsrc.out s2.out (by omega) (fun t ht => by rw [Nat.zero_add]; exact s3.out t ht) ?_; rw [Nat.zero_add, ← HW.out])
  go_wp2_with fail
  go_ret
  exact ⟨rfl, HK1.out, (Fr.refl w [g]).drew.grown HK2.out (by intro b hb; cases hb; exact .inl (by simp))⟩
end Go.Proofs.YtdimlfjepliflaaGreatDoor
/-
  The walk of package session's makeRoom.
-/
namespace Go.Proofs.YtdimlfjepliflaaGreatDoor
open Go.RowKit
set_option maxRecDepth 10000

set_option maxHeartbeats 400000 in
theorem room_few (p : Nat) (v : Value) (T : List Ss) (w : World) (h : HasT w 121 p v T) (hlt : T.length < 3) : Calls Tryz.prog 112 #[.pointer (some ⟨p, 0, none⟩)] w (VE w (.int .i64 0)) := by
  obtain ⟨A, cc, e, hnc, -⟩ := h.shape
  have hc0 := h.c0
  rw [e] at hc0
  have hi : (T.length : Int) < 3 := by omega
  generalize T.length = n at *
  clear h e
  go_enter Tryz.func112, Tryz.ntmps112
  go_wp2_with fail
  go_ret
  exact ⟨rfl, Below.refl _ _⟩
theorem lst_lt {T : List Ss} (h : T.length = 3) (k : Nat) (hk : k ≤ 3) : lstK T k < T.length := by
  rcases Nat.eq_zero_or_pos k with h0 | h0
  · subst h0; simp [lstK, h]
  · have := lstK_lt T k h0; omega
set_option maxHeartbeats 1000000 in
theorem room_full (p : Nat) (v : Value) (T : List Ss) (w : World) (h : HasT w 121 p v T) (h3 : T.length = 3) : Calls Tryz.prog 112 #[.pointer (some ⟨p, 0, none⟩)] w fun e w' => e = .returned (.int .i64 (at_8 T (lst T)).c) ∧ Gw8 121 p w (fpT p v) (T.eraseIdx (lst T)) w' := by
  obtain ⟨g, cap, ev, hcap, hg⟩ := own_some h.own (by omega : 0 < T.length)
  rw [h3] at ev hcap
  have HH := hid (fun W (hW : Below w.heap.size w W) => h.below hW)
  have hl := lst_lt h3 3 (Nat.le_refl _)
  have hL : lst T = lstK T 3 := by unfold lst; rw [h3]
  rw [hL, at_get hl]
  obtain ⟨l, hll⟩ : ∃ l, lstK T 3 = l := ⟨_, rfl⟩
  have HLL := hid hll
  rw [hll] at hl
  have HL3 : Hid (l < 3) := hid (by omega)
  have HD1 := fun W (hW : Below w.heap.size w W) => del_any g cap 3 l (l + 1) T W (by have := (h.below hW).own; rw [ev, h3] at this; exact this) h3.symm rfl (by omega) hcap
  have HEL : Hid ((T.eraseIdx l).length = 2) := hid (by rw [List.length_eraseIdx, if_pos hl, h3])
  have HWF : Hid (WF (T.eraseIdx l)) := hid ⟨by rw [HEL.out]; omega, fun x hx => h.wf.ok x (List.mem_of_mem_eraseIdx hx)⟩
  have HCC2 := hid (fun W (hW : Below w.heap.size w W) => show W.cell? ⟨g, l * 5, none⟩ = some (.int .i64 T[l].c) from (h.below hW).cell hg l 0 hl (by decide))
  have e1 : T[lstK T 3]'(lst_lt h3 3 (Nat.le_refl _)) = T[l] := by congr 1
  rw [e1, hll]
  generalize T[l].c = who at *
  generalize T.eraseIdx l = U at *
  have HD : Hid (∀ W, Below w.heap.size w W → Calls Tryz.prog 145 #[.slice (some ⟨g, 0, none⟩) 3 cap, .int .i64 (l : Int), .int .i64 ((l : Int) + 1)] W fun e w' => e = .returned (.slice (some ⟨g, 0, none⟩) 2 cap) ∧ w'.ownsRow 0 65 5 (.slice (some ⟨g, 0, none⟩) 2 cap) 2 (rows Ss.cells U) ∧ Fr W w' [g]) := hid HD1
  clear HD1 hL hll e1 hl
  have HC0 := hid (fun W (hW : Below w.heap.size w W) => show W.cell? ⟨p, 0, none⟩ = some (.slice (some ⟨g, 0, none⟩) 3 cap) from by rw [← ev]; exact (h.below hW).c0)
  have HF0 := hid (fun W (hW : Below w.heap.size w W) => (h.below hW).f 0)
  have HCO := hid (fun k (hk : k < T.length) W (hW : Below w.heap.size w W) => show W.cell? ⟨g, k * 5 + 3, none⟩ = some (.int .i64 T[k].o) from (h.below hW).cell hg k 3 hk (by decide))
  have HRG := hid (fun k (hk : k < T.length) W (hW : Below w.heap.size w W) => (h.below hW).range hg k hk)
  have HZ := hid ssSize
  have HLT := hid (fun k (hk : k ≤ 3) => lst_lt h3 k hk)
  have H3 := hid h3
  have HEV := hid ev
  have HG := hid hg
  have HCAP := hid hcap
  have hc0 := HC0.out w (Below.refl _ _)
  clear h h3 ev hg
  go_enter Tryz.func112, Tryz.ntmps112
  go_wp2_with fail
  clear hc0
  go_loopw [3, 18] (fun lv iv wr => ∃ k : Nat, k ≤ 3 ∧ iv = .int .i64 (k : Int) ∧ lv = .int .i64 (lstK T k : Int) ∧ Below w.heap.size w wr) (fun _ iv _ => 3 - (intOf iv).toNat)
  case atStart => exact ⟨0, by omega, rfl, rfl, Below.refl _ _⟩
  case round =>
    obtain ⟨k, hk, rfl, rfl, hbe⟩ := hrel
    have HBE := hid hbe
    have hl := HLT.out k hk
    by_cases hlt : k < 3
    · have hkl : k < T.length := by rw [H3.out]; exact hlt
      have HX3 : Hid ((Ss.cells T[k])[3]? = some (.int .i64 T[k].o)) := hid rfl
      have HC5 : Hid ((Ss.cells T[k]).length = 5) := hid (Ss.len _)
      have HC1 : Hid ((Ss.cells T[k]).all (·.oneCell') = true) := hid (Ss.one _)
      have HRK := hid (HRG.out k hkl wr hbe)
      have HLO := hid (fun W (hW : Below w.heap.size w W) => HCO.out (lstK T k) hl W hW)
      have HST : Hid (lstK T (k + 1) = if T[k].o < T[lstK T k].o then k else lstK T k) := hid (by rw [lstK, at_get hkl, at_get hl])
      generalize T[k].o = ok at *
      generalize T[lstK T k].o = ol at *
      generalize Ss.cells T[k] = X at *
      obtain ⟨l, hll⟩ : ∃ l, lstK T k = l := ⟨_, rfl⟩
      rw [hll] at hl HLO HST ⊢
      have hl3 : (l : Int) < 3 := by have := H3.out; omega
      have hl0 : (0 : Int) ≤ (l : Int) := by omega
      have hk0 : (0 : Int) ≤ (k : Int) := by omega
      have hk3 : (k : Int) < 3 := by omega
      clear hll hbe
      go_wp2_with (first
        | (refine wpList_load_mid rfl 65 (.tmp 21) rfl g (k * 5) rfl X _ HRK.out Tryz.underlying65 rfl (by rw [HC5.out]; exact HZ.out) ?_)
        | (refine wpl_store_st rfl (.tmp 5) (.tmp 22) rfl HZ.out wr.heap.size ss0.cells X rfl rfl (Row.new _ _ _) ?_ (hid rfl) (hid HC5.out) (hid HC1.out); intro w3 hr3 hg3; have hb3 := HBE.out.trans ((((Below.refl _ _).alloc (Nat.le_refl _) _).trans (below_grown hg3 (Nat.le_refl _) (by simp))).mono HBE.out.size); have hcs := hr3.at_ 3 _ HX3.out; have hcl := HLO.out _ hb3; have hcp := HC0.out _ hb3; have HB3 := hid hb3; clear hb3 hg3 hr3))
      by_cases hd : ok < ol
      · have hd' : decide (ok < ol) = true := decide_eq_true hd
        rw [if_pos hd] at HST
        clear hd
        go_quiet (fail)
        go_wp2_with fail
        exact ⟨⟨k + 1, by omega, by go_num, by rw [HST.out], below_drewN HB3.out _⟩, by simp [intOf]; omega⟩
      · have hd' : decide (ok < ol) = false := decide_eq_false hd
        rw [if_neg hd] at HST
        clear hd
        go_quiet (fail)
        go_wp2_with fail
        exact ⟨⟨k + 1, by omega, by go_num, by rw [HST.out], below_drewN HB3.out _⟩, by simp [intOf]; omega⟩
    · obtain rfl : k = 3 := by omega
      have hcp := HC0.out _ hbe
      have hcc := HCC2.out wr hbe
      have HD2 := HD
      rw [HLL.out]
      have hl3 : (l : Int) < 3 := by have := HL3.out; omega
      have hl0 : (0 : Int) ≤ (l : Int) := by omega
      clear hbe hl
      go_wp2_with (go_at_call 145; refine (HD2.out _ HBE.out).mono ?_; rintro e w4 ⟨rfl, ho4, hf4⟩; have HO4 := hid ho4; have HF4 := hid hf4; have hr4 := (hf4.row ((HH.out _ HBE.out).box) (by have := (HH.out _ HBE.out).n1; rw [HG.out] at this; simpa using (fun e : p = g => this (by rw [e])))); have hcp4 := hr4.at_ 0 _ rfl; have hfp4 := hr4.frozen 0; clear ho4 hf4 hr4)
      go_ret
      have h4 := HH.out _ HBE.out
      have hM := h4.put (v' := .slice (some ⟨g, 0, none⟩) 2 cap) (T' := U) (by rw [HG.out]; exact HF4.out) (by rw [HEL.out]; exact HO4.out) (fun b hb => by left; rw [HG.out]; exact hb) HWF.out
      refine ⟨rfl, fpT p (.slice (some ⟨g, 0, none⟩) 2 cap), ⟨_, rfl, hM.1⟩, ?_, ?_⟩
      · exact ((Fr.of_below HBE.out).mono (fq := fpT p v) (by simp)).trans hM.2.1 (by intro b hb _; exact hb)
      · intro b hb
        rcases hM.2.2 b hb with h | h
        · exact .inl h
        · have := HBE.out.size
          right; omega
theorem room_any (p : Nat) (fp : List Nat) (T : List Ss) (w : World) (h : Gk8 121 p T fp w) : Calls Tryz.prog 112 #[.pointer (some ⟨p, 0, none⟩)] w fun e w' => e = .returned (.int .i64 (gone T)) ∧ Gw8 121 p w fp (room T) w' := by
  have hG := h
  obtain ⟨v, rfl, h⟩ := h
  unfold gone room
  by_cases h3 : T.length < 3
  · rw [if_pos h3, if_pos h3]
    exact (room_few p v T w h h3).mono fun e w' hh => ⟨hh.1, (Gw8.start hG).below hh.2⟩
  · rw [if_neg h3, if_neg h3]
    exact room_full p v T w h (by have := h.wf.le; omega)
end Go.Proofs.YtdimlfjepliflaaGreatDoor
/-
  The walk of package session's Open.
-/
namespace Go.Proofs.YtdimlfjepliflaaGreatDoor
open Go.RowKit
set_option maxRecDepth 10000

/-- a number and an error's number -/
def NN (w : World) (a b : Int) (e : Ending) (w' : World) : Prop := e = .returned (.tuple #[.int .i64 a, .int .i64 b]) ∧ Below w.heap.size w w'
theorem app_fact {w3 w4 : World} {X p : Nat} {v : Value} {T : List Ss} {ob : Obj} (h3 : HasT w3 X p v T) (hg : (w3.alloc ob).grownBy w4 v.ownBlock) :
    Row w4 p X [v] ∧ Fr w3 w4 v.ownBlock.toList := by
  have hf : Fr w3 w4 v.ownBlock.toList := ((Fr.refl w3 v.ownBlock.toList).alloc ob).grown hg (by intro b hb; exact .inl (by simp [hb]))
  exact ⟨hf.row h3.box (by simpa using h3.n1), hf⟩
section
variable (p : Nat) (c o : Int) (w : World)
set_option maxHeartbeats 400000 in
theorem opn_1a (h : c = 0) : Calls Tryz.prog 71 #[.pointer (some ⟨p, 0, none⟩), .int .i64 c, .int .i64 o] w (NN w 0 1) := by
  subst h
  go_enter Tryz.func71, Tryz.ntmps71
  go_wp2_with (first
    | (go_at_call 111; refine (HN1.out _).mono ?_; rintro e w3 ⟨rfl, rfl⟩; clear HN1)
    | (go_at_call 111; refine (HN2.out _).mono ?_; rintro e w3 ⟨rfl, rfl⟩))
  go_ret2
  exact ⟨rfl, Below.refl _ _⟩
set_option maxHeartbeats 400000 in
theorem opn_1b (h : c ≠ 0) (h2 : o = 0) : Calls Tryz.prog 71 #[.pointer (some ⟨p, 0, none⟩), .int .i64 c, .int .i64 o] w (NN w 0 1) := by
  subst h2
  have e1 : (c == 0) = false := beq_eq_false_iff_ne.2 h
  clear h
  go_enter Tryz.func71, Tryz.ntmps71
  go_wp2_with (first
    | (go_at_call 111; refine (HN1.out _).mono ?_; rintro e w3 ⟨rfl, rfl⟩; clear HN1)
    | (go_at_call 111; refine (HN2.out _).mono ?_; rintro e w3 ⟨rfl, rfl⟩))
  go_ret2
  exact ⟨rfl, Below.refl _ _⟩
set_option maxHeartbeats 400000 in
theorem opn_1c (h : c ≠ 0) (h2 : o ≠ 0) (h3 : ¬ Fit c) : Calls Tryz.prog 71 #[.pointer (some ⟨p, 0, none⟩), .int .i64 c, .int .i64 o] w (NN w 0 1) := by
  have e1 : (c == 0) = false := beq_eq_false_iff_ne.2 h
  have e2 : (o == 0) = false := beq_eq_false_iff_ne.2 h2
  have HN1 := hid (fun W => num_no c W h3)
  clear h h2 h3
  go_enter Tryz.func71, Tryz.ntmps71
  go_wp2_with (first
    | (go_at_call 111; refine (HN1.out _).mono ?_; rintro e w3 ⟨rfl, rfl⟩; clear HN1)
    | (go_at_call 111; refine (HN2.out _).mono ?_; rintro e w3 ⟨rfl, rfl⟩))
  go_ret2
  exact ⟨rfl, Below.refl _ _⟩
set_option maxHeartbeats 400000 in
theorem opn_1d (h : c ≠ 0) (h2 : o ≠ 0) (h3 : Fit c) (h4 : ¬ Fit o) : Calls Tryz.prog 71 #[.pointer (some ⟨p, 0, none⟩), .int .i64 c, .int .i64 o] w (NN w 0 1) := by
  have e1 : (c == 0) = false := beq_eq_false_iff_ne.2 h
  have e2 : (o == 0) = false := beq_eq_false_iff_ne.2 h2
  have HN1 := hid (fun W => num_yes c W h3.1 h3.2)
  have HN2 := hid (fun W => num_no o W h4)
  clear h h2 h3 h4
  go_enter Tryz.func71, Tryz.ntmps71
  go_wp2_with (first
    | (go_at_call 111; refine (HN1.out _).mono ?_; rintro e w3 ⟨rfl, rfl⟩; clear HN1)
    | (go_at_call 111; refine (HN2.out _).mono ?_; rintro e w3 ⟨rfl, rfl⟩))
  go_ret2
  exact ⟨rfl, Below.refl _ _⟩
theorem opn_1 (h : ¬ Fit1 c ∨ ¬ Fit1 o) : Calls Tryz.prog 71 #[.pointer (some ⟨p, 0, none⟩), .int .i64 c, .int .i64 o] w (NN w 0 1) := by
  by_cases h1 : c = 0
  · exact opn_1a p c o w h1
  by_cases h2 : o = 0
  · exact opn_1b p c o w h1 h2
  by_cases h3 : Fit c
  · exact opn_1d p c o w h1 h2 h3 (by omega)
  · exact opn_1c p c o w h1 h2 h3
set_option maxHeartbeats 400000 in
theorem opn_7 (v : Value) (T : List Ss) (h : HasT w 121 p v T) (h1 : Fit1 c) (h2 : Fit1 o) (hk : pl T c < T.length) : Calls Tryz.prog 71 #[.pointer (some ⟨p, 0, none⟩), .int .i64 c, .int .i64 o] w (NN w 0 7) := by
  obtain ⟨g, cc, -, -, hg⟩ := own_some h.own (by omega : 0 < T.length)
  have HO := hid (of_yes p g (pl T c) v T c w h hg rfl hk)
  have e1 : (c == 0) = false := beq_eq_false_iff_ne.2 (by omega)
  have e2 : (o == 0) = false := beq_eq_false_iff_ne.2 (by omega)
  have HN1 := hid (fun W => num_yes c W (by omega) h1.2)
  have HN2 := hid (fun W => num_yes o W (by omega) h2.2)
  generalize pl T c = k at *
  clear h hg hk h1 h2
  go_enter Tryz.func71, Tryz.ntmps71
  go_wp2_with (first
    | (go_at_call 111; refine (HN1.out _).mono ?_; rintro e w3 ⟨rfl, rfl⟩; clear HN1)
    | (go_at_call 111; refine (HN2.out _).mono ?_; rintro e w3 ⟨rfl, rfl⟩)
    | (go_at_call 80; refine HO.out.mono ?_; rintro e w2 ⟨rfl, hb2⟩))
  go_ret2
  exact ⟨rfl, hb2⟩
set_option maxHeartbeats 1000000 in
theorem opn_0 (v : Value) (T : List Ss) (h : HasT w 121 p v T) (h1 : Fit1 c) (h2 : Fit1 o) (hk : ¬ pl T c < T.length) : Calls Tryz.prog 71 #[.pointer (some ⟨p, 0, none⟩), .int .i64 c, .int .i64 o] w fun e w' => e = .returned (.tuple #[.int .i64 (gone T), .int .i64 0]) ∧ Gw8 121 p w (fpT p v) (room T ++ [fresh c o]) w' := by
  obtain ⟨i0, hi, hz0, hz1, hz2⟩ := info_parts ssInfo
  have HO := hid (of_no p v T c w h hk)
  have HRM := hid (fun W (hW : Below w.heap.size w W) => room_any p (fpT p v) T W ⟨v, rfl, h.below hW⟩)
  have e1 : (c == 0) = false := beq_eq_false_iff_ne.2 (by omega)
  have e2 : (o == 0) = false := beq_eq_false_iff_ne.2 (by omega)
  have HN1 := hid (fun W => num_yes c W (by omega) h1.2)
  have HN2 := hid (fun W => num_yes o W (by omega) h2.2)
  have HWF : Hid (WF (room T ++ [fresh c o])) := hid (by
    have := opn_wf h.wf c o
    have e : opnE T c o = 0 := by unfold opnE; rw [if_neg (by omega), if_neg hk]
    unfold opn at this
    rw [if_pos e] at this
    exact this)
  have HR2 := hid (room_le h.wf.le)
  generalize gone T = who at *
  generalize room T = U at *
  have HFC : Hid (Ss.cells (fresh c o) = [.int .i64 c, .int .i64 o, .int .i64 0, .int .i64 o, .string ⟨#[]⟩]) := hid rfl
  have HNW : Hid (∀ W : World, ∀ j u, (Ss.cells (fresh c o))[j]? = some u → (W.alloc (.cells #[.int .i64 c, .int .i64 o, .int .i64 0, .int .i64 o, .string ⟨#[]⟩] 65)).cell? ((⟨W.heap.size, 0, none⟩ : Addr).add j) = some u) := hid fun W j u hu => World.news_of_block (heap_alloc_new W (.cells #[.int .i64 c, .int .i64 o, .int .i64 0, .int .i64 o, .string ⟨#[]⟩] 65)) j u hu
  clear h hk h1 h2
  go_enter Tryz.func71, Tryz.ntmps71
  go_wp2_with (first
    | (go_at_call 111; refine (HN1.out _).mono ?_; rintro e w3 ⟨rfl, rfl⟩; clear HN1)
    | (go_at_call 111; refine (HN2.out _).mono ?_; rintro e w3 ⟨rfl, rfl⟩)
    | (go_at_call 80; refine HO.out.mono ?_; rintro e w2 ⟨rfl, hb2⟩; have HB2 := hid hb2; clear hb2)
    | (go_at_call 112; refine (HRM.out _ HB2.out).mono ?_; rintro e w3 ⟨rfl, fq, hk3, hf3, hat3⟩; obtain ⟨v3, rfl, h3⟩ := hk3; have hc3 := h3.c0; have H3 := hid h3; have HF3 := hid hf3; have HAT3 := hid hat3; clear hf3 hat3 h3)
    | (refine wpl_slice1 rfl 48 65 (.tmp 41) rfl i0 _ 5 Tryz.underlying48 hi hz0 hz1 (by decide) (by decide) [.int .i64 c, .int .i64 o, .int .i64 0, .int .i64 o, .string ⟨#[]⟩] rfl rfl ?_)
    | (refine wpList_append_lies _ rfl (.tmp 37) (.tmp 42) 48 rfl 0 65 i0 _ 5 48 Tryz.underlying48 hi hz0 hz1 hz2 rfl (by decide) v3 U.length _ rfl (H3.out.own.alloc _) ⟨w3.heap.size, 0, none⟩ 1 1 (Ss.cells (fresh c o)) rfl rfl (HNW.out w3) (Ss.ones _) (by decide) (le_maxLen (by have := HR2.out; omega)) (by have := HR2.out; omega) (Nat.zero_le _) (w3.heap.size + 1) (by simp) ?_; intro g cap w4 ho4 hg4 hat4 hlt4; have HA4 := hid (app_fact H3.out hg4); have HO4 := hid ho4; have HAT4 := hid hat4; have hc4 := HA4.out.1.at_ 0 _ rfl; have hf4 := HA4.out.1.frozen 0; clear ho4 hg4 hat4 hlt4))
  go_ret2
  have hM := H3.out.put (v' := .slice (some ⟨g, 0, none⟩) (U.length + 1) cap) (T' := U ++ [fresh c o]) HA4.out.2 (by have h := HO4.out; rw [List.length_append, rows_app, rows1]; exact h) (vend HAT4.out) HWF.out
  have hG : Gw8 121 p w2 (fpT p v) (U ++ [fresh c o]) (w4.setCell ⟨p, 0, none⟩ (.slice (some ⟨g, 0, none⟩) (U.length + 1) cap)) := by
    refine Gw8.step (S := U) (w' := w3) ⟨fpT p v3, ⟨v3, rfl, H3.out⟩, HF3.out, HAT3.out⟩ ?_
    rintro fq ⟨v4, rfl, h4⟩
    have e : v4 = v3 := by have := h4.c0; rw [H3.out.c0] at this; exact (Option.some.inj this).symm
    subst e
    exact ⟨_, ⟨_, rfl, hM.1⟩, hM.2.1, hM.2.2⟩
  refine ⟨rfl, ?_⟩
  obtain ⟨fq, a1, a2, a3⟩ := hG
  refine ⟨fq, a1, ((Fr.of_below HB2.out).mono (fq := fpT p v) (by simp)).trans a2 (by intro b hb _; exact hb), fun b hb => ?_⟩
  rcases a3 b hb with h | h
  · exact .inl h
  · have := HB2.out.size
    right; omega
end
theorem opn_any (p : Nat) (fp : List Nat) (T : List Ss) (c o : Int) (w : World) (h : Gk8 121 p T fp w) : Calls Tryz.prog 71 #[.pointer (some ⟨p, 0, none⟩), .int .i64 c, .int .i64 o] w fun e w' => e = .returned (.tuple #[.int .i64 (opnL T c o), .int .i64 (opnE T c o)]) ∧ Gw8 121 p w fp (opn T c o) w' := by
  have hG := h
  obtain ⟨v, rfl, h⟩ := h
  unfold opnL opn
  by_cases h1 : ¬ Fit1 c ∨ ¬ Fit1 o
  · have e : opnE T c o = 1 := by unfold opnE; rw [if_pos h1]
    rw [e, if_neg (by decide), if_neg (by decide)]
    exact (opn_1 p c o w h1).mono fun e w' hh => ⟨hh.1, (Gw8.start hG).below hh.2⟩
  · by_cases h2 : pl T c < T.length
    · have e : opnE T c o = 7 := by unfold opnE; rw [if_neg h1, if_pos h2]
      rw [e, if_neg (by decide), if_neg (by decide)]
      exact (opn_7 p c o w v T h (by omega) (by omega) h2).mono fun e w' hh => ⟨hh.1, (Gw8.start hG).below hh.2⟩
    · have e : opnE T c o = 0 := by unfold opnE; rw [if_neg h1, if_neg h2]
      rw [e, if_pos rfl, if_pos rfl]
      exact opn_0 p c o w v T h (by omega) (by omega) h2
end Go.Proofs.YtdimlfjepliflaaGreatDoor
/-
  The walks of package session's lay and Pack.
-/
namespace Go.Proofs.YtdimlfjepliflaaGreatDoor
open Go.RowKit
set_option maxRecDepth 10000

/-- arr[i] of an array by value, its elements of one cell, as a step of the walk -/
theorem wpl_index_arr {P : Program} {w : World} {ops : Array Oper} {rest : List Oper} {o : Oper} {a : Act} {Q : Exit → Act → World → Prop} (hgd : o.guard = none) (t : TypeId) (x y : Operand) (ho : o.op = .index t x y)
    (e n : Nat) (cs : Array Value) (k : IntKind) (i : Nat) (v : Value) (hx : a.eval x = .agg cs) (hy : a.eval y = .int k (i : Int)) (h : P.underlying t = some (.array n e)) (hg : ∀ w, (isAgg e).run P w = .ok false w)
    (hs : (P.info? e).map (·.size) = some 1) (hi : i < n) (hv : cs[i]? = some v) (hK : wpList P ops Q rest (a.put o.dst v) w) : wpList P ops Q (o :: rest) a w := by
  refine wpList_plain hgd fun K hK' => ?_
  obtain ⟨j, hj, hjs⟩ := Option.map_eq_some_iff.1 hs
  have h1 : (0 : Int) ≤ i ∧ (i : Int) < (n : Int) := by omega
  have hrun : (Instr.index t (.agg cs) (.int k (i : Int))).run P w = .ok v w := by
    simp [Instr.index, run_underlying h, asIntOf, sizeOf, typeInfo, hj, hjs, Go.part, hg, hi, hv]
  unfold Oper.wp execOp
  simp only [ho, hx, hy, Sem.run_bind, Sem.run_pure, Result.andThen_ok, hrun]
  exact hK' _ _ hK
/-- bytes, so many -/
def BS (w : World) (bs : List UInt8) (n : Nat) (e : Ending) (w' : World) : Prop := ∃ A c, e = .returned (.slice A n c) ∧ Rd w' w'.heap.size A (bvs bs) ∧ Below w.heap.size w w'
/-- bytes, so many, and no error -/
def BN (w : World) (bs : List UInt8) (n : Nat) (e : Ending) (w' : World) : Prop := ∃ A c, e = .returned (.tuple #[.slice A n c, .int .i64 0]) ∧ Rd w' w'.heap.size A (bvs bs) ∧ Below w.heap.size w w'
theorem BN.of {w w' : World} {e : Ending} {bs : List UInt8} {n : Nat} (h : BE w (bs, 0) e w') (hn : bs.length = n) : BN w bs n e w' := by
  obtain ⟨A', c', e1, ho, hb⟩ := BE.len h hn
  obtain ⟨A2, c2, e2, _, _, hrd⟩ := own_shape ho
  cases e2
  exact ⟨A', c', e1, hrd, hb⟩
theorem put_eight8 (A : Option Addr) (bs : List UInt8) (m c n B : Nat) (W : World) (hr : Rd W B A (bvs bs)) (hm : m = bs.length) (hn : U64 n) (hB : B ≤ W.heap.size) (hl : m ≤ 140737488351232) :
    Calls Tryz.prog 86 #[.slice A m c, .int .u64 (n : Int), .int .i64 8] W (BN W (bs ++ le n 8) (m + 8)) := by
  subst hm
  have h := put_any A bs bs.length c n B 8 W hr rfl hB hl
  have e : putS bs n 8 = (bs ++ le n 8, 0) := by
    unfold putS
    rw [if_pos ⟨by omega, by omega, Nat.div_eq_of_lt (by simpa using hn)⟩]
    rfl
  rw [e] at h
  exact h.mono fun e w' hh => BN.of hh (by simp [le_len])
theorem put_count (n : Nat) (hn : n ≤ 3) (W : World) : Calls Tryz.prog 86 #[.slice none 0 0, .int .u64 (n : Int), .int .i64 1] W (BN W [UInt8.ofNat n] 1) := by
  have h2 := put_any none [] 0 0 n 0 1 W Rd.nil rfl (Nat.zero_le _) (by omega)
  have e : putS [] n 1 = ([UInt8.ofNat n], 0) := by
    unfold putS
    rw [if_pos ⟨by omega, by omega, Nat.div_eq_of_lt (by show n < 2 ^ 8; omega)⟩]
    rfl
  rw [e] at h2
  exact h2.mono fun e w' hh => BN.of hh rfl
theorem pt_text (A : Option Addr) (bs : List UInt8) (m c B : Nat) (t : ByteArray) (W : World) (hr : Rd W B A (bvs bs)) (hm : m = bs.length) (ht : t.size ≤ 200) (hB : B ≤ W.heap.size) (hl : m ≤ 140737488200000) :
    Calls Tryz.prog 130 #[.slice A m c, .string t] W (BN W (bs ++ le t.size 2 ++ sb t) (m + 2 + t.size)) := by
  subst hm
  have h := pt_any A bs bs.length c B t W hr rfl hB hl
  have e : ptS bs (sb t) = (bs ++ le t.size 2 ++ sb t, 0) := by
    unfold ptS
    rw [sb_len, if_neg (by omega)]
  rw [e] at h
  exact h.mono fun e w' hh => BN.of hh (by simp [le_len, sb_len]; omega)
theorem u64_fit (n : Nat) (h : n ≤ 72057594037927935) : IntKind.u64.wrap (n : Int) = (n : Int) := by
  rw [IntKind.wrap_u64]
  omega
/-- the first k numbers behind bs -/
def layK (bs : List UInt8) (a b c d : Nat) : Nat → List UInt8
  | 0 => bs
  | 1 => bs ++ le a 8
  | 2 => bs ++ le a 8 ++ le b 8
  | 3 => bs ++ le a 8 ++ le b 8 ++ le c 8
  | _ => bs ++ le a 8 ++ le b 8 ++ le c 8 ++ le d 8
theorem layK_len (bs : List UInt8) (a b c d : Nat) : ∀ k, k ≤ 4 → (layK bs a b c d k).length = bs.length + k * 8
  | 0, _ => by simp [layK]
  | 1, _ => by simp [layK, le_len]
  | 2, _ => by simp [layK, le_len]
  | 3, _ => by simp [layK, le_len]
  | 4, _ => by simp [layK, le_len]
  | k + 5, h => by omega
set_option maxHeartbeats 2000000 in
theorem lays_nat (A : Option Addr) (bs : List UInt8) (l cap B : Nat) (a b c d : Nat) (t : ByteArray) (w : World) (ha : a ≤ 72057594037927935) (hb : b ≤ 72057594037927935) (hc : c ≤ 72057594037927935) (hd : d ≤ 72057594037927935) (ht : t.size ≤ 200) (hr : Rd w B A (bvs bs)) (hl : l = bs.length) (hB : B ≤ w.heap.size) (hl2 : l ≤ 10000) :
    Calls Tryz.prog 87 #[.slice A l cap, .agg #[.int .i64 (a : Int), .int .i64 (b : Int), .int .i64 (c : Int), .int .i64 (d : Int), .string t]] w (BS w (layK bs a b c d 4 ++ le t.size 2 ++ sb t) (l + 34 + t.size)) := by
  have ea := u64_fit a ha
  have eb := u64_fit b hb
  have ec := u64_fit c hc
  have ed := u64_fit d hd
  have HL := hid (fun k (hk : k ≤ 4) => layK_len bs a b c d k hk)
  rw [← hl] at HL
  have HST0 : Hid (layK bs a b c d 0 = bs) := hid rfl
  have HST1 : Hid (layK bs a b c d 0 ++ le a 8 = layK bs a b c d 1) := hid rfl
  have HST2 : Hid (layK bs a b c d 1 ++ le b 8 = layK bs a b c d 2) := hid rfl
  have HST3 : Hid (layK bs a b c d 2 ++ le c 8 = layK bs a b c d 3) := hid rfl
  have HST4 : Hid (layK bs a b c d 3 ++ le d 8 = layK bs a b c d 4) := hid rfl
  have HW := hid (Row.new w 65 #[.int .i64 (a : Int), .int .i64 (b : Int), .int .i64 (c : Int), .int .i64 (d : Int), .string t])
  have HB0 := hid ((Below.refl w.heap.size w).alloc (Nat.le_refl _) (.cells #[.int .i64 (a : Int), .int .i64 (b : Int), .int .i64 (c : Int), .int .i64 (d : Int), .string t] 65))
  have HR := hid (((hr.below HB0.out hB).more (B' := w.heap.size + 1) (by omega)))
  obtain ⟨w1, hw1⟩ : ∃ w1, w1 = w.alloc (.cells #[.int .i64 (a : Int), .int .i64 (b : Int), .int .i64 (c : Int), .int .i64 (d : Int), .string t] 65) := ⟨_, rfl⟩
  have HS1 : Hid (w1.heap.size = w.heap.size + 1) := hid (by rw [hw1]; simp)
  have HH1 := hid hw1
  rw [← hw1] at HW HB0 HR
  generalize layK bs a b c d = L at *
  have HPE := hid (fun A' xs m cc n B W (hr : Rd W B A' (bvs xs)) hm hn hB hl => put_eight8 A' xs m cc n B W hr hm hn hB hl)
  have HPT := hid (fun A' xs m cc B W (hr : Rd W B A' (bvs xs)) hm hB hl => pt_text A' xs m cc B t W hr hm ht hB hl)
  have HC4 := hid (fun W (hW : Below (w.heap.size + 1) w1 W) => show W.cell? ⟨w.heap.size, 4, none⟩ = some (.string t) from (HW.out.below hW (by omega)).at_ 4 _ rfl)
  have HSI := hid sizeInt
  have H0 := hid ha
  have H1 := hid hb
  have H2 := hid hc
  have H3 := hid hd
  clear hr hl hB hw1 ha hb hc hd ht
  go_enter Tryz.func87, Tryz.ntmps87
  go_wp2_with fail
  rw [← HH1.out]
  go_loopw [0, 16] (fun bv iv wr => ∃ k m A' c', k ≤ 4 ∧ m = l + k * 8 ∧ iv = .int .i64 ((k : Nat) : Int) ∧ bv = .slice A' m c' ∧ Hid (Rd wr wr.heap.size A' (bvs (L k))) ∧ Below (w.heap.size + 1) w1 wr) (fun _ iv _ => 4 - (intOf iv).toNat)
  case atStart => exact ⟨0, l, A, cap, by omega, by omega, rfl, rfl, hid (by rw [HST0.out]; exact HR.out.more (by rw [HS1.out]; omega)), Below.refl _ _⟩
  case round =>
    obtain ⟨k, m, A', c', hk, hm, rfl, rfl, HRD, hbe⟩ := hrel
    have HBE := hid hbe
    have HM := hid hm
    have hsz := hbe.size
    have HSZ := hid hsz
    clear hbe hm
    have h5 : k = 0 ∨ k = 1 ∨ k = 2 ∨ k = 3 ∨ k = 4 := by omega
    rcases h5 with rfl | rfl | rfl | rfl | rfl
    · go_wp2_with (first | (refine wpl_index_arr rfl 171 (.tmp 15) (.tmp 16) rfl 3 4 _ .i64 0 (.int .i64 (a : Int)) rfl rfl Tryz.underlying171 (fun w => Tryz.isAgg3 w) HSI.out (by decide) rfl ?_) | go_at_call 86; refine (HPE.out _ _ _ _ _ _ _ HRD.out (by rw [HL.out _ hk]; exact HM.out) (by have := H0.out; unfold U64; omega) (Nat.le_refl _) (by have := HM.out; omega)).mono ?_; rintro e w3 ⟨A3, c3, rfl, hrd3, hb3⟩)
      exact ⟨⟨1, m + 8, A3, c3, by omega, by have := HM.out; omega, rfl, rfl, hid (by rw [← HST1.out]; exact hrd3), HBE.out.trans (hb3.mono (by rw [← HS1.out]; exact HSZ.out))⟩, by simp [intOf]⟩
    · go_wp2_with (first | (refine wpl_index_arr rfl 171 (.tmp 15) (.tmp 16) rfl 3 4 _ .i64 1 (.int .i64 (b : Int)) rfl rfl Tryz.underlying171 (fun w => Tryz.isAgg3 w) HSI.out (by decide) rfl ?_) | go_at_call 86; refine (HPE.out _ _ _ _ _ _ _ HRD.out (by rw [HL.out _ hk]; exact HM.out) (by have := H1.out; unfold U64; omega) (Nat.le_refl _) (by have := HM.out; omega)).mono ?_; rintro e w3 ⟨A3, c3, rfl, hrd3, hb3⟩)
      exact ⟨⟨2, m + 8, A3, c3, by omega, by have := HM.out; omega, rfl, rfl, hid (by rw [← HST2.out]; exact hrd3), HBE.out.trans (hb3.mono (by rw [← HS1.out]; exact HSZ.out))⟩, by simp [intOf]⟩
    · go_wp2_with (first | (refine wpl_index_arr rfl 171 (.tmp 15) (.tmp 16) rfl 3 4 _ .i64 2 (.int .i64 (c : Int)) rfl rfl Tryz.underlying171 (fun w => Tryz.isAgg3 w) HSI.out (by decide) rfl ?_) | go_at_call 86; refine (HPE.out _ _ _ _ _ _ _ HRD.out (by rw [HL.out _ hk]; exact HM.out) (by have := H2.out; unfold U64; omega) (Nat.le_refl _) (by have := HM.out; omega)).mono ?_; rintro e w3 ⟨A3, c3, rfl, hrd3, hb3⟩)
      exact ⟨⟨3, m + 8, A3, c3, by omega, by have := HM.out; omega, rfl, rfl, hid (by rw [← HST3.out]; exact hrd3), HBE.out.trans (hb3.mono (by rw [← HS1.out]; exact HSZ.out))⟩, by simp [intOf]⟩
    · go_wp2_with (first | (refine wpl_index_arr rfl 171 (.tmp 15) (.tmp 16) rfl 3 4 _ .i64 3 (.int .i64 (d : Int)) rfl rfl Tryz.underlying171 (fun w => Tryz.isAgg3 w) HSI.out (by decide) rfl ?_) | go_at_call 86; refine (HPE.out _ _ _ _ _ _ _ HRD.out (by rw [HL.out _ hk]; exact HM.out) (by have := H3.out; unfold U64; omega) (Nat.le_refl _) (by have := HM.out; omega)).mono ?_; rintro e w3 ⟨A3, c3, rfl, hrd3, hb3⟩)
      exact ⟨⟨4, m + 8, A3, c3, by omega, by have := HM.out; omega, rfl, rfl, hid (by rw [← HST4.out]; exact hrd3), HBE.out.trans (hb3.mono (by rw [← HS1.out]; exact HSZ.out))⟩, by simp [intOf]⟩
    · have hc4 := HC4.out wr HBE.out
      go_wp2_with (go_at_call 130; refine (HPT.out _ _ _ _ _ _ HRD.out (by rw [HL.out _ hk]; exact HM.out) (Nat.le_refl _) (by have := HM.out; omega)).mono ?_; rintro e w3 ⟨A3, c3, rfl, hrd3, hb3⟩)
      go_ret
      refine ⟨A3, c3, by have := HM.out; rw [show l + 34 + t.size = m + 2 + t.size by omega]; rfl, hrd3, ?_⟩
      have h1 := HBE.out.mono (show w.heap.size ≤ w.heap.size + 1 by omega)
      exact (HB0.out.trans h1).trans (hb3.mono (by have := HSZ.out; have := HS1.out; omega))
theorem lays_any (A : Option Addr) (bs : List UInt8) (l cap B : Nat) (x : Ss) (hx : x.ok) (w : World) (hr : Rd w B A (bvs bs)) (hl : l = bs.length) (hB : B ≤ w.heap.size) (hl2 : l ≤ 10000) :
    Calls Tryz.prog 87 #[.slice A l cap, .agg x.cells.toArray] w (BS w (bs ++ ssB x) (l + (34 + x.t.size))) := by
  obtain ⟨c, s, r, o, t⟩ := x
  obtain ⟨h1, h2, h3, h4, h5⟩ := hx
  obtain ⟨c', rfl⟩ : ∃ n : Nat, c = (n : Int) := ⟨c.toNat, by have := h1.1; simp only at this; omega⟩
  obtain ⟨s', rfl⟩ : ∃ n : Nat, s = (n : Int) := ⟨s.toNat, by have := h2.1; simp only at this; omega⟩
  obtain ⟨r', rfl⟩ : ∃ n : Nat, r = (n : Int) := ⟨r.toNat, by have := h3.1; simp only at this; omega⟩
  obtain ⟨o', rfl⟩ : ∃ n : Nat, o = (n : Int) := ⟨o.toNat, by have := h4.1; simp only at this; omega⟩
  have e : bs ++ ssB ⟨(c' : Int), (s' : Int), (r' : Int), (o' : Int), t⟩ = layK bs c' s' r' o' 4 ++ le t.size 2 ++ sb t := by
    simp only [ssB, layK, Int.toNat_natCast, List.append_assoc]
  rw [e, ← Nat.add_assoc]
  exact lays_nat A bs l cap B c' s' r' o' t w (by have := h1.2; simp only at this; omega) (by have := h2.2; simp only at this; omega) (by have := h3.2; simp only at this; omega) (by have := h4.2; simp only at this; omega) h5 hr hl hB hl2
/-- the first k sessions, packed -/
def packK (T : List Ss) (k : Nat) : List UInt8 := UInt8.ofNat T.length :: (T.take k).flatMap ssB
theorem packK_step (T : List Ss) (k : Nat) (h : k < T.length) : packK T (k + 1) = packK T k ++ ssB T[k] := by
  unfold packK
  rw [List.take_succ_eq_append_getElem h, List.flatMap_append]
  simp
theorem packK_all (T : List Ss) : packK T T.length = pack T := by unfold packK pack; rw [List.take_length]
theorem packK_le {T : List Ss} (h : WF T) (k : Nat) : (packK T k).length ≤ 1 + k * 234 := by
  induction k with
  | zero => simp [packK]
  | succ k ih =>
    by_cases hk : k < T.length
    · rw [packK_step T k hk, List.length_append, ssB_len]
      have := (h.ok _ (List.getElem_mem hk)).t
      omega
    · have e : packK T (k + 1) = packK T k := by unfold packK; rw [List.take_of_length_le (by omega), List.take_of_length_le (by omega)]
      rw [e]; omega
set_option maxHeartbeats 2000000 in
theorem pack_has (p : Nat) (v : Value) (T : List Ss) (w : World) (h : HasT w 121 p v T) : Calls Tryz.prog 50 #[.pointer (some ⟨p, 0, none⟩)] w (SE w (pack T)) := by
  have hw := h.wf.le
  have HLS := hid (list_has p v T w h)
  have HLE := hid (fun k => packK_le h.wf k)
  have HST := hid (packK_step T)
  have HOK := hid (fun k (hk : k < T.length) => h.wf.ok T[k] (List.getElem_mem hk))
  have HK0 : Hid (packK T 0 = [UInt8.ofNat T.length]) := hid rfl
  have HALL := hid (packK_all T)
  have HZ := hid ssSize
  have HP := hid (fun W => put_count T.length hw W)
  generalize pack T = bsT at *
  obtain ⟨n, hn⟩ : ∃ n, T.length = n := ⟨_, rfl⟩
  rw [hn] at HK0 HALL HP hw
  have HN := hid hn
  have hwn := u64_fit n (by omega)
  clear h
  go_enter Tryz.func50, Tryz.ntmps50
  go_wp2_with (first
    | (go_at_call 45; refine HLS.out.mono ?_; intro e w2 hh; obtain ⟨A2, c2, rfl, hc2, hrd2, hb2, -⟩ := hh.ls; have HRD2 := hid hrd2; have HB2 := hid hb2; clear hrd2 hb2 hh; rw [hn] at hc2 ⊢)
    | (go_at_call 86; refine (HP.out _).mono ?_; rintro e w3 ⟨A3, c3, rfl, hrd3, hb3⟩; have HRD3 := hid hrd3; have HB3 := hid hb3; clear hrd3 hb3))
  clear hn
  go_loopw [4, 19] (fun bv iv wr => ∃ k m A' c', k ≤ n ∧ m ≤ 1 + k * 234 ∧ Hid (m = (packK T k).length) ∧ iv = .int .i64 ((k : Nat) : Int) ∧ bv = .slice A' m c' ∧ Hid (Rd wr wr.heap.size A' (bvs (packK T k))) ∧ Below w2.heap.size w2 wr) (fun _ iv _ => n - (intOf iv).toNat)
  case atStart => exact ⟨0, 1, A3, c3, by omega, by omega, hid (by rw [HK0.out]; rfl), rfl, rfl, hid (by rw [HK0.out]; exact HRD3.out), HB3.out⟩
  case round =>
    obtain ⟨k, m, A', c', hk, hm, HM, rfl, rfl, HRD, hbe⟩ := hrel
    have HBE := hid hbe
    by_cases hlt : k < n
    · have hkl : k < T.length := by rw [HN.out]; exact hlt
      have hrd := HRD2.out.below hbe (Nat.le_refl _)
      obtain ⟨ga, o, rfl⟩ := shape_of hrd Ss.len (by decide) (by omega)
      have hrg := hrd.range Ss.len k hkl
      have HLY := hid (fun A'' xs l cap B W (hr : Rd W B A'' (bvs xs)) hl hB hl2 => lays_any A'' xs l cap B T[k] (HOK.out k hkl) W hr hl hB hl2)
      have HT := hid (HST.out k hkl)
      have HTL : Hid (T[k].t.size ≤ 200 ∧ (ssB T[k]).length = 34 + T[k].t.size) := hid ⟨(HOK.out k hkl).t, ssB_len _⟩
      have HC5 : Hid ((Ss.cells T[k]).length = 5) := hid (Ss.len _)
      have HC1 : Hid ((Ss.cells T[k]).all (·.oneCell') = true) := hid (Ss.one _)
      generalize T[k].t.size = tz at *
      generalize ssB T[k] = sB at *
      generalize Ss.cells T[k] = X at *
      have HRG := hid hrg
      have hi0 : (0 : Int) ≤ (k : Int) := by omega
      have hi1 : (k : Int) < (n : Int) := by omega
      clear hbe hrd hrg
      go_wp2_with (first
        | (refine wpList_load_mid rfl 65 (.tmp 21) rfl ga (o + k * 5) rfl X _ HRG.out Tryz.underlying65 rfl (by rw [HC5.out]; exact HZ.out) ?_)
        | (refine wpl_store_st rfl (.tmp 7) (.tmp 22) rfl HZ.out wr.heap.size ss0.cells X rfl rfl (Row.new _ _ _) ?_ (hid rfl) (hid HC5.out) (hid HC1.out); intro w4 hr4 hg4; have hb4 : Below wr.heap.size wr w4 := ((Below.refl _ _).alloc (Nat.le_refl _) _).trans (below_grown hg4 (Nat.le_refl _) (by simp)); have HB4 := hid hb4; have HR4 := hid hr4; clear hb4 hg4 hr4)
        | (refine wpList_load_row rfl 65 (.tmp 7) rfl wr.heap.size rfl 65 X.toArray (0, 0) _ HR4.out.arr' Tryz.underlying65 rfl (by rw [List.size_toArray, HC5.out]; exact HZ.out) ?_)
        | (go_at_call 87; refine (HLY.out _ _ _ _ _ _ (HRD.out.below HB4.out (Nat.le_refl _)) HM.out HB4.out.size (by omega)).mono ?_; rintro e w5 ⟨A5, c5, rfl, hrd5, hb5⟩))
      exact ⟨⟨k + 1, _, A5, c5, by omega, by have := HTL.out.1; omega, hid (by rw [HT.out, List.length_append, ← HM.out, HTL.out.2]), by go_num, rfl, hid (by rw [HT.out]; exact hrd5), HBE.out.trans ((HB4.out.trans (hb5.mono HB4.out.size)).mono HBE.out.size)⟩, by simp [intOf]; omega⟩
    · obtain rfl : k = n := by omega
      clear hbe
      go_wp2_with (with_reducible refine wpl_str rfl _ 93 9 rfl 5 Tryz.underlying93 Tryz.underlying5 Tryz.underlying9 A' m c' rfl wr.heap.size (packK T k) ?_ (hid HRD.out) (hid HM.out))
      go_ret
      exact ⟨by rw [HALL.out]; rfl, HB2.out.trans (HBE.out.mono HB2.out.size)⟩
theorem pack_any8 (p : Nat) (fp : List Nat) (T : List Ss) (w : World) (h : Gk8 121 p T fp w) : Calls Tryz.prog 50 #[.pointer (some ⟨p, 0, none⟩)] w (SE w (pack T)) := by
  obtain ⟨v, -, h⟩ := h
  exact pack_has p v T w h
end Go.Proofs.YtdimlfjepliflaaGreatDoor
/-
  The walks of the laws' awake, of opened and of SessionVerdicts.
-/
namespace Go.Proofs.YtdimlfjepliflaaGreatDoor
open Go.RowKit
set_option maxRecDepth 10000

section
variable {w0 w : World} {p : Nat} {T : List Ss}
theorem Sk8.ver (h : Sk8 w0 121 p T w) (c s r : Int) : Calls Tryz.prog 44 #[.pointer (some ⟨p, 0, none⟩), .int .i64 c, .int .i64 s, .int .i64 r] w (VE w (.int .i64 (ver T c s r))) := by
  obtain ⟨fp, h1, _⟩ := h
  exact ver_any p fp T c s r w h1
theorem Sk8.opn (h : Sk8 w0 121 p T w) (c o : Int) : Calls Tryz.prog 71 #[.pointer (some ⟨p, 0, none⟩), .int .i64 c, .int .i64 o] w fun e w' => e = .returned (.tuple #[.int .i64 (opnL T c o), .int .i64 (opnE T c o)]) ∧ Sk8 w0 121 p (opn T c o) w' := h.call (fun fp hk => opn_any p fp T c o w hk)
theorem Sk8.not (h : Sk8 w0 121 p T w) (c r o : Int) (t : ByteArray) : Calls Tryz.prog 72 #[.pointer (some ⟨p, 0, none⟩), .int .i64 c, .int .i64 r, .int .i64 o, .string t] w fun e w' => e = .returned (.int .i64 (notE T c r o t)) ∧ Sk8 w0 121 p (note T c r o t) w' := h.call (fun fp hk => not_any p fp T c r o t w hk)
end
/-! ### SessionVerdicts -/
section
variable (c o l a : Int) (w : World)
end
section
variable (c o l a s r : Int) (w : World)
end
end Go.Proofs.YtdimlfjepliflaaGreatDoor
