/-
  The walks of package session's small things: a text of one's own, numbers that may be, where a client's session stands.
-/
import Derived.Test.YtgphijkonmdehaaTb
import Derived.Test.YtgphijkonmdehaaShelf
namespace Go.Proofs.Ytgphijkonmdehaa
open Go.RowKit
set_option maxRecDepth 10000

theorem results_cell0 {P : Program} {fn : Func} {p : Tmp} {ty : TypeId} (h : fn.results = #[.cell p ty]) (tmps : Array Value) (w : World) (g : Nat) (e : TypeId) (cs : Array Value) (fr : Nat × Nat) (d : TypeDesc)
    (hp : tmps.getD p undef = .pointer (some ⟨g, 0, none⟩)) (hg : w.heap[g]? = some (.cells cs e fr))
    (hu : P.underlying ty = some d) (hd : (match d with | .struct _ | .array _ _ => true | _ => false) = true) (hi : (P.info? ty).map (·.size) = some cs.size) :
    (results fn tmps).run P w = .ok (.agg cs) w := by
  have hp' : tmps[p]?.getD undef = .pointer (some ⟨g, 0, none⟩) := by simpa using hp
  simp [results, h, hp', asAddr, run_loadVar_row w g e ty cs fr d hg hu hd hi]
theorem num_yes (n : Int) (w : World) (h1 : 0 ≤ n) (h2 : n ≤ 72057594037927935) : Calls Try.prog 34 #[.int .i64 n] w fun e w' => e = .returned (.bool true) ∧ w' = w := by
  go_enter Try.func34, Try.ntmps34
  go_wp2_with fail
  go_ret
  exact ⟨rfl, rfl⟩
theorem num_no (n : Int) (w : World) (h : ¬ (0 ≤ n ∧ n ≤ 72057594037927935)) : Calls Try.prog 34 #[.int .i64 n] w fun e w' => e = .returned (.bool false) ∧ w' = w := by
  by_cases h1 : n < 0
  · clear h
    go_enter Try.func34, Try.ntmps34
    go_wp2_with fail
    go_ret
    first | exact ⟨rfl, rfl⟩ | (refine ⟨?_, rfl⟩; show Ending.returned (.bool (decide (n ≤ 72057594037927935))) = _; rw [h4])
  · have h2 : 72057594037927935 < n := by omega
    have h3 : 0 ≤ n := by omega
    have h4 : decide (n ≤ 72057594037927935) = false := decide_eq_false (by omega)
    clear h h1
    go_enter Try.func34, Try.ntmps34
    go_wp2_with fail
    go_ret
    first | exact ⟨rfl, rfl⟩ | (refine ⟨?_, rfl⟩; show Ending.returned (.bool (decide (n ≤ 72057594037927935))) = _; rw [h4])
theorem num_any (n : Int) (w : World) : Calls Try.prog 34 #[.int .i64 n] w fun e w' => e = .returned (.bool (decide (Fit n))) ∧ w' = w := by
  by_cases h : Fit n
  · rw [decide_eq_true h]; exact num_yes n w h.1 h.2
  · rw [decide_eq_false h]; exact num_no n w h
set_option maxHeartbeats 400000 in
theorem apart_any (x : Ss) (hx : x.t.size ≤ 200) (w : World) : Calls Try.prog 27 #[.agg x.cells.toArray] w (VE w (.agg x.cells.toArray)) := by
  obtain ⟨c, s, r, o, t⟩ := x
  have HZ := hid ssSize
  have HC := hid (fun W => clone_any t W (by simp only at hx; omega))
  have HR := hid (show Row ((w.alloc (.cells #[.int .i64 c, .int .i64 s, .int .i64 r, .int .i64 o, .string t] 37)).alloc (.cells #[.int .i64 0, .int .i64 0, .int .i64 0, .int .i64 0, .string ⟨#[]⟩] 37)) w.heap.size 37 [.int .i64 c, .int .i64 s, .int .i64 r, .int .i64 o, .string t] from Row.alloc (Row.new _ _ _) _)
  have HR0 := hid (show Row ((w.alloc (.cells #[.int .i64 c, .int .i64 s, .int .i64 r, .int .i64 o, .string t] 37)).alloc (.cells #[.int .i64 0, .int .i64 0, .int .i64 0, .int .i64 0, .string ⟨#[]⟩] 37)) (w.heap.size + 1) 37 ss0.cells from alloc2_new _ _ _)
  clear hx
  show Calls Try.prog 27 #[.agg #[.int .i64 c, .int .i64 s, .int .i64 r, .int .i64 o, .string t]] w (VE w (.agg #[.int .i64 c, .int .i64 s, .int .i64 r, .int .i64 o, .string t]))
  go_enter Try.func27, Try.ntmps27
  go_wp2_with (first
    | (go_at_call 38; refine (HC.out _).mono ?_; rintro e w3 ⟨rfl, hb3⟩; have hr3 := HR.out.below hb3 (by simp; omega); have hz3 := HR0.out.below hb3 (by simp); have hc3 := hr3.at_ 4 _ rfl; have hf3 := hr3.frozen 4; have hr4 := hr3.set_ 4 (.string t); have hz4 := hz3.far (p := ⟨w.heap.size, 4, none⟩) (by show w.heap.size + 1 ≠ w.heap.size; omega) (.string t); have HB3 := hid hb3; clear hb3; have HR4 := hid hr4; have HZ4 := hid hz4; clear hr4 hz4 hr3 hz3)
    | (refine wpList_load_row rfl 37 (.tmp 1) rfl w.heap.size rfl 37 _ (0, 0) _ HR4.out.arr' Try.underlying37 rfl HZ.out ?_)
    | (refine wpl_store_st rfl (.tmp 2) (.tmp 7) rfl HZ.out (w.heap.size + 1) ss0.cells [.int .i64 c, .int .i64 s, .int .i64 r, .int .i64 o, .string t] rfl rfl HZ4.out ?_ (hid rfl) (hid rfl) (hid rfl); intro w5 hr5 hg5))
  refine bodyPost_ret (results_cell0 rfl _ _ (w.heap.size + 1) 37 _ (0, 0) _ rfl hr5.arr' Try.underlying37 rfl HZ.out) rfl ⟨rfl, ?_⟩
  have hb0 := (((Below.refl w.heap.size w).alloc (Nat.le_refl _) (.cells #[.int .i64 c, .int .i64 s, .int .i64 r, .int .i64 o, .string t] 37)).alloc (by simp) (.cells #[.int .i64 0, .int .i64 0, .int .i64 0, .int .i64 0, .string ⟨#[]⟩] 37)).trans (HB3.out.mono (by simp; omega))
  have hb1 := below_grown (gset w3 w.heap.size 4 (.string t)) (Nat.le_refl _) hb0.size
  exact (hb0.trans hb1).trans (below_grown hg5 (by omega) (by have := hb0.size; simp; omega))

set_option maxHeartbeats 400000 in
theorem iss_yes (x : Ss) (b : Nat) (w : World) (hc : w.cell? ⟨b, 0, none⟩ = some (.int .i64 x.c)) : Calls Try.prog 41 #[.agg x.cells.toArray, .pointer (some ⟨b, 0, none⟩)] w (VE w (.bool true)) := by
  have hb := World.block_lt_of_cell? w _ hc
  obtain ⟨c, s, r, o, t⟩ := x
  show Calls Try.prog 41 #[.agg #[.int .i64 c, .int .i64 s, .int .i64 r, .int .i64 o, .string t], .pointer (some ⟨b, 0, none⟩)] w _
  go_enter Try.func41, Try.ntmps41
  go_wp2_with fail
  go_ret
  exact ⟨rfl, (Below.refl _ _).alloc (Nat.le_refl _) _⟩
set_option maxHeartbeats 400000 in
theorem iss_no (x : Ss) (c' : Int) (b : Nat) (w : World) (hc : w.cell? ⟨b, 0, none⟩ = some (.int .i64 c')) (hne : x.c ≠ c') : Calls Try.prog 41 #[.agg x.cells.toArray, .pointer (some ⟨b, 0, none⟩)] w (VE w (.bool false)) := by
  have hb := World.block_lt_of_cell? w _ hc
  obtain ⟨c, s, r, o, t⟩ := x
  have h1 : (c == c') = false := beq_eq_false_iff_ne.2 hne
  clear hne
  show Calls Try.prog 41 #[.agg #[.int .i64 c, .int .i64 s, .int .i64 r, .int .i64 o, .string t], .pointer (some ⟨b, 0, none⟩)] w _
  go_enter Try.func41, Try.ntmps41
  go_wp2_with fail
  go_ret
  exact ⟨rfl, (Below.refl _ _).alloc (Nat.le_refl _) _⟩

def idx (l : List Ss) (c : Int) : Int := if pl l c < l.length then (pl l c : Int) else -1
set_option maxHeartbeats 1000000 in
theorem index_any (A : Option Addr) (l : List Ss) (n cc B b : Nat) (c : Int) (w : World) (hr : Rd w B A (rows Ss.cells l)) (hn : n = l.length) (hB : B ≤ w.heap.size) (hc : w.cell? ⟨b, 0, none⟩ = some (.int .i64 c)) (hnc : n ≤ cc) (hbig : n ≤ 100) :
    Calls Try.prog 40 #[.slice A n cc, .func (.func 41) #[] #[.pointer (some ⟨b, 0, none⟩)]] w (VE w (.int .i64 (idx l c))) := by
  have hb := World.block_lt_of_cell? w _ hc
  by_cases h0 : n = 0
  · have hz : idx l c = -1 := by
      unfold idx
      rw [if_neg (by omega)]
    rw [hz]
    subst h0
    clear hr hn hz hc hb
    go_enter Try.func40, Try.ntmps40
    go_wp2_with fail
    go_loop [8] (fun i => i = .int .i64 0) (fun _ => 0)
    case atStart => rfl
    case round =>
      obtain rfl := hrel
      go_wp2_with fail
      go_ret
      exact ⟨rfl, Below.refl _ _⟩
  have hlen := rows_len (C := Ss.cells) Ss.len l
  obtain ⟨g, o, rfl, hg, hx⟩ := (show _ from hr) (by intro e; rw [e] at hlen; simp at hlen; omega)
  clear hx hlen
  have HR := hid hr
  have HN := hid hn
  have HC := hid (fun W (hW : Below w.heap.size w W) => (hW.cell (p := ⟨b, 0, none⟩) hb).trans hc)
  have HZ := hid ssSize
  have HNF : Hid (pl l c = l.length → idx l c = -1) := hid fun e => by
    unfold idx
    rw [if_neg (by omega)]
  have HF : Hid (∀ k, k < l.length → pl l c = k → idx l c = (k : Int)) := hid fun k hk e => by
    unfold idx
    rw [e, if_pos hk]
  generalize idx l c = r at *
  clear hr hn hc
  go_enter Try.func40, Try.ntmps40
  go_wp2_with fail
  go_loopw [8] (fun i wr => ∃ k : Nat, k ≤ n ∧ i = .int .i64 (k : Int) ∧ Hid (k ≤ pl l c) ∧ Below w.heap.size w wr) (fun i _ => n - (intOf i).toNat)
  case atStart => exact ⟨0, by omega, rfl, hid (Nat.zero_le _), Below.refl _ _⟩
  case round =>
    obtain ⟨k, hk, rfl, HK, hbe⟩ := hrel
    have HBE := hid hbe
    by_cases hlt : k < n
    · have hkl : k < l.length := by rw [← HN.out]; exact hlt
      have HRG := hid ((HR.out.below hbe hB).range Ss.len k hkl)
      have HC4 : Hid ((Ss.cells l[k]).length = 5) := hid (Ss.len _)
      by_cases he : l[k].c = c
      · have HI := hid (iss_yes l[k] b wr (by rw [he]; exact HC.out wr hbe))
        have HAT := hid (HF.out k hkl (pl_this HK.out hkl he))
        generalize Ss.cells l[k] = X at *
        clear hbe he
        go_wp2_with (first
          | (refine wpList_load_mid rfl 37 (.tmp 14) rfl g (o + k * 5) rfl X _ HRG.out Try.underlying37 rfl (by rw [HC4.out]; exact HZ.out) ?_)
          | (go_at_call 41; refine HI.out.mono ?_; rintro e w2 ⟨rfl, hb2⟩))
        go_ret
        rw [HAT.out]
        exact ⟨rfl, HBE.out.trans (hb2.mono HBE.out.size)⟩
      · have HI := hid (iss_no l[k] c b wr (HC.out wr hbe) he)
        have HAT : Hid (k + 1 ≤ pl l c) := hid (by
          rcases Nat.lt_or_ge k (pl l c) with h | h
          · omega
          · have e : pl l c = k := Nat.le_antisymm h HK.out
            have h2 := pl_here (T := l) (c := c) (by rw [e]; exact hkl)
            simp only [e] at h2
            exact absurd h2 he)
        generalize Ss.cells l[k] = X at *
        clear hbe he
        go_wp2_with (first
          | (refine wpList_load_mid rfl 37 (.tmp 14) rfl g (o + k * 5) rfl X _ HRG.out Try.underlying37 rfl (by rw [HC4.out]; exact HZ.out) ?_)
          | (go_at_call 41; refine HI.out.mono ?_; rintro e w2 ⟨rfl, hb2⟩))
        exact ⟨⟨k + 1, by omega, by go_num, hid HAT.out, HBE.out.trans (hb2.mono HBE.out.size)⟩, by simp [intOf]; omega⟩
    · obtain rfl : k = n := by omega
      have HAT := hid (HNF.out (by have := HK.out; have := pl_le l c; have := HN.out; omega))
      clear hbe
      go_wp2_with fail
      go_ret
      rw [HAT.out]
      exact ⟨rfl, HBE.out⟩

theorem of_nil (c : Int) (w : World) : Calls Try.prog 26 #[.pointer none, .int .i64 c] w (VE w (.pointer none)) := by
  go_enter Try.func26, Try.ntmps26
  go_wp2_with fail
  go_ret
  exact ⟨rfl, (Below.refl _ _).alloc (Nat.le_refl _) _⟩
set_option maxHeartbeats 400000 in
theorem of_no (p : Nat) (v : Value) (T : List Ss) (c : Int) (w : World) (h : HasT w 54 p v T) (hno : ¬ pl T c < T.length) :
    Calls Try.prog 26 #[.pointer (some ⟨p, 0, none⟩), .int .i64 c] w (VE w (.pointer none)) := by
  obtain ⟨A, cc, e, hnc, hrd⟩ := h.shape
  have hc0 := h.c0
  rw [e] at hc0
  have hw := h.wf.le
  have hp := h.box.lt
  have hi : idx T c = -1 := by unfold idx; rw [if_neg hno]
  have HF := hid (fun W (hW : Below w.heap.size w W) b (hb : W.cell? ⟨b, 0, none⟩ = some (.int .i64 c)) => index_any A T T.length cc w.heap.size b c W (hrd.below hW (Nat.le_refl _)) rfl hW.size hb hnc (by omega))
  rw [hi] at HF
  generalize T.length = n at *
  clear h e hrd hno hi
  go_enter Try.func26, Try.ntmps26
  go_wp2_with (go_at_call 40; refine (HF.out _ ((Below.refl _ _).alloc (Nat.le_refl _) _) _ (by simp)).mono ?_; rintro e w2 ⟨rfl, hb2⟩)
  go_ret
  exact ⟨rfl, ((Below.refl _ _).alloc (Nat.le_refl _) _).trans (hb2.mono (by simp))⟩
set_option maxHeartbeats 400000 in
theorem of_yes (p g k : Nat) (v : Value) (T : List Ss) (c : Int) (w : World) (h : HasT w 54 p v T) (hg : v.ownBlock = some g) (hk : pl T c = k) (hkn : k < T.length) :
    Calls Try.prog 26 #[.pointer (some ⟨p, 0, none⟩), .int .i64 c] w (VE w (.pointer (some ⟨g, k * 5, none⟩))) := by
  obtain ⟨A, cc, e, hnc, hrd⟩ := h.shape
  obtain ⟨g', c', e', -, hg'⟩ := own_some h.own (by omega : 0 < T.length)
  rw [hg] at hg'
  cases hg'
  rw [e'] at e
  simp only [Value.slice.injEq] at e
  obtain ⟨rfl, -, rfl⟩ := e
  have hc0 := h.c0
  rw [e'] at hc0
  have hw := h.wf.le
  have hp := h.box.lt
  have hi : idx T c = (k : Int) := by unfold idx; rw [hk, if_pos hkn]
  have HF := hid (fun W (hW : Below w.heap.size w W) b (hb : W.cell? ⟨b, 0, none⟩ = some (.int .i64 c)) => index_any (some ⟨g, 0, none⟩) T T.length c' w.heap.size b c W (hrd.below hW (Nat.le_refl _)) rfl hW.size hb hnc (by omega))
  rw [hi] at HF
  have hc2 := fun W (hW : Below w.heap.size w W) => (hW.cell (p := ⟨p, 0, none⟩) hp).trans hc0
  have HC2 := hid hc2
  have hki : (k : Int) < (T.length : Int) := by omega
  generalize T.length = n at *
  clear h e' hrd hk hg hi hc2
  go_enter Try.func26, Try.ntmps26
  go_wp2_with (go_at_call 40; refine (HF.out _ ((Below.refl _ _).alloc (Nat.le_refl _) _) _ (by simp)).mono ?_; rintro e w2 ⟨rfl, hb2⟩; have hcw := HC2.out _ (((Below.refl _ _).alloc (Nat.le_refl _) _).trans (hb2.mono (by simp))))
  go_ret
  exact ⟨rfl, ((Below.refl _ _).alloc (Nat.le_refl _) _).trans (hb2.mono (by simp))⟩
end Go.Proofs.Ytgphijkonmdehaa
