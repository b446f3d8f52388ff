/-
  The walk of package session's Note.
-/
import Derived.Test.YtgphijkonmdehaaVer
namespace Go.Proofs.Ytgphijkonmdehaa
open Go.RowKit
set_option maxRecDepth 10000

theorem not_nil (c r o : Int) (t : ByteArray) (w : World) : Calls Try.prog 21 #[.pointer none, .int .i64 c, .int .i64 r, .int .i64 o, .string t] w (VE w (.int .i64 2)) := by
  go_enter Try.func21, Try.ntmps21
  go_wp2_with fail
  go_ret
  exact ⟨rfl, Below.refl _ _⟩
section
variable (p : Nat) (v : Value) (T : List Ss) (c r o : Int) (t : ByteArray) (w : World) (h : HasT w 54 p v T)
include h in
set_option maxHeartbeats 400000 in
theorem not_8 (hno : ¬ pl T c < T.length) : Calls Try.prog 21 #[.pointer (some ⟨p, 0, none⟩), .int .i64 c, .int .i64 r, .int .i64 o, .string t] w (VE w (.int .i64 8)) := by
  have HO := hid (of_no p v T c w h hno)
  clear h hno
  go_enter Try.func21, Try.ntmps21
  go_wp2_with (go_at_call 26; refine HO.out.mono ?_; rintro e w2 ⟨rfl, hb2⟩)
  go_ret
  exact ⟨rfl, hb2⟩
include h in
set_option maxHeartbeats 400000 in
theorem not_1 (hk : pl T c < T.length) (hf : ¬ Fit r ∨ ¬ Fit o) : Calls Try.prog 21 #[.pointer (some ⟨p, 0, none⟩), .int .i64 c, .int .i64 r, .int .i64 o, .string t] w (VE w (.int .i64 1)) := by
  obtain ⟨g, cc, -, -, hg⟩ := own_some h.own (by omega : 0 < T.length)
  have HO := hid (of_yes p g (pl T c) v T c w h hg rfl hk)
  by_cases h1 : Fit r
  · have h2 : ¬ Fit o := hf.resolve_left (fun q => q h1)
    have HN1 := hid (fun W => num_yes r W h1.1 h1.2)
    have HN2 := hid (fun W => num_no o W h2)
    generalize pl T c = k at *
    clear h hk hf h1 h2 hg
    go_enter Try.func21, Try.ntmps21
    go_wp2_with (first
      | (go_at_call 26; refine HO.out.mono ?_; rintro e w2 ⟨rfl, hb2⟩)
      | (go_at_call 34; refine (HN1.out _).mono ?_; rintro e w3 ⟨rfl, rfl⟩; clear HN1)
      | (go_at_call 34; refine (HN2.out _).mono ?_; rintro e w3 ⟨rfl, rfl⟩))
    go_ret
    exact ⟨rfl, hb2⟩
  · have HN1 := hid (fun W => num_no r W h1)
    generalize pl T c = k at *
    clear h hk hf h1 hg
    go_enter Try.func21, Try.ntmps21
    go_wp2_with (first
      | (go_at_call 26; refine HO.out.mono ?_; rintro e w2 ⟨rfl, hb2⟩)
      | (go_at_call 34; refine (HN1.out _).mono ?_; rintro e w3 ⟨rfl, rfl⟩))
    go_ret
    exact ⟨rfl, hb2⟩
include h in
set_option maxHeartbeats 400000 in
theorem not_5 (hk : pl T c < T.length) (h1 : Fit r) (h2 : Fit o) (ht : 200 < (t.size : Int)) : Calls Try.prog 21 #[.pointer (some ⟨p, 0, none⟩), .int .i64 c, .int .i64 r, .int .i64 o, .string t] w (VE w (.int .i64 5)) := by
  obtain ⟨g, cc, -, -, hg⟩ := own_some h.own (by omega : 0 < T.length)
  have HO := hid (of_yes p g (pl T c) v T c w h hg rfl hk)
  have HN1 := hid (fun W => num_yes r W h1.1 h1.2)
  have HN2 := hid (fun W => num_yes o W h2.1 h2.2)
  generalize pl T c = k at *
  clear h hk h1 h2 hg
  go_enter Try.func21, Try.ntmps21
  go_wp2_with (first
    | (go_at_call 26; refine HO.out.mono ?_; rintro e w2 ⟨rfl, hb2⟩)
    | (go_at_call 34; refine (HN1.out _).mono ?_; rintro e w3 ⟨rfl, rfl⟩; clear HN1)
    | (go_at_call 34; refine (HN2.out _).mono ?_; rintro e w3 ⟨rfl, rfl⟩))
  go_ret
  exact ⟨rfl, hb2⟩
/-- three cells are written -/
theorem not_turn {w : World} {g k : Nat} (h : HasT w 54 p v T) (hg : v.ownBlock = some g) (hk : k < T.length) (h1 : Fit r) (h2 : Fit o) (ht : t.size ≤ 200) :
    HasT (((w.setCell ⟨g, k * 5 + 2, none⟩ (.int .i64 r)).setCell ⟨g, k * 5 + 3, none⟩ (.int .i64 o)).setCell ⟨g, k * 5 + 4, none⟩ (.string t)) 54 p v (T.set k (noted T[k] r o t)) ∧
    Fr w (((w.setCell ⟨g, k * 5 + 2, none⟩ (.int .i64 r)).setCell ⟨g, k * 5 + 3, none⟩ (.int .i64 o)).setCell ⟨g, k * 5 + 4, none⟩ (.string t)) (fpT p v) := by
  have hx := h.wf.ok T[k] (List.getElem_mem hk)
  have a1 := h.turn hg k 2 (.int .i64 r) ⟨T[k].c, T[k].s, r, T[k].o, T[k].t⟩ hk (by decide) rfl ⟨hx.c, hx.s, h1, hx.o, hx.t⟩
  have a2 := a1.turn hg k 3 (.int .i64 o) ⟨T[k].c, T[k].s, r, o, T[k].t⟩ (by rw [List.length_set]; exact hk) (by decide) (by rw [List.getElem_set_self]; rfl) ⟨hx.c, hx.s, h1, h2, hx.t⟩
  have a3 := a2.turn hg k 4 (.string t) (noted T[k] r o t) (by rw [List.length_set, List.length_set]; exact hk) (by decide) (by rw [List.getElem_set_self]; rfl) (noted_ok hx h1 h2 ht)
  rw [List.set_set, List.set_set] at a3
  refine ⟨a3, ?_⟩
  exact ((Fr.turn w _ _ hg).trans (Fr.turn _ _ _ hg) (fun _ h _ => h)).trans (Fr.turn _ _ _ hg) (fun _ h _ => h)
include h in
set_option maxHeartbeats 1000000 in
theorem not_0 (k : Nat) (hk : pl T c = k) (hkn : k < T.length) (h1 : Fit r) (h2 : Fit o) (ht : (t.size : Int) ≤ 200) : Calls Try.prog 21 #[.pointer (some ⟨p, 0, none⟩), .int .i64 c, .int .i64 r, .int .i64 o, .string t] w fun e w' => e = .returned (.int .i64 0) ∧ Gw 54 p w (fpT p v) (T.set k (noted T[k] r o t)) w' := by
  obtain ⟨g, cc, -, -, hg⟩ := own_some h.own (by omega : 0 < T.length)
  have HO := hid (of_yes p g k v T c w h hg hk hkn)
  have HN1 := hid (fun W => num_yes r W h1.1 h1.2)
  have HN2 := hid (fun W => num_yes o W h2.1 h2.2)
  have HCL := hid (fun W => clone_any t W (by omega))
  have HT := hid (fun W (hW : Below w.heap.size w W) => not_turn p v T r o t (h.below hW) hg hkn h1 h2 (by omega))
  have HC2 := hid (fun W (hW : Below w.heap.size w W) => show W.cell? ⟨g, k * 5 + 2, none⟩ = some (.int .i64 T[k].r) from (h.below hW).cell hg k 2 hkn (by decide))
  have HC3 := hid (fun W (hW : Below w.heap.size w W) => show W.cell? ⟨g, k * 5 + 3, none⟩ = some (.int .i64 T[k].o) from (h.below hW).cell hg k 3 hkn (by decide))
  have HC4 := hid (fun W (hW : Below w.heap.size w W) => show W.cell? ⟨g, k * 5 + 4, none⟩ = some (.string T[k].t) from (h.below hW).cell hg k 4 hkn (by decide))
  have HF := hid (fun W (hW : Below w.heap.size w W) i => (h.below hW).frozen hg i)
  generalize T[k].r = xr at *
  generalize T[k].o = xo at *
  generalize T[k].t = xt at *
  clear h hk hg h1 h2
  go_enter Try.func21, Try.ntmps21
  go_wp2_with (first
    | (go_at_call 26; refine HO.out.mono ?_; rintro e w2 ⟨rfl, hb2⟩)
    | (go_at_call 34; refine (HN1.out _).mono ?_; rintro e w3 ⟨rfl, rfl⟩; clear HN1)
    | (go_at_call 34; refine (HN2.out _).mono ?_; rintro e w3 ⟨rfl, rfl⟩)
    | (go_at_call 38; refine (HCL.out _).mono ?_; rintro e w4 ⟨rfl, hb4⟩; have hb5 := hb2.trans (hb4.mono hb2.size); have hc2 := HC2.out _ hb5; have hc3 := HC3.out _ hb5; have hc4 := HC4.out _ hb5; have f2 := HF.out _ hb5 (k * 5 + 2); have f3 := HF.out _ hb5 (k * 5 + 3); have f4 := HF.out _ hb5 (k * 5 + 4); have HB5 := hid hb5; clear hb4 hb5 hb2))
  go_ret
  obtain ⟨a1, a2⟩ := HT.out _ HB5.out
  refine ⟨rfl, fpT p v, ⟨_, rfl, a1⟩, ?_, fun _ h => .inl h⟩
  exact ((Fr.of_below HB5.out).mono (fq := fpT p v) (by simp)).trans a2 (by intro b hb _; exact hb)
end
theorem not_any (p : Nat) (fp : List Nat) (T : List Ss) (c r o : Int) (t : ByteArray) (w : World) (h : Gk 54 p T fp w) : Calls Try.prog 21 #[.pointer (some ⟨p, 0, none⟩), .int .i64 c, .int .i64 r, .int .i64 o, .string t] w fun e w' => e = .returned (.int .i64 (notE T c r o t)) ∧ Gw 54 p w fp (note T c r o t) w' := by
  have hG := h
  obtain ⟨v, rfl, h⟩ := h
  have same : ∀ {z : Int}, Calls Try.prog 21 #[.pointer (some ⟨p, 0, none⟩), .int .i64 c, .int .i64 r, .int .i64 o, .string t] w (VE w (.int .i64 z)) → z ≠ 0 → notE T c r o t = z → Calls Try.prog 21 #[.pointer (some ⟨p, 0, none⟩), .int .i64 c, .int .i64 r, .int .i64 o, .string t] w fun e w' => e = .returned (.int .i64 (notE T c r o t)) ∧ Gw 54 p w (fpT p v) (note T c r o t) w' := by
    intro z hc hz hn
    refine hc.mono fun e w' hh => ⟨by rw [hn]; exact hh.1, ?_⟩
    have : note T c r o t = T := by unfold note; rw [hn, if_neg hz]
    rw [this]
    exact (Gw.start hG).below hh.2
  by_cases h1 : pl T c < T.length
  · by_cases h2 : ¬ Fit r ∨ ¬ Fit o
    · exact same (not_1 p v T c r o t w h h1 h2) (by decide) (by unfold notE; rw [if_neg (fun q => q h1), if_pos h2])
    · by_cases h3 : 200 < t.size
      · exact same (not_5 p v T c r o t w h h1 (by omega) (by omega) (by omega)) (by decide) (by unfold notE; rw [if_neg (fun q => q h1), if_neg h2, if_pos h3])
      · have e0 : notE T c r o t = 0 := by unfold notE; rw [if_neg (fun q => q h1), if_neg h2, if_neg h3]
        unfold note
        rw [e0, if_pos rfl, at_get h1]
        exact not_0 p v T c r o t w h _ rfl h1 (by omega) (by omega) (by omega)
  · exact same (not_8 p v T c r o t w h h1) (by decide) (by unfold notE; rw [if_pos h1])
end Go.Proofs.Ytgphijkonmdehaa
