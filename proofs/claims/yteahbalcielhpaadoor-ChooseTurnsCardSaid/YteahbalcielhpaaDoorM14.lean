/-
  The document's Same of lists of entries.
-/
import Derived.Test.YteahbalcielhpaaDoorM12
import Derived.Test.YteahbalcielhpaaDoorM13
namespace Go.Proofs.YteahbalcielhpaaDoor
open Go.RowKit
set_option maxRecDepth 10000

theorem rws_len {α : Type} {C : α → List Value} {n : Nat} (hC : ∀ x, (C x).length = n) : ∀ l : List α, (rws C l).length = l.length * n
  | [] => by simp [rws]
  | x :: r => by
    have h1 := rws_len hC r
    unfold rws at h1 ⊢
    rw [List.map_cons, List.flatten_cons, List.length_append, h1, hC, List.length_cons, Nat.add_mul]
    omega
theorem rws_get {α : Type} {C : α → List Value} {n : Nat} (hC : ∀ x, (C x).length = n) (l : List α) (i j : Nat) (hi : i < l.length) (hj : j < n) : (rws C l)[i * n + j]? = (C l[i])[j]? := by
  unfold rws
  rw [flatM_get n _ i j (by intro r hr; obtain ⟨x, _, rfl⟩ := List.mem_map.1 hr; exact hC x) hj, List.getElem?_map, List.getElem?_eq_getElem hi]
  rfl
/-- one of a list that lies somewhere -/
theorem rws_at {α : Type} {C : α → List Value} {n : Nat} (hC : ∀ x, (C x).length = n) {w : World} {B : Nat} {A : Option Addr} {l : List α} (h : Rd w B A (rws C l)) (k : Nat) (hk : k < l.length) (hn : 0 < n) :
    ∃ g o, A = some ⟨g, o, none⟩ ∧ g < B ∧ w.rangeAt g (o + k * n) (C l[k]) := by
  have hlen := rws_len hC l
  obtain ⟨g, o, e, hg, hx⟩ := h (by
    intro e
    rw [e, List.length_nil] at hlen
    have h0 : 0 < l.length * n := Nat.mul_pos (by omega) hn
    omega)
  refine ⟨g, o, e, hg, fun j v hv => ?_⟩
  have hj : j < n := by rw [← hC l[k]]; exact (List.getElem?_eq_some_iff.1 hv).1
  rw [Nat.add_assoc]
  exact hx (k * n + j) v (by rw [rws_get hC l k j hk hj]; exact hv)
theorem take_snoc_eq {α : Type} (l k : List α) (i : Nat) (hl : i < l.length) (hk : i < k.length) (h : l.take i = k.take i) (h2 : l[i] = k[i]) : l.take (i + 1) = k.take (i + 1) := by
  rw [List.take_succ_eq_append_getElem hl, List.take_succ_eq_append_getElem hk, h, h2]
theorem ne_of_get {α : Type} (l k : List α) (i : Nat) (hl : i < l.length) (hk : i < k.length) (h2 : l[i] ≠ k[i]) : l ≠ k := by
  intro e
  subst e
  exact h2 rfl
set_option maxHeartbeats 1000000 in
theorem samee_any (A A' : Option Addr) (l k : List En) (n n' c c' B : Nat) (w : World) (hr : Rd w B A (rws (fun e : En => e.cells.toList) l)) (hr' : Rd w B A' (rws (fun e : En => e.cells.toList) k)) (hn : n = l.length) (hn' : n' = k.length) (hc : n ≤ c) (hc' : n' ≤ c') (hB : B ≤ w.heap.size)
    (hb : n ≤ 9223372036854775807) (hb' : n' ≤ 9223372036854775807) :
    Calls Tryd.prog 20 #[.slice A n c, .slice A' n' c'] w (VE w (.bool (decide (l = k)))) := by
  by_cases hne : n = n'
  · subst hne
    have HN := hid hn
    have HN' := hid hn'
    have HR := hid hr
    have HR' := hid hr'
    have HZ := hid esize
    clear hn hn' hr hr'
    have hbe := Below.refl w.heap.size w
    go_enter Tryd.func20, Tryd.ntmps20
    go_wp2_with fail
    go_loopw [5] (fun i wr => ∃ q : Nat, q ≤ n ∧ i = .int .i64 (q : Int) ∧ Hid (l.take q = k.take q) ∧ Below w.heap.size w wr) (fun i _ => n - (intOf i).toNat)
    case atStart => exact ⟨0, by omega, rfl, hid rfl, hbe⟩
    case round =>
      obtain ⟨q, hq, rfl, HT, hbe2⟩ := hrel
      have HBE := hid hbe2
      by_cases hlt : q < n
      · have hql : q < l.length := by rw [← HN.out]; exact hlt
        have hqk : q < k.length := by rw [← HN'.out]; exact hlt
        obtain ⟨g, o, rfl, hg, hrg⟩ := rws_at (n := 9) (fun _ => rfl) (HR.out.below HBE.out hB) q hql (by omega)
        obtain ⟨g', o', rfl, hg', hrg'⟩ := rws_at (n := 9) (fun _ => rfl) (HR'.out.below HBE.out hB) q hqk (by omega)
        have HNX := hid (take_snoc_eq l k q hql hqk HT.out)
        have HNO := hid (ne_of_get l k q hql hqk)
        have HRG : Hid (∀ W, wr.drew = W → W.rangeAt g (o + q * 9) l[q].cells.toList) := hid (by rintro W rfl; exact hrg)
        have HRG' : Hid (∀ W, wr.drew = W → W.rangeAt g' (o' + q * 9) k[q].cells.toList) := hid (by rintro W rfl; exact hrg')
        have hi : (q : Int) < (n : Int) := by omega
        have hi0 : (0 : Int) ≤ (q : Int) := by omega
        have HEQ : Hid (decide (l[q] = k[q]) = true ↔ l[q] = k[q]) := hid (by simp)
        generalize l[q] = X at *
        generalize k[q] = Y at *
        generalize decide (X = Y) = b at HEQ
        clear hrg hrg' hql hqk hg hg' HR HR' HT hbe2
        go_wp2_with fail
        refine wp_region_held_drew (S := (fun W => wr.drew = W)) (by kernel_rfl) (rfl) (fun hH => ?_)
        refine tk_ (i := 0) (v := .slice (some ⟨g, o, none⟩) n c) rfl (Or.inl ⟨by rfl, fun w' hw' => by clear hw'; go_simp⟩) hH ?_
        simp only [Act.put, la1, la3, la4, la5, la6]
        refine tk_ (i := 1) (v := .int .i64 (q : Int)) rfl (Or.inl ⟨by rfl, fun w' hw' => by clear hw'; go_simp⟩) hH ?_
        simp only [Act.put, la1, la2, la3, la4, la5, la6]
        refine tk_ (i := 2) (v := .pointer (some ⟨g, o + q * 9, none⟩)) rfl (Or.inl ⟨by rfl, fun w' hw' => by clear hw'; go_simp⟩) hH ?_
        simp only [Act.put, la1, la2, la3, la4, la5, la6]
        refine tk_ (i := 3) (v := .agg (X.cells)) rfl (yieldsIf_load_mid rfl 30 (.tmp 19) rfl (g) (o + q * 9) rfl (Array.toList (X.cells)) _ (fun W hW => HRG.out W hW) Tryd.underlying30 rfl (by exact HZ.out)) hH ?_
        simp only [Act.put, la1, la2, la3, la4, la5, la6]
        refine tk_ (i := 4) (v := .slice (some ⟨g', o', none⟩) n c') rfl (Or.inl ⟨by rfl, fun w' hw' => by clear hw'; go_simp⟩) hH ?_
        simp only [Act.put, la1, la2, la3, la4, la5, la6]
        refine tk_ (i := 5) (v := .int .i64 (q : Int)) rfl (Or.inl ⟨by rfl, fun w' hw' => by clear hw'; go_simp⟩) hH ?_
        simp only [Act.put, la1, la2, la3, la4, la5, la6]
        refine tk_ (i := 6) (v := .pointer (some ⟨g', o' + q * 9, none⟩)) rfl (Or.inl ⟨by rfl, fun w' hw' => by clear hw'; go_simp⟩) hH ?_
        simp only [Act.put, la1, la2, la3, la4, la5, la6]
        refine tk_ (i := 7) (v := .agg (Y.cells)) rfl (yieldsIf_load_mid rfl 30 (.tmp 23) rfl (g') (o' + q * 9) rfl (Array.toList (Y.cells)) _ (fun W hW => HRG'.out W hW) Tryd.underlying30 rfl (by exact HZ.out)) hH ?_
        simp only [Act.put, la1, la2, la3, la4, la5, la6]
        refine tk_ (i := 8) (v := .bool (!b)) rfl (yields_nee2 (by kernel_rfl) X Y b HEQ (.tmp 20) (.tmp 24) _ rfl (by kernel_rfl) (by kernel_rfl)) hH ?_
        simp only [Act.put, la1, la2, la3, la4, la5, la6]
        refine wpAnyH_done (by kernel_rfl) ?_ _
        try simp only [Act.put, la1, la2, la3, la4, la5, la6]
        cases b
        · go_wp2_with fail
          go_ret
          exact ⟨by
            have hh : ¬ X = Y := fun e => by have := HEQ.out.2 e; cases this
            rw [decide_eq_false (HNO.out hh)]; rfl, HBE.out.drew⟩
        · go_wp2_with fail
          go_roundw
          case rel => exact ⟨q + 1, by omega, by go_num, hid (HNX.out (HEQ.out.1 rfl)), HBE.out.drew⟩
          case measure => simp [intOf]; omega
      · obtain rfl : q = n := by omega
        have HE : Hid (l = k) := hid (by
          have := HT.out
          rwa [List.take_of_length_le (by rw [← HN.out]; omega), List.take_of_length_le (by rw [← HN'.out]; omega)] at this)
        go_wp2_with fail
        go_ret
        exact ⟨by rw [decide_eq_true HE.out]; rfl, HBE.out⟩
  · have e : decide (l = k) = false := decide_eq_false (fun e => hne (by rw [hn, hn', e]))
    rw [e]
    have hnz : (n : Int) ≠ (n' : Int) := by omega
    clear hr hr' hn hn' e
    go_enter Tryd.func20, Tryd.ntmps20
    go_wp2_with fail
    go_ret
    exact ⟨rfl, Below.refl _ _⟩
end Go.Proofs.YteahbalcielhpaaDoor
