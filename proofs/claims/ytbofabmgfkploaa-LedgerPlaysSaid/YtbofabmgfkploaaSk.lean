/-
  A law's own ledger, or two side by side; what stays true of a ledger that was played.
-/
import Derived.Test.YtbofabmgfkploaaGk
namespace Go.Proofs.Ytbofabmgfkploaa
open Go.RowKit

/-- the law's own ledger -/
def Sk (w0 : World) (X p : Nat) (S : Lg) (w : World) : Prop := ∃ fp, Gk X p S fp w ∧ (∀ b ∈ fp, w0.heap.size ≤ b) ∧ Below w0.heap.size w0 w
/-- two, apart -/
def Tk (w0 : World) (X p : Nat) (S : Lg) (Y q : Nat) (T : Lg) (w : World) : Prop :=
  ∃ fp fq, Gk X p S fp w ∧ Gk Y q T fq w ∧ (∀ b ∈ fp, b ∉ fq) ∧ (∀ b ∈ fp, w0.heap.size ≤ b) ∧ (∀ b ∈ fq, w0.heap.size ≤ b) ∧ Below w0.heap.size w0 w
section
variable {w0 w w' : World} {X p Y q : Nat} {S S' T T' : Lg} {P : Program} {f : FuncId} {args : Array Value} {v : Ending}
theorem Sk.frame (h : Sk w0 X p S w) : Below w0.heap.size w0 w := by obtain ⟨_, _, _, h⟩ := h; exact h
theorem Sk.wf (h : Sk w0 X p S w) : S.WF := by obtain ⟨_, h, _⟩ := h; exact h.wf
theorem Sk.below (h : Sk w0 X p S w) (hb : Below w.heap.size w w') : Sk w0 X p S w' := by
  obtain ⟨fp, h1, h2, h3⟩ := h
  exact ⟨fp, h1.below hb, h2, h3.trans (hb.mono h3.size)⟩
theorem Sk.drewN (h : Sk w0 X p S w) (n : Nat) : Sk w0 X p S (w.drewN n) := h.below ⟨rfl, rfl, rfl, Nat.le_refl _, fun _ _ => rfl⟩
theorem Sk.alloc (h : Sk w0 X p S w) (o : Obj) : Sk w0 X p S (w.alloc o) := h.below ((Below.refl _ _).alloc (Nat.le_refl _) o)
theorem Sk.gw {fp : List Nat} (h1 : ∀ b ∈ fp, w0.heap.size ≤ b) (h2 : Below w0.heap.size w0 w) (h : Gw X p w fp S w') : Sk w0 X p S w' := by
  obtain ⟨fq, k1, k2, k3⟩ := h
  refine ⟨fq, k1, fun b hb => ?_, h2.trans (k2.below h1 h2.size)⟩
  rcases k3 b hb with h | h
  · exact h1 b h
  · exact Nat.le_trans h2.size h
theorem Sk.call (h : Sk w0 X p S w) (H : ∀ fp, Gk X p S fp w → Calls P f args w fun e w' => e = v ∧ Gw X p w fp S' w') : Calls P f args w fun e w' => e = v ∧ Sk w0 X p S' w' := by
  obtain ⟨fp, h1, h2, h3⟩ := h
  exact (H fp h1).mono fun e w' hh => ⟨hh.1, Sk.gw h2 h3 hh.2⟩
theorem Sk.look {Q : Ending → World → Prop} (h : Sk w0 X p S w) (H : ∀ va vt, HasG w X p va vt S → Calls P f args w Q) : Calls P f args w Q := by
  obtain ⟨_, ⟨va, vt, rfl, h1⟩, _⟩ := h
  exact H va vt h1

theorem Tk.frame (h : Tk w0 X p S Y q T w) : Below w0.heap.size w0 w := by obtain ⟨_, _, _, _, _, _, _, h⟩ := h; exact h
theorem Tk.fst (h : Tk w0 X p S Y q T w) : Sk w0 X p S w := by obtain ⟨fp, fq, h1, h2, h3, h4, h5, h6⟩ := h; exact ⟨fp, h1, h4, h6⟩
theorem Tk.snd (h : Tk w0 X p S Y q T w) : Sk w0 Y q T w := by obtain ⟨fp, fq, h1, h2, h3, h4, h5, h6⟩ := h; exact ⟨fq, h2, h5, h6⟩
theorem Tk.below (h : Tk w0 X p S Y q T w) (hb : Below w.heap.size w w') : Tk w0 X p S Y q T w' := by
  obtain ⟨fp, fq, h1, h2, h3, h4, h5, h6⟩ := h
  exact ⟨fp, fq, h1.below hb, h2.below hb, h3, h4, h5, h6.trans (hb.mono h6.size)⟩
theorem Tk.drewN (h : Tk w0 X p S Y q T w) (n : Nat) : Tk w0 X p S Y q T (w.drewN n) := h.below ⟨rfl, rfl, rfl, Nat.le_refl _, fun _ _ => rfl⟩
theorem Tk.swap (h : Tk w0 X p S Y q T w) : Tk w0 Y q T X p S w := by
  obtain ⟨fp, fq, h1, h2, h3, h4, h5, h6⟩ := h
  exact ⟨fq, fp, h2, h1, fun b hb hn => h3 b hn hb, h5, h4, h6⟩
theorem Tk.step1 {fp fq : List Nat} (h2 : Gk Y q T fq w) (h3 : ∀ b ∈ fp, b ∉ fq) (h4 : ∀ b ∈ fp, w0.heap.size ≤ b) (h5 : ∀ b ∈ fq, w0.heap.size ≤ b) (h6 : Below w0.heap.size w0 w) (h : Gw X p w fp S' w') : Tk w0 X p S' Y q T w' := by
  obtain ⟨fr, k1, k2, k3⟩ := h
  refine ⟨fr, fq, k1, h2.fr k2 (fun b hb hn => h3 b hn hb), ?_, ?_, h5, h6.trans (k2.below h4 h6.size)⟩
  · intro b hb hn
    rcases k3 b hb with h | h
    · exact h3 b h hn
    · have := h2.lt b hn; omega
  · intro b hb
    rcases k3 b hb with h | h
    · exact h4 b h
    · exact Nat.le_trans h6.size h
theorem Tk.call1 (h : Tk w0 X p S Y q T w) (H : ∀ fp, Gk X p S fp w → Calls P f args w fun e w' => e = v ∧ Gw X p w fp S' w') : Calls P f args w fun e w' => e = v ∧ Tk w0 X p S' Y q T w' := by
  obtain ⟨fp, fq, h1, h2, h3, h4, h5, h6⟩ := h
  exact (H fp h1).mono fun e w' hh => ⟨hh.1, Tk.step1 h2 h3 h4 h5 h6 hh.2⟩
theorem Tk.call2 (h : Tk w0 X p S Y q T w) (H : ∀ fp, Gk Y q T fp w → Calls P f args w fun e w' => e = v ∧ Gw Y q w fp T' w') : Calls P f args w fun e w' => e = v ∧ Tk w0 X p S Y q T' w' :=
  (h.swap.call1 H).mono fun _ _ hh => ⟨hh.1, hh.2.swap⟩
/-- a second one is made -/
theorem Sk.two {fq : List Nat} (h : Sk w0 X p S w) (hb : Below w.heap.size w w') (hk : Gk Y q T fq w') (hn : ∀ b ∈ fq, w.heap.size ≤ b) : Tk w0 X p S Y q T w' := by
  obtain ⟨fp, h1, h2, h3⟩ := h
  refine ⟨fp, fq, h1.below hb, hk, fun b hb hm => ?_, h2, fun b hb => Nat.le_trans h3.size (hn b hb), h3.trans (hb.mono h3.size)⟩
  have := h1.lt b hb
  have := hn b hm
  omega
end

/-! ### what stays true -/
def sumB (id : Nat) (l : List Tr) : Nat := (l.map fun t => if t.b = id then t.d else 0).sum
def sumC (id : Nat) (l : List Tr) : Nat := (l.map fun t => if t.c = id then t.d else 0).sum
theorem sumB_snoc (id : Nat) (l : List Tr) (t : Tr) : sumB id (l ++ [t]) = sumB id l + if t.b = id then t.d else 0 := by simp [sumB]
theorem sumC_snoc (id : Nat) (l : List Tr) (t : Tr) : sumC id (l ++ [t]) = sumC id l + if t.c = id then t.d else 0 := by simp [sumC]
theorem sumB_take (id : Nat) (l : List Tr) (k : Nat) (h : k < l.length) : sumB id (l.take (k + 1)) = sumB id (l.take k) + if l[k].b = id then l[k].d else 0 := by
  rw [List.take_succ_eq_append_getElem h, sumB_snoc]
theorem sumC_take (id : Nat) (l : List Tr) (k : Nat) (h : k < l.length) : sumC id (l.take (k + 1)) = sumC id (l.take k) + if l[k].c = id then l[k].d else 0 := by
  rw [List.take_succ_eq_append_getElem h, sumC_snoc]
theorem sumB_le (id : Nat) (l : List Tr) (k : Nat) : sumB id (l.take k) ≤ sumB id l := by
  conv => rhs; rw [← List.take_append_drop k l]
  simp only [sumB, List.map_append, List.sum_append]
  omega
theorem sumC_le (id : Nat) (l : List Tr) (k : Nat) : sumC id (l.take k) ≤ sumC id l := by
  conv => rhs; rw [← List.take_append_drop k l]
  simp only [sumC, List.map_append, List.sum_append]
  omega
theorem sum_zero {l : List Tr} {p : Tr → Prop} [DecidablePred p] (h : ∀ t ∈ l, ¬ p t) : (l.map fun t => if p t then t.d else 0).sum = 0 := by
  induction l with
  | nil => rfl
  | cons x r ih => rw [List.map_cons, List.sum_cons, ih (fun t ht => h t (by simp [ht])), if_neg (h x (by simp))]
structure Lg.Good (S : Lg) : Prop where
  ia : ∀ x ∈ S.A, x.id ≠ 0
  it : ∀ t ∈ S.T, t.a ≠ 0
  na : ∀ i j (hi : i < S.A.length) (hj : j < S.A.length), S.A[i].id = S.A[j].id → i = j
  nt : ∀ i j (hi : i < S.T.length) (hj : j < S.T.length), S.T[i].a = S.T[j].a → i = j
  fl : ∀ x ∈ S.A, x.flags = 1 → x.deb ≤ x.cre
  et : ∀ t ∈ S.T, S.fa t.b < S.A.length ∧ S.fa t.c < S.A.length
  sb : ∀ x ∈ S.A, x.deb = sumB x.id S.T
  sc : ∀ x ∈ S.A, x.cre = sumC x.id S.T
theorem Lg.nil_good : Lg.nil.Good := ⟨by simp [Lg.nil], by simp [Lg.nil], by simp [Lg.nil], by simp [Lg.nil], by simp [Lg.nil], by simp [Lg.nil], by simp [Lg.nil], by simp [Lg.nil]⟩
theorem at_some {α : Type} (key : α → Nat) (id : Nat) (l : List α) (x : α) (hx : x ∈ l) (h : key x = id) : at_ key id l < l.length := by
  refine List.findIdx_lt_length_of_exists ⟨x, hx, ?_⟩
  simp [h]
theorem at_iff {S : Lg} (h : S.Good) (id j : Nat) (hj : j < S.A.length) : S.A[j].id = id ↔ j = S.fa id := by
  constructor
  · intro e
    have h1 : S.fa id < S.A.length := at_some Ac.id id S.A S.A[j] (List.getElem_mem hj) e
    have h2 := at_here Ac.id id S.A h1
    exact h.na j _ hj h1 (by rw [e]; exact h2.symm)
  · intro e
    subst e
    exact at_here Ac.id id S.A hj
theorem ja_zero {S : Lg} {x : Ac} (h : S.ja x = 0) : x.id ≠ 0 ∧ ¬ S.fa x.id < S.A.length ∧ ¬ 1 < x.flags ∧ S.A.length ≠ 8 := by
  unfold Lg.ja at h
  by_cases h0 : x.id = 0
  · rw [if_pos h0] at h; omega
  rw [if_neg h0] at h
  by_cases h1 : S.fa x.id < S.A.length
  · rw [if_pos h1] at h; omega
  rw [if_neg h1] at h
  by_cases h2 : 1 < x.flags
  · rw [if_pos h2] at h; omega
  rw [if_neg h2] at h
  by_cases h3 : S.A.length = 8
  · rw [if_pos h3] at h; omega
  exact ⟨h0, h1, h2, h3⟩
theorem at_app {α : Type} (key : α → Nat) (id : Nat) (l m : List α) (h : at_ key id l < l.length) : at_ key id (l ++ m) = at_ key id l := by
  have h1 := at_here key id l h
  refine at_this key id (l ++ m) _ ?_ (by rw [List.length_append]; omega) (by rw [List.getElem_append_left h]; exact h1)
  rcases Nat.lt_or_ge (at_ key id (l ++ m)) (at_ key id l) with h2 | h2
  · have h3 := at_here key id (l ++ m) (by rw [List.length_append]; omega)
    rw [List.getElem_append_left (by omega)] at h3
    exact absurd h3 (at_before key id l _ h2 (by omega))
  · exact h2
theorem Lg.opn_good {S : Lg} (h : S.Good) (x : Ac) (hd : x.deb = 0) (hc : x.cre = 0) : (S.opn x).Good := by
  unfold Lg.opn
  split
  · rename_i hj
    obtain ⟨h0, h1, _, _⟩ := ja_zero hj
    have hne : ∀ y ∈ S.A, y.id ≠ x.id := fun y hy e => h1 (at_some Ac.id x.id S.A y hy e)
    have hmem : ∀ i (hi : i < (S.A ++ [x]).length), (∃ h : i < S.A.length, (S.A ++ [x])[i] = S.A[i]) ∨ (i = S.A.length ∧ (S.A ++ [x])[i] = x) := by
      intro i hi
      by_cases h : i < S.A.length
      · exact .inl ⟨h, List.getElem_append_left h⟩
      · have e : i = S.A.length := by simp at hi; omega
        subst e
        exact .inr ⟨rfl, by simp⟩
    have hz : ∀ t ∈ S.T, t.b ≠ x.id ∧ t.c ≠ x.id := fun t ht => by
      obtain ⟨e1, e2⟩ := h.et t ht
      have k1 := at_here Ac.id t.b S.A e1
      have k2 := at_here Ac.id t.c S.A e2
      refine ⟨fun e => ?_, fun e => ?_⟩
      · exact hne _ (List.getElem_mem e1) (k1.trans e)
      · exact hne _ (List.getElem_mem e2) (k2.trans e)
    refine ⟨?_, h.it, ?_, h.nt, ?_, ?_, ?_, ?_⟩
    · intro y hy
      rcases List.mem_append.1 hy with hy | hy
      · exact h.ia y hy
      · rw [List.mem_singleton.1 hy]; exact h0
    · intro i j hi hj e
      rcases hmem i hi with ⟨hi2, ei⟩ | ⟨hi2, ei⟩
      · rcases hmem j hj with ⟨hj2, ej⟩ | ⟨hj2, ej⟩
        · simp only [ei, ej] at e
          exact h.na i j hi2 hj2 e
        · simp only [ei, ej] at e
          exact absurd e (hne _ (List.getElem_mem hi2))
      · rcases hmem j hj with ⟨hj2, ej⟩ | ⟨hj2, ej⟩
        · simp only [ei, ej] at e
          exact absurd e.symm (hne _ (List.getElem_mem hj2))
        · omega
    · intro y hy
      rcases List.mem_append.1 hy with hy | hy
      · exact h.fl y hy
      · rw [List.mem_singleton.1 hy, hd, hc]
        intro _
        exact Nat.le_refl _
    · intro t ht
      obtain ⟨e1, e2⟩ := h.et t ht
      refine ⟨?_, ?_⟩
      · show at_ Ac.id t.b (S.A ++ [x]) < (S.A ++ [x]).length
        rw [at_app Ac.id t.b S.A [x] e1, List.length_append]
        have : at_ Ac.id t.b S.A < S.A.length := e1
        omega
      · show at_ Ac.id t.c (S.A ++ [x]) < (S.A ++ [x]).length
        rw [at_app Ac.id t.c S.A [x] e2, List.length_append]
        have : at_ Ac.id t.c S.A < S.A.length := e2
        omega
    · intro y hy
      rcases List.mem_append.1 hy with hy | hy
      · exact h.sb y hy
      · rw [List.mem_singleton.1 hy, hd]
        exact (sum_zero (p := fun t => t.b = x.id) (fun t ht => (hz t ht).1)).symm
    · intro y hy
      rcases List.mem_append.1 hy with hy | hy
      · exact h.sc y hy
      · rw [List.mem_singleton.1 hy, hc]
        exact (sum_zero (p := fun t => t.c = x.id) (fun t ht => (hz t ht).2)).symm
  · exact h
theorem Lg.mov_good {S : Lg} (h : S.Good) (t : Tr) : (S.mov t).Good := by
  unfold Lg.mov
  split
  · rename_i hj
    have hm := Lg.moves hj
    have hlen := S.paid_len t
    have hnt : ∀ y ∈ S.T, y.a ≠ t.a := fun y hy e => by
      have h1 : S.ft t.a < S.T.length := at_some Tr.a t.a S.T y hy e
      have := hm.new
      omega
    have hid : ∀ i (hi : i < (S.paid t).length), (S.paid t)[i].id = (S.A[i]'(by rw [hlen] at hi; exact hi)).id := by
      intro i hi
      have hi2 : i < S.A.length := by rw [hlen] at hi; exact hi
      rw [Lg.paid_get hm i hi2]
      split
      · rfl
      · split <;> rfl
    have hdeb : ∀ i (hi : i < (S.paid t).length), (S.paid t)[i].deb = (S.A[i]'(by rw [hlen] at hi; exact hi)).deb + if t.b = (S.A[i]'(by rw [hlen] at hi; exact hi)).id then t.d else 0 := by
      intro i hi
      have hi2 : i < S.A.length := by rw [hlen] at hi; exact hi
      have hk := at_iff h t.b i hi2
      rw [Lg.paid_get hm i hi2]
      by_cases e1 : i = S.fa t.b
      · rw [if_pos e1, if_pos (hk.2 e1).symm]
        rfl
      · have e2 : ¬ t.b = S.A[i].id := fun e => e1 (hk.1 e.symm)
        simp only [if_neg e1, if_neg e2]
        split <;> rfl
    have hcre : ∀ i (hi : i < (S.paid t).length), (S.paid t)[i].cre = (S.A[i]'(by rw [hlen] at hi; exact hi)).cre + if t.c = (S.A[i]'(by rw [hlen] at hi; exact hi)).id then t.d else 0 := by
      intro i hi
      have hi2 : i < S.A.length := by rw [hlen] at hi; exact hi
      have hk := at_iff h t.c i hi2
      rw [Lg.paid_get hm i hi2]
      by_cases e2 : i = S.fa t.c
      · have e1 : ¬ i = S.fa t.b := fun e => hm.ne (by omega)
        have e3 : t.c = S.A[i].id := (hk.2 e2).symm
        simp only [if_neg e1, if_pos e2, if_pos e3]
        rfl
      · have e3 : ¬ t.c = S.A[i].id := fun e => e2 (hk.1 e.symm)
        simp only [if_neg e2, if_neg e3]
        split <;> rfl
    have hfa : ∀ id, at_ Ac.id id (S.paid t) = S.fa id := by
      intro id
      have h1 : at_ Ac.id id (S.paid t) ≤ (S.paid t).length := at_le _ _ _
      rcases Nat.lt_or_ge (at_ Ac.id id (S.paid t)) (S.paid t).length with h2 | h2
      · have h3 := at_here Ac.id id (S.paid t) h2
        rw [hid _ h2] at h3
        exact (at_iff h id _ (by omega)).1 h3
      · have h3 : S.fa id ≤ S.A.length := at_le Ac.id id S.A
        rcases Nat.lt_or_ge (S.fa id) S.A.length with h4 | h4
        · have h5 := at_here Ac.id id S.A h4
          have h6 := at_before Ac.id id (S.paid t) (at_ Ac.id id S.A) (by have : at_ Ac.id id S.A < S.A.length := h4; omega) (by have : at_ Ac.id id S.A < S.A.length := h4; omega)
          rw [hid] at h6
          exact absurd h5 h6
        · omega
    refine ⟨?_, ?_, ?_, ?_, ?_, ?_, ?_, ?_⟩
    · intro y hy
      obtain ⟨i, hi, rfl⟩ := List.getElem_of_mem hy
      rw [hid i hi]
      exact h.ia _ (List.getElem_mem _)
    · intro y hy
      rcases List.mem_append.1 hy with hy | hy
      · exact h.it y hy
      · rw [List.mem_singleton.1 hy]; exact hm.id
    · intro i j hi hj e
      simp only [hid i hi, hid j hj] at e
      exact h.na i j _ _ e
    · intro i j hi hj e
      simp only [List.length_append, List.length_cons, List.length_nil] at hi hj
      by_cases hi2 : i < S.T.length
      · by_cases hj2 : j < S.T.length
        · simp only [List.getElem_append_left hi2, List.getElem_append_left hj2] at e
          exact h.nt i j hi2 hj2 e
        · have ej : j = S.T.length := by omega
          subst ej
          simp only [List.getElem_append_left hi2] at e
          simp at e
          exact absurd e (hnt _ (List.getElem_mem hi2))
      · have ei : i = S.T.length := by omega
        subst ei
        by_cases hj2 : j < S.T.length
        · simp only [List.getElem_append_left hj2] at e
          simp at e
          exact absurd e.symm (hnt _ (List.getElem_mem hj2))
        · omega
    · intro y hy hf
      obtain ⟨i, hi, rfl⟩ := List.getElem_of_mem hy
      have hi2 : i < S.A.length := by rw [hlen] at hi; exact hi
      have ho := h.fl _ (List.getElem_mem hi2)
      have hd := hdeb i hi
      have hc := hcre i hi
      have hfl : (S.paid t)[i].flags = S.A[i].flags := by
        rw [Lg.paid_get hm i hi2]
        split
        · rfl
        · split <;> rfl
      rw [hfl] at hf
      have hk := at_iff h t.b i hi2
      by_cases e1 : t.b = S.A[i].id
      · rw [if_pos e1] at hd
        have ei := hk.1 e1.symm
        have hx := hm.flag
        simp only [← ei] at hx
        have : ¬ S.A[i].cre < S.A[i].deb + t.d := fun q => hx ⟨hf, q⟩
        rw [hd, hc]
        omega
      · rw [if_neg e1] at hd
        have := ho hf
        rw [hd, hc]
        omega
    · intro y hy
      rcases List.mem_append.1 hy with hy | hy
      · obtain ⟨e1, e2⟩ := h.et y hy
        refine ⟨?_, ?_⟩
        · show at_ Ac.id y.b (S.paid t) < (S.paid t).length
          rw [hfa, hlen]; exact e1
        · show at_ Ac.id y.c (S.paid t) < (S.paid t).length
          rw [hfa, hlen]; exact e2
      · rw [List.mem_singleton.1 hy]
        refine ⟨?_, ?_⟩
        · show at_ Ac.id t.b (S.paid t) < (S.paid t).length
          rw [hfa, hlen]; exact hm.hb
        · show at_ Ac.id t.c (S.paid t) < (S.paid t).length
          rw [hfa, hlen]; exact hm.hc
    · intro y hy
      obtain ⟨i, hi, rfl⟩ := List.getElem_of_mem hy
      have hi2 : i < S.A.length := by rw [hlen] at hi; exact hi
      rw [hdeb i hi, hid i hi, sumB_snoc, h.sb _ (List.getElem_mem hi2)]
    · intro y hy
      obtain ⟨i, hi, rfl⟩ := List.getElem_of_mem hy
      have hi2 : i < S.A.length := by rw [hlen] at hi; exact hi
      rw [hcre i hi, hid i hi, sumC_snoc, h.sc _ (List.getElem_mem hi2)]
  · exact h
theorem runL_good {α : Type} {f : Lg → α → Lg × List UInt8} {ok : α → Prop} (hf : ∀ S x, S.Good → ok x → (f S x).1.Good) {S : Lg} (hS : S.Good) : ∀ (l : List α), (∀ x ∈ l, ok x) → (runL f S l).1.Good := by
  intro l
  have key : ∀ (l : List α) (r : Lg × List UInt8), r.1.Good → (∀ x ∈ l, ok x) → (l.foldl (fun r x => ((f r.1 x).1, r.2 ++ (f r.1 x).2)) r).1.Good := by
    intro l
    induction l with
    | nil => intro r hr _; exact hr
    | cons x t ih => intro r hr hl; exact ih _ (hf _ _ hr (hl x (by simp))) (fun y hy => hl y (by simp [hy]))
  exact key l (S, [0]) hS
theorem Lg.doo_good {S : Lg} (h : S.Good) (op : Int) (s : List UInt8) : (S.doo op s).1.Good := by
  have key : ∀ {α : Type} (f : Lg → α → Lg × List UInt8) (ok : α → Prop) (r : List α × Bool), (∀ S x, S.Good → ok x → (f S x).1.Good) → (∀ x ∈ r.1, ok x) → (eachL f S r).1.Good := by
    intro α f ok r hf hr
    unfold eachL
    split
    · exact runL_good hf h r.1 hr
    · exact h
  unfold Lg.doo
  split
  · exact key mka (fun x => x.deb = 0 ∧ x.cre = 0) _ (fun S x hS hx => Lg.opn_good hS x hx.1 hx.2) (takL_all (fun p => ⟨rfl, rfl⟩))
  split
  · exact key mkt (fun _ => True) _ (fun S x hS _ => Lg.mov_good hS x) (fun _ _ => trivial)
  split
  · exact key tela (fun _ => True) _ (fun S x hS _ => hS) (fun _ _ => trivial)
  split
  · exact key telt (fun _ => True) _ (fun S x hS _ => hS) (fun _ _ => trivial)
  · exact h
/-! ### what is asked again -/
theorem mka_again {S : Lg} (h : S.Good) {i : Nat} (hi : i < S.A.length) : mka S (strip S.A[i]) = (S, [2]) := by
  have h1 : S.fa S.A[i].id < S.A.length := at_some Ac.id _ S.A S.A[i] (List.getElem_mem hi) rfl
  have hj : S.ja (strip S.A[i]) = 2 := by
    unfold Lg.ja
    rw [if_neg (show ¬ (strip S.A[i]).id = 0 from h.ia S.A[i] (List.getElem_mem hi)), if_pos (by exact h1)]
  unfold mka Lg.opn
  rw [hj]
  rfl
theorem mkt_again {S : Lg} (h : S.Good) {i : Nat} (hi : i < S.T.length) : mkt S S.T[i] = (S, [2]) := by
  have h1 : S.ft S.T[i].a < S.T.length := at_some Tr.a _ S.T S.T[i] (List.getElem_mem hi) rfl
  have hj : S.jt S.T[i] = 2 := by
    unfold Lg.jt
    rw [if_neg (by exact h.it _ (List.getElem_mem hi)), if_pos (by exact h1)]
  unfold mkt Lg.mov
  rw [hj]
  rfl
/-- a list of one, as it is laid and taken -/
theorem one_a (x : Ac) (hx : x.flat) : putL askB [x] = ((askB x).getD [], 0) ∧ takL 9 decA ((askB x).getD []) = ([strip x], true) ∧ ((askB x).getD []).length = 9 := by
  have e : askB x = some (le x.id 8 ++ [UInt8.ofNat x.flags.toNat]) := by unfold askB; rw [if_pos hx.2]
  have hl : ((askB x).getD []).length = 9 := by rw [e]; simp [le_len]
  refine ⟨?_, ?_, hl⟩
  · simp [putL, e]
  · have h := takL_flat 9 (by omega) decA (fun x => (askB x).getD []) [x] (by intro y hy; rw [List.mem_singleton.1 hy]; exact hl) (by simp) (by simp)
    rw [List.flatMap_cons, List.flatMap_nil, List.append_nil] at h
    rw [h]
    simp only [List.map_cons, List.map_nil]
    rw [decA_le x hx.1 hx.2]
theorem one_t (x : Tr) (hx : x.ok) : putL trB [x] = (trL x, 0) ∧ takL 32 decT (trL x) = ([x], true) := by
  refine ⟨by simp [putL, trB, trL], ?_⟩
  have h := takL_flat 32 (by omega) decT (fun x => (trB x).getD []) [x] (by intro y hy; exact trL_len y) (by simp) (by simp)
  rw [List.flatMap_cons, List.flatMap_nil, List.append_nil] at h
  show takL 32 decT ((trB x).getD []) = _
  rw [h]
  simp only [List.map_cons, List.map_nil]
  rw [decT_le x hx]
theorem runL_one {α : Type} (f : Lg → α → Lg × List UInt8) (S : Lg) (x : α) : runL f S [x] = ((f S x).1, 0 :: (f S x).2) := rfl
theorem doo_one_a (S : Lg) (x : Ac) (hx : x.flat) : S.doo 2 ((askB x).getD []) = ((mka S (strip x)).1, 0 :: (mka S (strip x)).2) := by
  unfold Lg.doo
  rw [if_pos rfl, (one_a x hx).2.1]
  rfl
theorem doo_one_t (S : Lg) (x : Tr) (hx : x.ok) : S.doo 3 (trL x) = ((mkt S x).1, 0 :: (mkt S x).2) := by
  unfold Lg.doo
  rw [if_neg (by decide), if_pos rfl, (one_t x hx).2]
  rfl
end Go.Proofs.Ytbofabmgfkploaa
