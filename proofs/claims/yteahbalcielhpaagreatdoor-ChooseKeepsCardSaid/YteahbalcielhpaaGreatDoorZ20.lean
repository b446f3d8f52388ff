/-
  The program's way to choose, in plain words: it comes to the chapter's choice.
-/
import Derived.Test.YteahbalcielhpaaGreatDoorZ10
namespace Go.Proofs.YteahbalcielhpaaGreatDoor
open Go.RowKit
set_option maxRecDepth 10000

/-- a log that may be -/
def LogR (m : Ms) : Prop := m.kind = 7 ∧ rightM m
/-! ### the stub -/
def stepT18 (n : Int) (r : Int × St) (m : Ms) : Int × St :=
  if (saysC m n).kind = 3 ∨ m.lv < r.1 then r else if r.1 < m.lv ∨ r.2 = st0 then (m.lv, (saysC m n).stub) else r
def stbP18 (l : List Ms) (n : Int) : Int × St := l.foldl (stepT18 n) (-1, st0)
def stbT18 (l : List Ms) (n : Int) : St := match toldC l n with | some t => (saysC t n).stub | none => st0
theorem says_right0 {m : Ms} (h : LogR m) (n : Int) : itemR (saysC m n) := by
  by_cases h0 : (saysC m n).kind = 0
  · unfold saysC
    split
    · rename_i hr
      have h8 := h.2.2.2.1.2.2.2 h.1
      have hlt : (n - 1 - m.check.opn).toNat < m.xs.length := by omega
      have e : m.xs.getD (n - 1 - m.check.opn).toNat it0 = m.xs[(n - 1 - m.check.opn).toNat] := by rw [List.getD_eq_getElem?_getD, List.getElem?_eq_getElem hlt]; rfl
      rw [e]
      exact h.2.2.2.2.2.1 _ (List.getElem_mem hlt)
    · exact itemR_it0
  · exact (says_right h.1 h.2 n h0).2.1
theorem stub_ne {x : It} (h : itemR x) (hk : x.kind = 1 ∨ x.kind = 2) : x.stub ≠ st0 := by
  unfold itemR at h
  rcases hk with hk | hk
  · rw [if_pos hk] at h
    intro e
    have h1 := h.2
    rw [e, stubC_rt h.1] at h1
    have := congrArg St.opn h1
    have h2 := h.1.1.1
    simp only [st0] at this
    omega
  · rw [if_neg (by omega), if_pos hk] at h
    intro e
    rw [e] at h
    exact absurd h.1 (by decide)
theorem stub_zero {x : It} (h : itemR x) (h1 : ¬ (x.kind = 1 ∨ x.kind = 2)) : x.stub = st0 := by
  unfold itemR at h
  rw [if_neg (fun e => h1 (.inl e)), if_neg (fun e => h1 (.inr e))] at h
  exact h.2.2
theorem top_snoc (l : List Ms) (m : Ms) (n : Int) : topC (l ++ [m]) n = if (saysC m n).kind ≠ 3 ∧ topC l n < m.lv then m.lv else topC l n := by
  unfold topC
  rw [List.foldl_append]
  rfl
theorem find_snoc {α : Type} (p : α → Bool) (l : List α) (x : α) : (l ++ [x]).find? p = (l.find? p).or (if p x = true then some x else none) := by
  rw [List.find?_append]
  congr 1
  rw [List.find?_cons]
  cases p x <;> rfl
theorem stub_step (n : Int) (p : List Ms) (m : Ms) (hp : ∀ x ∈ p, LogR x) (hm : LogR m) : stepT18 n (topC p n, stbT18 p n) m = (topC (p ++ [m]) n, stbT18 (p ++ [m]) n) := by
  have ht : toldC (p ++ [m]) n = (p.find? fun x => decide (x.lv = topC (p ++ [m]) n ∧ ((saysC x n).kind = 1 ∨ (saysC x n).kind = 2))).or (if m.lv = topC (p ++ [m]) n ∧ ((saysC m n).kind = 1 ∨ (saysC m n).kind = 2) then some m else none) := by
    unfold toldC
    rw [find_snoc]
    simp only [decide_eq_true_eq]
  have hr := says_right0 hm n
  unfold stepT18
  by_cases h1 : (saysC m n).kind = 3 ∨ m.lv < topC p n
  · rw [if_pos h1]
    have htop : topC (p ++ [m]) n = topC p n := by rw [top_snoc, if_neg (by rintro ⟨a, b⟩; rcases h1 with h | h; exact a h; omega)]
    rw [htop] at ht ⊢
    rw [if_neg (by rintro ⟨a, b⟩; rcases h1 with h | h <;> omega), Option.or_none] at ht
    unfold stbT18
    rw [ht]
    rfl
  · have h3 : (saysC m n).kind ≠ 3 := fun e => h1 (.inl e)
    have hge : topC p n ≤ m.lv := by have : ¬ m.lv < topC p n := fun e => h1 (.inr e); omega
    rw [if_neg h1]
    by_cases h2 : topC p n < m.lv
    · have htop : topC (p ++ [m]) n = m.lv := by rw [top_snoc, if_pos ⟨h3, h2⟩]
      rw [htop] at ht ⊢
      rw [if_pos (.inl h2)]
      have hnone : (p.find? fun x => decide (x.lv = m.lv ∧ ((saysC x n).kind = 1 ∨ (saysC x n).kind = 2))) = none := by
        rw [List.find?_eq_none]
        intro x hx
        simp only [decide_eq_true_eq]
        rintro ⟨a, b⟩
        have := top_ge hx (n := n) (by rcases b with b | b <;> omega)
        omega
      rw [hnone, Option.none_or] at ht
      unfold stbT18
      rw [ht]
      by_cases hk : (saysC m n).kind = 1 ∨ (saysC m n).kind = 2
      · rw [if_pos ⟨rfl, hk⟩]
      · rw [if_neg (fun e => hk e.2), stub_zero hr hk]
    · have heq : m.lv = topC p n := by omega
      have htop : topC (p ++ [m]) n = topC p n := by rw [top_snoc, if_neg (fun e => h2 e.2)]
      rw [htop] at ht ⊢
      change toldC (p ++ [m]) n = (toldC p n).or _ at ht
      cases hq : toldC p n with
      | some t =>
        have a1 := List.mem_of_find?_eq_some hq
        have a2 := List.find?_some hq
        simp only [decide_eq_true_eq] at a2
        have hne := stub_ne (says_right0 (hp t a1) n) a2.2
        have e1 : stbT18 p n = (saysC t n).stub := by unfold stbT18; rw [hq]
        have e2 : stbT18 (p ++ [m]) n = (saysC t n).stub := by unfold stbT18; rw [ht, hq]; rfl
        rw [e1, e2, if_neg (by rintro (h | h); exact h2 h; exact hne h)]
      | none =>
        have e1 : stbT18 p n = st0 := by unfold stbT18; rw [hq]
        rw [hq, Option.none_or] at ht
        rw [if_pos (.inr e1), heq]
        unfold stbT18
        rw [ht]
        by_cases hk : (saysC m n).kind = 1 ∨ (saysC m n).kind = 2
        · rw [if_pos ⟨heq, hk⟩]
        · rw [if_neg (fun e => hk e.2), stub_zero hr hk]
theorem stub_fold (n : Int) : ∀ (r p : List Ms), (∀ x ∈ p, LogR x) → (∀ x ∈ r, LogR x) → r.foldl (stepT18 n) (topC p n, stbT18 p n) = (topC (p ++ r) n, stbT18 (p ++ r) n)
  | [], p, _, _ => by rw [List.append_nil]; rfl
  | m :: r, p, hp, hr => by
    rw [List.foldl_cons, stub_step n p m hp (hr m (by simp))]
    have h := stub_fold n r (p ++ [m]) (fun x hx => by
      rcases List.mem_append.1 hx with h | h
      · exact hp x h
      · rw [List.mem_singleton.1 h]; exact hr m (by simp)) (fun x hx => hr x (by simp [hx]))
    rw [List.append_assoc] at h
    exact h
theorem stbP18_eq (n : Int) (l : List Ms) (h : ∀ x ∈ l, LogR x) : (stbP18 l n).2 = stbT18 l n := by
  have h1 := stub_fold n l [] (fun _ hx => by cases hx) h
  rw [List.nil_append] at h1
  unfold stbP18
  change List.foldl (stepT18 n) (-1, st0) l = _ at h1
  rw [h1]
/-! ### the entry -/
def hldP18 (l : List Ms) (n : Int) (s : St) : En := match heldC l n s with | some h => (saysC h n).entry | none => en0
theorem en0_fol (m : Mk) : ¬ Fol m en0 := fun h => absurd h.1.1.1 (by decide)
/-- the entries, so many at most -/
def goP18 (l : List Ms) : Nat → Mk → List En
  | 0, _ => []
  | k + 1, m => if Fol m (hldP18 l (m.opn + 1) (stbP18 l (m.opn + 1)).2) then hldP18 l (m.opn + 1) (stbP18 l (m.opn + 1)).2 :: goP18 l k (markE (hldP18 l (m.opn + 1) (stbP18 l (m.opn + 1)).2)) else []
theorem says_mem {m : Ms} (n : Int) : saysC m n ∈ m.xs ∨ saysC m n = it0 := by
  unfold saysC
  split
  · rw [List.getD_eq_getElem?_getD]
    cases h : m.xs[(n - 1 - m.check.opn).toNat]? with
    | none => exact .inr rfl
    | some x => exact .inl (List.mem_of_getElem? h)
  · exact .inr rfl
theorem goP18_eq {l : List Ms} (hl : ∀ m ∈ l, LogR m) (full : Bool) (hc : full = true ∨ ∀ m ∈ l, cleanC m) : ∀ (k : Nat) (m : Mk), goC l full k m = some (goP18 l k m)
  | 0, _ => rfl
  | k + 1, m => by
    unfold goC goP18
    rw [stbP18_eq _ l hl]
    have hl2 : ∀ x ∈ l, x.kind = 7 ∧ rightM x := hl
    cases ht : toldC l (m.opn + 1) with
    | none =>
      have e1 : stbT18 l (m.opn + 1) = st0 := by unfold stbT18; rw [ht]
      have e2 : heldC l (m.opn + 1) st0 = none := by
        cases hh : heldC l (m.opn + 1) st0 with
        | none => rfl
        | some x =>
          obtain ⟨a1, a2, a3, a4, a5⟩ := held_some hl2 hh
          exact absurd a3 (stub_ne (says_right0 (hl x a1) _) (.inl a2))
      have e3 : hldP18 l (m.opn + 1) st0 = en0 := by unfold hldP18; rw [e2]
      rw [e1, e3, if_neg (en0_fol m)]
    | some t =>
      have e1 : stbT18 l (m.opn + 1) = (saysC t (m.opn + 1)).stub := by unfold stbT18; rw [ht]
      have t1 := List.mem_of_find?_eq_some ht
      have t2 := List.find?_some ht
      simp only [decide_eq_true_eq] at t2
      rw [e1]
      show (if folS m (saysC t (m.opn + 1)).stub then _ else some []) = _
      cases hh : heldC l (m.opn + 1) (saysC t (m.opn + 1)).stub with
      | some h =>
        obtain ⟨a1, a2, a3, a4, a5⟩ := held_some hl2 hh
        have e3 : hldP18 l (m.opn + 1) (saysC t (m.opn + 1)).stub = (saysC h (m.opn + 1)).entry := by unfold hldP18; rw [hh]
        rw [e3]
        by_cases hf : folS m (saysC t (m.opn + 1)).stub
        · rw [if_pos hf, if_pos (fol_of a4 (by rw [a5]; exact hf))]
          show Option.map _ (goC l full k _) = _
          rw [goP18_eq hl full hc k _]
          rfl
        · rw [if_neg hf, if_neg (fun h2 => hf (by have := folS_of h2; rwa [a5] at this))]
      | none =>
        have e3 : hldP18 l (m.opn + 1) (saysC t (m.opn + 1)).stub = en0 := by unfold hldP18; rw [hh]
        rw [e3, if_neg (en0_fol m)]
        by_cases hf : folS m (saysC t (m.opn + 1)).stub
        · rw [if_pos hf]
          show (if full = true then some [] else none) = _
          rcases hc with hc | hc
          · rw [if_pos hc]
          · exfalso
            have hk : (saysC t (m.opn + 1)).kind = 1 := by
              rcases t2.2 with h | h
              · exact h
              · exfalso
                rcases says_mem (m := t) (m.opn + 1) with hx | hx
                · have := hc t t1 _ hx
                  omega
                · rw [hx] at h
                  exact absurd h (by decide)
            have := List.find?_eq_none.1 hh t t1
            simp only [decide_eq_true_eq] at this
            exact this ⟨hk, trivial⟩
        · rw [if_neg hf]
/-! ### the whole -/
def comP18 (c : Int) (l : List Ms) : Int := l.foldl (fun t m => max t m.commit) c
theorem comP18_eq : ∀ (l : List Ms) (a b : Int), comP18 (max a b) l = max a (l.foldl (fun c m => if c < m.commit then m.commit else c) b)
  | [], a, b => rfl
  | m :: l, a, b => by
    unfold comP18
    rw [List.foldl_cons, List.foldl_cons]
    have h := comP18_eq l a (if b < m.commit then m.commit else b)
    unfold comP18 at h
    rw [← h]
    congr 1
    split <;> omega
theorem comP18_com (c : Int) (l : List Ms) (h0 : 0 ≤ c) : comP18 c l = if comC l < c then c else comC l := by
  have h := comP18_eq l c 0
  rw [show max c 0 = c by omega] at h
  rw [h]
  show max c (comC l) = _
  split <;> omega
def decP18 (count : Int) (l : List Ms) : Bool := (l.length : Int) == count || (decide (enoughC count ≤ (l.length : Int)) && l.all fun m => decide (cleanC m))
def chsP18 (count : Int) (l : List Ms) : Ch :=
  if (count = 3 ∨ count = 5) ∧ decP18 count (logsC count l) = true then
    ⟨true, (farC (logsC count l)).check, comP18 (farC (logsC count l)).check.opn (logsC count l), goP18 (logsC count l) 8 (farC (logsC count l)).check⟩
  else ch0
theorem decP18_iff (count : Int) (l : List Ms) : decP18 count l = true ↔ decidedC count l := by
  unfold decP18 decidedC
  simp only [Bool.or_eq_true, beq_iff_eq, Bool.and_eq_true, decide_eq_true_eq, List.all_eq_true]
  constructor
  · rintro (h | ⟨h1, h2⟩)
    · exact .inl h
    · exact .inr ⟨h2, h1⟩
  · rintro (h | ⟨h1, h2⟩)
    · exact .inl h
    · exact .inr ⟨h2, h1⟩
theorem far_mem {l : List Ms} (h : l ≠ []) : farC l ∈ l := by
  have key : ∀ (r : List Ms) (a : Ms), (r.foldl (fun a m => if a.check.opn < m.check.opn then m else a) a) = a ∨ (r.foldl (fun a m => if a.check.opn < m.check.opn then m else a) a) ∈ r := by
    intro r
    induction r with
    | nil => intro a; exact .inl rfl
    | cons x r ih =>
      intro a
      rw [List.foldl_cons]
      rcases ih (if a.check.opn < x.check.opn then x else a) with e | e
      · rw [e]
        split
        · exact .inr (by simp)
        · exact .inl rfl
      · exact .inr (by simp [e])
  unfold farC
  obtain ⟨x, r, rfl⟩ := List.exists_cons_of_ne_nil h
  rcases key (x :: r) x with e | e
  · rw [show (x :: r).headD ms0 = x from rfl, e]; simp
  · exact e
theorem logsC_log {count : Int} {l : List Ms} : ∀ m ∈ logsC count l, LogR m := fun _ hm => (logs_ok hm).2
theorem choose_eq (count : Int) (l : List Ms) : chsP18 count l = chooseC count l := by
  unfold chsP18 chooseC
  by_cases h : (count = 3 ∨ count = 5) ∧ decidedC count (logsC count l)
  · rw [if_pos h, if_pos ⟨h.1, (decP18_iff _ _).2 h.2⟩]
    unfold chosenC
    have hne : logsC count l ≠ [] := by
      intro e
      have hd := h.2
      rw [e] at hd
      rcases hd with hd | hd
      · simp at hd; rcases h.1 with h1 | h1 <;> omega
      · have := hd.2
        unfold enoughC at this
        simp at this
        rcases h.1 with h1 | h1 <;> omega
    have hf := far_mem hne
    have h0 : 0 ≤ (farC (logsC count l)).check.opn := ((logsC_log _ hf).2.2.1 (farC (logsC count l)).check.opn (by simp [numsM])).1
    rw [comP18_com _ _ h0, goP18_eq logsC_log (decide (((logsC count l).length : Int) = count)) (by
      rcases h.2 with hd | hd
      · exact .inl (by simpa using hd)
      · exact .inr hd.1)]
  · rw [if_neg h, if_neg (fun e => h ⟨e.1, (decP18_iff _ _).1 e.2⟩)]
end Go.Proofs.YteahbalcielhpaaGreatDoor
/-
  The chapter's examples, in plain words.
-/
namespace Go.Proofs.YteahbalcielhpaaGreatDoor
open Go.RowKit
set_option maxRecDepth 10000

def base18 : En := ⟨1, 0, 0, 0, 7, 0, 0, 2, ⟨#[]⟩⟩
def ent1 : En := nextS9 mk0 base18
def ent2 : En := nextS9 (markE ent1) base18
theorem ent1_rt : Rt ent1 := by decide
theorem ent1_fits : ent1.fits := by
  unfold ent1 nextS9 base18 mk0 En.fits In64
  simp
theorem ent1_fol : Fol mk0 ent1 := ⟨ent1_rt, rfl, rfl, rfl⟩
theorem mark1 : (markE ent1).opn = 1 ∧ (markE ent1).view = 1 := by
  have hp : (packE ent1).2 = 0 := (packE_rt ent1_fits ent1_rt).1
  unfold markE
  rw [if_pos hp]
  exact ⟨rfl, rfl⟩
theorem ent2_eq : ent2 = ⟨1, 2, 1, (markE ent1).sum, 7, 0, 0, 2, ⟨#[]⟩⟩ := by
  unfold ent2 nextS9
  rw [mark1.1, mark1.2]
  rfl
theorem mark_sum (e : En) : (markE e).sum < 18446744073709551616 := markE_sum e
theorem ent2_rt : Rt ent2 := by
  rw [ent2_eq]
  refine ⟨⟨?_, ?_⟩, ⟨?_, ?_⟩, ⟨?_, ?_⟩, ⟨?_, ?_⟩, ⟨?_, ?_⟩, ⟨?_, ?_⟩, ⟨?_, ?_⟩, ?_, ?_⟩ <;> simp <;> decide
theorem ent2_fits : ent2.fits := by
  rw [ent2_eq]
  have := mark_sum ent1
  unfold En.fits In64
  simp
  exact this
theorem ent2_fol : Fol (markE ent1) ent2 := by
  refine ⟨ent2_rt, ?_⟩
  rw [ent2_eq]
  exact ⟨by rw [mark1.1]; rfl, mark1.2.symm, rfl⟩
theorem mark2 : (markE ent2).opn = 2 := by
  have hp : (packE ent2).2 = 0 := (packE_rt ent2_fits ent2_rt).1
  unfold markE
  rw [if_pos hp]
  show ent2.opn = 2
  rw [ent2_eq]
theorem go_next {l : List Ms} {full : Bool} {k : Nat} {m : Mk} {n : Int} {t h : Ms} {s : St} {e : En} (hn : m.opn + 1 = n) (ht : toldC l n = some t) (hs : (saysC t n).stub = s) (hf : folS m s) (hh : heldC l n s = some h) (he : (saysC h n).entry = e) :
    goC l full (k + 1) m = (goC l full k (markE e)).map fun r => e :: r := by
  subst hn hs he
  show (match toldC l (m.opn + 1) with | none => _ | some t => _) = _
  rw [ht]
  show (if _ then (match heldC l (m.opn + 1) (saysC t (m.opn + 1)).stub with | some h => _ | none => _) else _) = _
  rw [if_pos hf, hh]
theorem go_stop {l : List Ms} {full : Bool} {k : Nat} {m : Mk} {n : Int} (hn : m.opn + 1 = n) (ht : toldC l n = none) : goC l full (k + 1) m = some [] := by
  subst hn
  show (match toldC l (m.opn + 1) with | none => _ | some t => _) = _
  rw [ht]
theorem hold_kind (e : En) : (holdC e).kind = 1 := rfl
theorem hold_stub (e : En) : (holdC e).stub = stubS e := rfl
theorem it0_kind : it0.kind = 0 := rfl
def it3 : It := ⟨3, st0, en0⟩
theorem it3_kind : it3.kind = 3 := rfl
theorem ex_one {a b : Ms} {e f : En} (full : Bool) (la : a.lv = 1) (lb : b.lv = 2) (a1 : saysC a 1 = holdC e) (a2 : saysC a 2 = holdC f) (b1 : saysC b 1 = holdC e) (b2 : saysC b 2 = it0) (h1 : Fol mk0 e) (k1 : (markE e).opn = 1) :
    goC [a, b] full 8 mk0 = some [e] := by
  have t1 : toldC [a, b] 1 = some b := by simp [toldC, topC, a1, b1, la, lb, hold_kind]
  have t2 : toldC [a, b] 2 = none := by simp [toldC, topC, a2, b2, la, lb, hold_kind, it0_kind]
  have g1 : heldC [a, b] 1 (stubS e) = some a := by simp [heldC, a1, hold_kind, hold_stub]
  rw [go_next (n := 1) (s := stubS e) (e := e) rfl t1 (by rw [b1]; rfl) (folS_of h1) g1 (by rw [a1]; rfl), go_stop (n := 2) (by rw [k1]; rfl) t2]
  rfl
theorem ex_two {a b c : Ms} {e f : En} (full : Bool) (la : a.lv = 1) (lb : b.lv = 2) (lc : c.lv = 0) (a1 : saysC a 1 = holdC e) (a2 : saysC a 2 = holdC f) (a3 : saysC a 3 = it0) (b1 : saysC b 1 = holdC e) (b2 : saysC b 2 = it3) (b3 : saysC b 3 = it0)
    (c1 : saysC c 1 = it0) (c2 : saysC c 2 = it0) (c3 : saysC c 3 = it0) (h1 : Fol mk0 e) (h2 : Fol (markE e) f) (k1 : (markE e).opn = 1) (k2 : (markE f).opn = 2) :
    goC [a, b, c] full 8 mk0 = some [e, f] := by
  have t1 : toldC [a, b, c] 1 = some b := by simp [toldC, topC, a1, b1, c1, la, lb, lc, hold_kind, it0_kind]
  have t2 : toldC [a, b, c] 2 = some a := by simp [toldC, topC, a2, b2, c2, la, lb, lc, hold_kind, it0_kind, it3_kind]
  have t3 : toldC [a, b, c] 3 = none := by simp [toldC, topC, a3, b3, c3, la, lb, lc, it0_kind]
  have g1 : heldC [a, b, c] 1 (stubS e) = some a := by simp [heldC, a1, hold_kind, hold_stub]
  have g2 : heldC [a, b, c] 2 (stubS f) = some a := by simp [heldC, a2, hold_kind, hold_stub]
  rw [go_next (n := 1) (s := stubS e) (e := e) rfl t1 (by rw [b1]; rfl) (folS_of h1) g1 (by rw [a1]; rfl), go_next (n := 2) (s := stubS f) (e := f) (by rw [k1]; rfl) t2 (by rw [a2]; rfl) (folS_of h2) g2 (by rw [a2]; rfl), go_stop (n := 3) (by rw [k2]; rfl) t3]
  rfl
def logA : Ms := logL 1 1 [ent1, ent2]
def logB : Ms := logL 2 2 [ent1]
/-- the second one, unsure of 2 -/
def logU : Ms := { logL 2 2 [ent1] with xs := [holdC ent1, it3, it0, it0, it0, it0, it0, it0] }
def logZ : Ms := logL 3 0 []
theorem logA_right : rightM logA := logL_right ⟨by decide, by decide⟩ ⟨by decide, by decide⟩ (by decide) (by
  intro e he
  rcases List.mem_cons.1 he with rfl | he
  · exact ent1_rt
  · rw [List.mem_singleton.1 he]; exact ent2_rt)
theorem logB_right : rightM logB := logL_right ⟨by decide, by decide⟩ ⟨by decide, by decide⟩ (by decide) (by
  intro e he
  rw [List.mem_singleton.1 he]; exact ent1_rt)
theorem logZ_right : rightM logZ := logL_right ⟨by decide, by decide⟩ ⟨by decide, by decide⟩ (by decide) (fun e he => by cases he)
theorem logU_right : rightM logU := by
  obtain ⟨⟨a1, a2, a3, a4⟩, b, ⟨c1, c2, c3, c4⟩, d, -, f⟩ := logB_right
  refine ⟨⟨a1, a2, a3, ?_⟩, b, ⟨c1, c2, c3, fun _ => rfl⟩, d, ?_, f⟩
  · rfl
  · intro x hx
    have h3 : itemR it3 := by
      unfold itemR it3
      rw [if_neg (by decide), if_neg (by decide)]
      exact ⟨.inr rfl, rfl, rfl⟩
    have h1 : itemR (holdC ent1) := itemR_hold ent1_rt
    have h0 := itemR_it0
    simp only [logU, List.mem_cons, List.not_mem_nil, or_false] at hx
    rcases hx with rfl | rfl | rfl | rfl | rfl | rfl | rfl | rfl <;> assumption
theorem two_logs {a b : Ms} (ha : a.kind = 7 ∧ a.frm = 1 ∧ rightM a) (hb : b.kind = 7 ∧ b.frm = 2 ∧ rightM b) : logsC 3 [a, b] = [a, b] := by
  refine logs_id (.inl rfl) (by simp) (fun i hi => ?_)
  match i, hi with
  | 0, _ => exact ha
  | 1, _ => exact hb
theorem three_logs {a b c : Ms} (ha : a.kind = 7 ∧ a.frm = 1 ∧ rightM a) (hb : b.kind = 7 ∧ b.frm = 2 ∧ rightM b) (hc : c.kind = 7 ∧ c.frm = 3 ∧ rightM c) : logsC 3 [a, b, c] = [a, b, c] := by
  refine logs_id (.inl rfl) (by simp) (fun i hi => ?_)
  match i, hi with
  | 0, _ => exact ha
  | 1, _ => exact hb
  | 2, _ => exact hc
theorem awake_x : (chooseC 3 [logA, logB]).ready = true ∧ (chooseC 3 [logA, logB]).es.length = 1 := by
  have hl := two_logs (a := logA) (b := logB) ⟨rfl, rfl, logA_right⟩ ⟨rfl, rfl, logB_right⟩
  have hd : decidedC 3 [logA, logB] := .inr ⟨fun m hm => by
    rcases List.mem_cons.1 hm with rfl | hm
    · exact logL_clean _ _ _
    · rw [List.mem_singleton.1 hm]; exact logL_clean _ _ _, by decide⟩
  have hg := ex_one (a := logA) (b := logB) (e := ent1) (f := ent2) (decide (([logA, logB].length : Int) = 3)) rfl rfl (says_held 1 1 [ent1, ent2] 0 (by decide) (by decide)) (says_held 1 1 [ent1, ent2] 1 (by decide) (by decide)) (says_held 2 2 [ent1] 0 (by decide) (by decide)) (says_lacks 2 2 [ent1] 1 (by decide)) ent1_fol mark1.1
  have hf : (farC [logA, logB]).check = mk0 := rfl
  unfold chooseC
  rw [hl, if_pos ⟨.inl rfl, hd⟩]
  unfold chosenC
  rw [hf, hg]
  exact ⟨rfl, rfl⟩
theorem awake_y : (chooseC 3 [logA, logU]).ready = false := by
  have hl := two_logs (a := logA) (b := logU) ⟨rfl, rfl, logA_right⟩ ⟨rfl, rfl, logU_right⟩
  refine waits_C ?_ ?_
  · rw [hl]; decide
  · rw [hl]
    rintro ⟨h, -⟩
    have := h logU (by simp) it3 (by simp [logU])
    exact absurd this (by decide)
theorem awake_z : (chooseC 3 [logA, logU, logZ]).ready = true ∧ (chooseC 3 [logA, logU, logZ]).es.length = 2 := by
  have hl := three_logs (a := logA) (b := logU) (c := logZ) ⟨rfl, rfl, logA_right⟩ ⟨rfl, rfl, logU_right⟩ ⟨rfl, rfl, logZ_right⟩
  have hd : decidedC 3 [logA, logU, logZ] := .inl rfl
  have hg := ex_two (a := logA) (b := logU) (c := logZ) (e := ent1) (f := ent2) (decide (([logA, logU, logZ].length : Int) = 3)) rfl rfl rfl
    (says_held 1 1 [ent1, ent2] 0 (by decide) (by decide)) (says_held 1 1 [ent1, ent2] 1 (by decide) (by decide)) (says_lacks 1 1 [ent1, ent2] 2 (by decide))
    rfl rfl rfl (says_lacks 3 0 [] 0 (by decide)) (says_lacks 3 0 [] 1 (by decide)) (says_lacks 3 0 [] 2 (by decide)) ent1_fol ent2_fol mark1.1 mark2
  have hf : (farC [logA, logU, logZ]).check = mk0 := rfl
  unfold chooseC
  rw [hl, if_pos ⟨.inl rfl, hd⟩]
  unfold chosenC
  rw [hf, hg]
  exact ⟨rfl, rfl⟩
end Go.Proofs.YteahbalcielhpaaGreatDoor
