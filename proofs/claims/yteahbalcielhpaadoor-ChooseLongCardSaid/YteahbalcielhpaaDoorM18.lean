/-
  What may be, sign by sign.
-/
import Derived.Test.YteahbalcielhpaaDoorM10
namespace Go.Proofs.YteahbalcielhpaaDoor
open Go.RowKit
set_option maxRecDepth 10000

set_option maxHeartbeats 8000000 in
theorem right_signs (m : Ms) (hf : m.fits) : rightM m ↔ kindOk m ∧ ∀ c ∈ sgA, okS m c := by
  obtain ⟨kind, frm, view, lv, opn, commit, client, session, request, oper, index, size, check, sums, entry, es, xs, body⟩ := m
  by_cases hk : 1 ≤ kind ∧ kind ≤ 16
  · have hb0 : (⟨#[]⟩ : ByteArray).size = 0 := rfl
    have hm0 : mk0.opn = 0 ∧ mk0.view = 0 := ⟨rfl, rfl⟩
    clear hf
    rcases kind16 hk with rfl | rfl | rfl | rfl | rfl | rfl | rfl | rfl | rfl | rfl | rfl | rfl | rfl | rfl | rfl | rfl
    all_goals
      simp only [rightM, kindOk, sgA, List.mem_cons, List.not_mem_nil, or_false, forall_eq_or_imp, forall_eq, okS, sgK, mayS, emptyS, numS, numsM, keptM, ifI, kView, kLog, kOp, kCom, kCli, kOpr, kIdx, kSz, kChk, kEnt, kEs, kBod, Ms.mk.injEq, mayE, mayX]
      simp [Fi]
      constructor
      · intro h
        simp_all
        try omega
      · intro h
        simp_all
        try omega
  · constructor
    · intro h; exact absurd h.1.1 hk
    · intro h; exact absurd h.1.1 hk
end Go.Proofs.YteahbalcielhpaaDoor
/-
  The log with which a view begins, in plain words.
-/
namespace Go.Proofs.YteahbalcielhpaaDoor
open Go.RowKit
set_option maxRecDepth 10000

/-- a choice -/
structure Ch where
  ready : Bool
  check : Mk
  commit : Int
  es : List En
def ch0 : Ch := ⟨false, mk0, 0, []⟩
/-- a log of a replica's that may be -/
def logOk (who : Int) (m : Ms) : Prop := m.kind = 7 ∧ m.frm = who ∧ rightM m
instance (who : Int) (m : Ms) : Decidable (logOk who m) := by unfold logOk; infer_instance
/-- a replica's last log -/
def pickC (l : List Ms) (who : Int) : Option Ms := l.foldl (fun r m => if logOk who m then some m else r) none
def whoC (count : Int) : List Int := [1, 2, 3, 4, 5].filter fun w => decide (w ≤ count)
def logsC (count : Int) (l : List Ms) : List Ms := (whoC count).filterMap (pickC l)
/-- what a log says of an operation -/
def saysC (m : Ms) (n : Int) : It := if 0 ≤ n - 1 - m.check.opn ∧ n - 1 - m.check.opn < 8 then m.xs.getD (n - 1 - m.check.opn).toNat it0 else it0
def cleanC (m : Ms) : Prop := ∀ x ∈ m.xs, x.kind ≤ 1
instance (m : Ms) : Decidable (cleanC m) := by unfold cleanC; infer_instance
def topC (l : List Ms) (n : Int) : Int := l.foldl (fun t m => if (saysC m n).kind ≠ 3 ∧ t < m.lv then m.lv else t) (-1)
def toldC (l : List Ms) (n : Int) : Option Ms := l.find? fun m => decide (m.lv = topC l n ∧ ((saysC m n).kind = 1 ∨ (saysC m n).kind = 2))
def heldC (l : List Ms) (n : Int) (s : St) : Option Ms := l.find? fun m => decide ((saysC m n).kind = 1 ∧ (saysC m n).stub = s)
/-- does a stub follow a mark? -/
def folS (m : Mk) (s : St) : Prop := s.opn = m.opn + 1 ∧ s.under = m.view ∧ s.parent = m.sum
instance (m : Mk) (s : St) : Decidable (folS m s) := by unfold folS; infer_instance
/-- the entries, so many at most; none: nothing is decided -/
def goC (l : List Ms) (full : Bool) : Nat → Mk → Option (List En)
  | 0, _ => some []
  | k + 1, m =>
    match toldC l (m.opn + 1) with
    | none => some []
    | some t =>
      if folS m (saysC t (m.opn + 1)).stub then
        match heldC l (m.opn + 1) (saysC t (m.opn + 1)).stub with
        | some h => (goC l full k (markE (saysC h (m.opn + 1)).entry)).map fun r => (saysC h (m.opn + 1)).entry :: r
        | none => if full then some [] else none
      else some []
/-- the log with the greatest checkpoint -/
def farC (l : List Ms) : Ms := l.foldl (fun a m => if a.check.opn < m.check.opn then m else a) (l.headD ms0)
def comC (l : List Ms) : Int := l.foldl (fun c m => if c < m.commit then m.commit else c) 0
def enoughC (count : Int) : Int := count / 2 + 1
def decidedC (count : Int) (l : List Ms) : Prop := (l.length : Int) = count ∨ (∀ m ∈ l, cleanC m) ∧ enoughC count ≤ (l.length : Int)
instance (count : Int) (l : List Ms) : Decidable (decidedC count l) := by unfold decidedC; infer_instance
def chosenC (count : Int) (l : List Ms) : Ch :=
  match goC l (decide ((l.length : Int) = count)) 8 (farC l).check with
  | none => ch0
  | some es => ⟨true, (farC l).check, if comC l < (farC l).check.opn then (farC l).check.opn else comC l, es⟩
def chooseC (count : Int) (l : List Ms) : Ch := if (count = 3 ∨ count = 5) ∧ decidedC count (logsC count l) then chosenC count (logsC count l) else ch0
/-! ### what is chosen -/
theorem choose_cases (count : Int) (l : List Ms) : chooseC count l = ch0 ∨ ((count = 3 ∨ count = 5) ∧ decidedC count (logsC count l) ∧ ∃ es, goC (logsC count l) (decide (((logsC count l).length : Int) = count)) 8 (farC (logsC count l)).check = some es ∧
    chooseC count l = ⟨true, (farC (logsC count l)).check, if comC (logsC count l) < (farC (logsC count l)).check.opn then (farC (logsC count l)).check.opn else comC (logsC count l), es⟩) := by
  unfold chooseC
  by_cases h : (count = 3 ∨ count = 5) ∧ decidedC count (logsC count l)
  · rw [if_pos h]
    unfold chosenC
    cases hg : goC (logsC count l) (decide (((logsC count l).length : Int) = count)) 8 (farC (logsC count l)).check with
    | none => exact .inl rfl
    | some es => exact .inr ⟨h.1, h.2, es, rfl, rfl⟩
  · rw [if_neg h]
    exact .inl rfl
/-- where something is amiss, all are waited for -/
theorem waits_C {count : Int} {l : List Ms} (h1 : ((logsC count l).length : Int) ≠ count) (h2 : ¬ ((∀ m ∈ logsC count l, cleanC m) ∧ count < 2 * ((logsC count l).length : Int))) : (chooseC count l).ready = false := by
  rcases choose_cases count l with e | ⟨hc, hd, es, _, e⟩
  · rw [e]; rfl
  · rcases hd with hd | ⟨hd, he⟩
    · exact absurd hd h1
    · exfalso
      refine h2 ⟨hd, ?_⟩
      unfold enoughC at he
      omega
/-! ### the logs that count -/
theorem pick_step (who : Int) : ∀ (l : List Ms) (r : Option Ms) (m : Ms), l.foldl (fun r m => if logOk who m then some m else r) r = some m → (m ∈ l ∧ logOk who m) ∨ r = some m
  | [], r, m, h => .inr h
  | x :: l, r, m, h => by
    rcases pick_step who l _ m h with ⟨h1, h2⟩ | h1
    · exact .inl ⟨List.mem_cons_of_mem _ h1, h2⟩
    · change (if logOk who x then some x else r) = some m at h1
      by_cases hx : logOk who x
      · rw [if_pos hx] at h1
        cases h1
        exact .inl ⟨List.mem_cons_self .., hx⟩
      · rw [if_neg hx] at h1
        exact .inr h1
theorem pick_ok {l : List Ms} {who : Int} {m : Ms} (h : pickC l who = some m) : m ∈ l ∧ logOk who m := by
  rcases pick_step who l none m h with h1 | h1
  · exact h1
  · cases h1
theorem logs_ok {count : Int} {l : List Ms} {m : Ms} (h : m ∈ logsC count l) : m ∈ l ∧ m.kind = 7 ∧ rightM m := by
  unfold logsC at h
  obtain ⟨w, -, hw⟩ := List.mem_filterMap.1 h
  obtain ⟨h1, h2⟩ := pick_ok hw
  exact ⟨h1, h2.1, h2.2.2⟩
theorem says_right {m : Ms} (hk : m.kind = 7) (hr : rightM m) (n : Int) (hx : (saysC m n).kind ≠ 0) : saysC m n ∈ m.xs ∧ itemR (saysC m n) ∧ 0 ≤ n - 1 - m.check.opn := by
  unfold saysC at hx ⊢
  have h8 := hr.2.2.1.2.2.2 hk
  split
  · rename_i h
    have hlt : (n - 1 - m.check.opn).toNat < m.xs.length := by omega
    have e : m.xs.getD (n - 1 - m.check.opn).toNat it0 = m.xs[(n - 1 - m.check.opn).toNat] := by rw [List.getD_eq_getElem?_getD, List.getElem?_eq_getElem hlt]; rfl
    rw [e]
    exact ⟨List.getElem_mem hlt, hr.2.2.2.2.1 _ (List.getElem_mem hlt), h.1⟩
  · rename_i h
    rw [if_neg h] at hx
    exact absurd rfl hx
theorem held_entry {m : Ms} (hk : m.kind = 7) (hr : rightM m) (n : Int) (h1 : (saysC m n).kind = 1) : Rt (saysC m n).entry ∧ stubS (saysC m n).entry = (saysC m n).stub := by
  have h := (says_right hk hr n (by omega)).2.1
  unfold itemR at h
  rw [if_pos h1] at h
  exact h
/-! ### what is chosen follows, and is held -/
def ChainC (l : List Ms) : Mk → List En → Prop
  | _, [] => True
  | m, e :: r => Fol m e ∧ (∃ x ∈ l, (saysC x e.opn).kind = 1 ∧ (saysC x e.opn).entry = e) ∧ ChainC l (markE e) r
theorem stubC_rt {e : En} (h : Rt e) : stubS e = ⟨e.opn, e.view, e.under, e.parent, (markE e).sum⟩ := if_pos h
theorem fol_of {m : Mk} {e : En} (hr : Rt e) (h : folS m (stubS e)) : Fol m e := by
  rw [stubC_rt hr] at h
  obtain ⟨h1, h2, h3⟩ := h
  simp only at h1 h2 h3
  exact ⟨hr, by omega, h2, h3⟩
theorem folS_of {m : Mk} {e : En} (h : Fol m e) : folS m (stubS e) := by
  rw [stubC_rt h.1]
  exact ⟨by have := h.2.1; show e.opn = m.opn + 1; omega, h.2.2.1, h.2.2.2⟩
theorem held_some {l : List Ms} (hl : ∀ m ∈ l, m.kind = 7 ∧ rightM m) {n : Int} {s : St} {h : Ms} (e : heldC l n s = some h) : h ∈ l ∧ (saysC h n).kind = 1 ∧ (saysC h n).stub = s ∧ Rt (saysC h n).entry ∧ stubS (saysC h n).entry = s := by
  have h1 := List.mem_of_find?_eq_some e
  have h2 := List.find?_some e
  simp only [decide_eq_true_eq] at h2
  obtain ⟨h3, h4⟩ := held_entry (hl h h1).1 (hl h h1).2 n h2.1
  exact ⟨h1, h2.1, h2.2, h3, h4.trans h2.2⟩
theorem go_chain {l : List Ms} (hl : ∀ m ∈ l, m.kind = 7 ∧ rightM m) (full : Bool) : ∀ (k : Nat) (m : Mk) (es : List En), goC l full k m = some es → es.length ≤ k ∧ ChainC l m es
  | 0, m, es, h => by cases h; exact ⟨Nat.le_refl _, trivial⟩
  | k + 1, m, es, h => by
    unfold goC at h
    split at h
    · cases h; exact ⟨Nat.zero_le _, trivial⟩
    · rename_i t ht
      split at h
      · rename_i hf
        split at h
        · rename_i y hy
          obtain ⟨a1, a2, a3, a4, a5⟩ := held_some hl hy
          obtain ⟨r, hr, rfl⟩ := Option.map_eq_some_iff.1 h
          obtain ⟨b1, b2⟩ := go_chain hl full k _ r hr
          have hfol : Fol m (saysC y (m.opn + 1)).entry := fol_of a4 (by rw [a5]; exact hf)
          have hop : (saysC y (m.opn + 1)).entry.opn = m.opn + 1 := by have := hfol.2.1; omega
          refine ⟨by simp; omega, hfol, ⟨y, a1, ?_, ?_⟩, b2⟩
          · rw [hop]; exact a2
          · rw [hop]
        · split at h
          · cases h; exact ⟨Nat.zero_le _, trivial⟩
          · cases h
      · cases h; exact ⟨Nat.zero_le _, trivial⟩
/-! ### what was decided once stays -/
/-- the first entry that a log of a view of v or more holds -/
def firstC (l : List Ms) (n v : Int) : En := match l.find? (fun m => decide (v ≤ m.lv ∧ (saysC m n).kind = 1)) with | some m => (saysC m n).entry | none => en0
def sureC (l : List Ms) (n v : Int) : Prop :=
  (∀ m ∈ l, (m.lv < v ∨ (saysC m n).kind = 3) ∨ ((saysC m n).kind ≠ 0 ∧ (saysC m n).stub = stubS (firstC l n v))) ∧ (firstC l n v).opn = n
instance (l : List Ms) (n v : Int) : Decidable (sureC l n v) := by unfold sureC; infer_instance
theorem top_step (n : Int) : ∀ (l : List Ms) (t : Int), t ≤ l.foldl (fun t m => if (saysC m n).kind ≠ 3 ∧ t < m.lv then m.lv else t) t ∧
    (∀ m ∈ l, (saysC m n).kind ≠ 3 → m.lv ≤ l.foldl (fun t m => if (saysC m n).kind ≠ 3 ∧ t < m.lv then m.lv else t) t) ∧
    (l.foldl (fun t m => if (saysC m n).kind ≠ 3 ∧ t < m.lv then m.lv else t) t = t ∨ ∃ m ∈ l, (saysC m n).kind ≠ 3 ∧ m.lv = l.foldl (fun t m => if (saysC m n).kind ≠ 3 ∧ t < m.lv then m.lv else t) t)
  | [], t => ⟨Int.le_refl _, by simp, .inl rfl⟩
  | x :: l, t => by
    obtain ⟨h1, h2, h3⟩ := top_step n l (if (saysC x n).kind ≠ 3 ∧ t < x.lv then x.lv else t)
    rw [List.foldl_cons]
    refine ⟨?_, ?_, ?_⟩
    · refine Int.le_trans ?_ h1
      split <;> omega
    · intro m hm hk
      rcases List.mem_cons.1 hm with rfl | hm
      · refine Int.le_trans ?_ h1
        split
        · exact Int.le_refl _
        · rename_i hn
          have : ¬ t < m.lv := fun hlt => hn ⟨hk, hlt⟩
          omega
      · exact h2 m hm hk
    · rcases h3 with h3 | ⟨m, hm, hk, e⟩
      · by_cases hc : (saysC x n).kind ≠ 3 ∧ t < x.lv
        · rw [if_pos hc] at h3 ⊢
          exact .inr ⟨x, List.mem_cons_self .., hc.1, h3.symm⟩
        · rw [if_neg hc] at h3 ⊢
          exact .inl h3
      · exact .inr ⟨m, List.mem_cons_of_mem _ hm, hk, e⟩
theorem top_ge {l : List Ms} {n : Int} {m : Ms} (hm : m ∈ l) (hk : (saysC m n).kind ≠ 3) : m.lv ≤ topC l n := (top_step n l (-1)).2.1 m hm hk
theorem top_at {l : List Ms} {n : Int} (h : 0 ≤ topC l n) : ∃ m ∈ l, (saysC m n).kind ≠ 3 ∧ m.lv = topC l n := by
  rcases (top_step n l (-1)).2.2 with h1 | h1
  · unfold topC at h; omega
  · exact h1
/-! ### the order counts for nothing -/
theorem pick_some {l : List Ms} {who : Int} {m : Ms} (hm : m ∈ l) (h : logOk who m) : ∃ y, pickC l who = some y := by
  have key : ∀ (l : List Ms) (r : Option Ms), (r.isSome = true ∨ ∃ m ∈ l, logOk who m) → (l.foldl (fun r m => if logOk who m then some m else r) r).isSome = true := by
    intro l
    induction l with
    | nil => intro r hr; rcases hr with hr | ⟨_, h, _⟩; · exact hr
             · cases h
    | cons x l ih =>
      intro r hr
      rw [List.foldl_cons]
      refine ih _ ?_
      by_cases hx : logOk who x
      · rw [if_pos hx]; exact .inl rfl
      · rw [if_neg hx]
        rcases hr with hr | ⟨m, hm, h⟩
        · exact .inl hr
        · rcases List.mem_cons.1 hm with rfl | hm
          · exact absurd h hx
          · exact .inr ⟨m, hm, h⟩
  exact Option.isSome_iff_exists.1 (key l none (.inr ⟨m, hm, h⟩))
theorem pick_iff {l : List Ms} (hd : ∀ a ∈ l, ∀ b ∈ l, a.frm = b.frm → a = b) {who : Int} {m : Ms} : pickC l who = some m ↔ m ∈ l ∧ logOk who m := by
  constructor
  · exact pick_ok
  · rintro ⟨h1, h2⟩
    obtain ⟨y, hy⟩ := pick_some h1 h2
    obtain ⟨h3, h4⟩ := pick_ok hy
    rw [hy, hd y h3 m h1 (by rw [h4.2.1, h2.2.1])]
theorem logs_same {l k : List Ms} (hd : ∀ a ∈ l, ∀ b ∈ l, a.frm = b.frm → a = b) (hm : ∀ m, m ∈ l ↔ m ∈ k) (count : Int) : logsC count l = logsC count k := by
  have hd2 : ∀ a ∈ k, ∀ b ∈ k, a.frm = b.frm → a = b := fun a ha b hb e => hd a ((hm a).2 ha) b ((hm b).2 hb) e
  unfold logsC
  congr 1
  funext w
  apply Option.ext
  intro m
  rw [pick_iff hd, pick_iff hd2, hm]
theorem choose_same {l k : List Ms} (hd : ∀ a ∈ l, ∀ b ∈ l, a.frm = b.frm → a = b) (hm : ∀ m, m ∈ l ↔ m ∈ k) (count : Int) : chooseC count l = chooseC count k := by
  unfold chooseC
  rw [logs_same hd hm]
/-! ### of clean logs of one view that are beginnings of one log the longest is chosen -/
def holdC (e : En) : It := ⟨1, stubS e, e⟩
def logL (who view : Int) (es : List En) : Ms := ⟨7, who, 9, view, 0, 0, 0, 0, 0, 0, 0, 0, mk0, z6, en0, [], es.map holdC ++ List.replicate (8 - es.length) it0, ⟨#[]⟩⟩
def LinkC : Mk → List En → Prop
  | _, [] => True
  | m, e :: r => Fol m e ∧ LinkC (markE e) r
theorem says_logL (who view : Int) (es : List En) (n : Nat) : saysC (logL who view es) ((n : Int) + 1) = if n < 8 then (es.map holdC ++ List.replicate (8 - es.length) it0).getD n it0 else it0 := by
  unfold saysC
  show (if 0 ≤ (n : Int) + 1 - 1 - 0 ∧ (n : Int) + 1 - 1 - 0 < 8 then (es.map holdC ++ List.replicate (8 - es.length) it0).getD ((n : Int) + 1 - 1 - 0).toNat it0 else it0) = _
  by_cases h : n < 8
  · rw [if_pos (by omega), if_pos h]
    congr 1
    omega
  · rw [if_neg (by omega), if_neg h]
theorem says_held (who view : Int) (es : List En) (n : Nat) (h8 : es.length ≤ 8) (h : n < es.length) : saysC (logL who view es) ((n : Int) + 1) = holdC es[n] := by
  rw [says_logL, if_pos (by omega), List.getD_eq_getElem?_getD, List.getElem?_append_left (by simpa using h)]
  simp [h]
theorem says_lacks (who view : Int) (es : List En) (n : Nat) (h : es.length ≤ n) : saysC (logL who view es) ((n : Int) + 1) = it0 := by
  rw [says_logL]
  split
  · rw [List.getD_eq_getElem?_getD, List.getElem?_append_right (by simpa using h)]
    simp only [List.length_map, List.getElem?_replicate]
    split <;> rfl
  · rfl
/-- logs of one view, beginnings of one log -/
def BegC (view : Int) (ch : List En) (l : List Ms) : Prop := ∀ m ∈ l, ∃ who n, n ≤ ch.length ∧ m = logL who view (ch.take n)
theorem beg_says {view : Int} {ch : List En} {l : List Ms} (hb : BegC view ch l) (h8 : ch.length ≤ 8) {m : Ms} (hm : m ∈ l) (j : Nat) :
    m.lv = view ∧ ((∃ h : j < ch.length, saysC m ((j : Int) + 1) = holdC ch[j]) ∨ saysC m ((j : Int) + 1) = it0) := by
  obtain ⟨who, n, hn, rfl⟩ := hb m hm
  refine ⟨rfl, ?_⟩
  by_cases h : j < n
  · have hl : j < (ch.take n).length := by rw [List.length_take]; omega
    refine .inl ⟨by omega, ?_⟩
    rw [says_held who view (ch.take n) j (by rw [List.length_take]; omega) hl, List.getElem_take]
  · exact .inr (says_lacks who view (ch.take n) j (by rw [List.length_take]; omega))
theorem beg_top {view : Int} {ch : List En} {l : List Ms} (hb : BegC view ch l) (h8 : ch.length ≤ 8) (h0 : 0 ≤ view) (hne : l ≠ []) (j : Nat) : topC l ((j : Int) + 1) = view := by
  have hk : ∀ m ∈ l, (saysC m ((j : Int) + 1)).kind ≠ 3 := fun m hm => by
    rcases (beg_says hb h8 hm j).2 with ⟨h, e⟩ | e <;> rw [e]
    · show (1 : Int) ≠ 3; omega
    · show (0 : Int) ≠ 3; omega
  obtain ⟨m, hm⟩ := List.exists_mem_of_ne_nil l hne
  have h1 := top_ge hm (hk m hm)
  rw [(beg_says hb h8 hm j).1] at h1
  obtain ⟨x, hx, _, e⟩ := top_at (l := l) (n := (j : Int) + 1) (by omega)
  rw [← e]
  exact (beg_says hb h8 hx j).1
theorem go_long {view : Int} {ch : List En} {l : List Ms} (hb : BegC view ch l) (h8 : ch.length ≤ 8) (hft : ∀ e ∈ ch, e.fits) (h0 : 0 ≤ view) (hne : l ≠ []) (full : Bool) {top : Nat} (htop : top ≤ ch.length)
    (hh : ∀ j (h : j < ch.length), j < top ↔ ∃ m ∈ l, saysC m ((j : Int) + 1) = holdC ch[j]) : ∀ (d j : Nat) (m : Mk), d = top - j → j ≤ top → m.opn = (j : Int) → LinkC m (ch.drop j) → goC l full (8 - j) m = some ((ch.take top).drop j)
  | 0, j, m, hd, hj, hm, hlk => by
    have hjt : j = top := by omega
    subst hjt
    have e1 : (ch.take j).drop j = [] := List.drop_of_length_le (by rw [List.length_take]; omega)
    rw [e1]
    by_cases h9 : j = 8
    · subst h9; rfl
    · obtain ⟨f, hf⟩ : ∃ f, 8 - j = f + 1 := ⟨7 - j, by omega⟩
      rw [hf]
      unfold goC
      have hno : toldC l (m.opn + 1) = none := by
        unfold toldC
        rw [List.find?_eq_none]
        intro x hx
        rw [hm]
        simp only [decide_eq_true_eq]
        rintro ⟨-, hk⟩
        rcases (beg_says hb h8 hx j).2 with ⟨h, e⟩ | e
        · exact absurd ((hh j h).2 ⟨x, hx, e⟩) (by omega)
        · rw [e] at hk
          rcases hk with hk | hk <;> exact absurd hk (by show (0 : Int) ≠ _; omega)
      rw [hno]
  | d + 1, j, m, hd, hj, hm, hlk => by
    have hjt : j < top := by omega
    have hjc : j < ch.length := by omega
    obtain ⟨f, hf⟩ : ∃ f, 8 - j = f + 1 := ⟨7 - j, by omega⟩
    have hf2 : f = 8 - (j + 1) := by omega
    rw [← List.getElem_cons_drop hjc] at hlk
    obtain ⟨hfol, hlk2⟩ := hlk
    obtain ⟨x, hx, hxe⟩ := (hh j hjc).1 hjt
    have htl : ∃ t, toldC l (m.opn + 1) = some t ∧ (saysC t (m.opn + 1)).stub = stubS ch[j] := by
      rw [hm]
      cases ht : toldC l ((j : Int) + 1) with
      | none =>
        have := List.find?_eq_none.1 ht x hx
        simp only [decide_eq_true_eq] at this
        refine absurd ⟨?_, .inl ?_⟩ this
        · rw [(beg_says hb h8 hx j).1, beg_top hb h8 h0 hne j]
        · rw [hxe]; rfl
      | some t =>
        have a1 := List.mem_of_find?_eq_some ht
        have a2 := List.find?_some ht
        simp only [decide_eq_true_eq] at a2
        refine ⟨t, rfl, ?_⟩
        rcases (beg_says hb h8 a1 j).2 with ⟨h, e⟩ | e
        · rw [e]; rfl
        · rw [e] at a2
          rcases a2.2 with hk | hk <;> exact absurd hk (by show (0 : Int) ≠ _; omega)
    obtain ⟨t, ht, hts⟩ := htl
    have hhd : ∃ y, heldC l (m.opn + 1) (stubS ch[j]) = some y ∧ (saysC y (m.opn + 1)).entry = ch[j] := by
      rw [hm]
      cases hy : heldC l ((j : Int) + 1) (stubS ch[j]) with
      | none =>
        have := List.find?_eq_none.1 hy x hx
        simp only [decide_eq_true_eq] at this
        refine absurd ⟨?_, ?_⟩ this
        · rw [hxe]; rfl
        · rw [hxe]; rfl
      | some y =>
        have a1 := List.mem_of_find?_eq_some hy
        have a2 := List.find?_some hy
        simp only [decide_eq_true_eq] at a2
        refine ⟨y, rfl, ?_⟩
        rcases (beg_says hb h8 a1 j).2 with ⟨h, e⟩ | e
        · rw [e]; rfl
        · rw [e] at a2
          exact absurd a2.1 (by show (0 : Int) ≠ _; omega)
    obtain ⟨y, hy, hye⟩ := hhd
    rw [hf]
    unfold goC
    rw [ht]
    simp only
    rw [hts, if_pos (folS_of hfol), hy]
    simp only
    rw [hye, hf2]
    have hmk : (markE ch[j]).opn = ((j + 1 : Nat) : Int) := by
      have h1 := hfol.2.1
      have hp : (packE ch[j]).2 = 0 := (packE_rt (hft _ (List.getElem_mem hjc)) hfol.1).1
      unfold markE
      rw [if_pos hp]
      show ch[j].opn = _
      omega
    rw [go_long hb h8 hft h0 hne full htop hh d (j + 1) (markE ch[j]) (by omega) (by omega) hmk hlk2]
    rw [Option.map_some]
    congr 1
    have hjl : j < (ch.take top).length := by rw [List.length_take]; omega
    rw [← List.getElem_cons_drop hjl, List.getElem_take]
end Go.Proofs.YteahbalcielhpaaDoor
/-
  Of clean logs of one view, behind one checkpoint, the longest is chosen: the whole choice, in plain words.
-/
namespace Go.Proofs.YteahbalcielhpaaDoor
open Go.RowKit
set_option maxRecDepth 10000

theorem itemR_hold {e : En} (h : Rt e) : itemR (holdC e) := by
  unfold itemR holdC
  rw [if_pos rfl]
  exact ⟨h, rfl⟩
theorem itemR_it0 : itemR it0 := by
  unfold itemR it0
  rw [if_neg (by decide), if_neg (by decide)]
  exact ⟨.inl rfl, rfl, rfl⟩
theorem logL_right {who view : Int} {es : List En} (hw : 0 ≤ who ∧ who ≤ 255) (hv : Fi view) (h8 : es.length ≤ 8) (he : ∀ e ∈ es, Rt e) : rightM (logL who view es) := by
  refine ⟨⟨⟨by show (1 : Int) ≤ 7; omega, by show (7 : Int) ≤ 16; omega⟩, hw, ⟨Int.le_refl _, by show (0 : Int) ≤ 255; omega⟩, ?_⟩, ?_, ⟨by show (0 : Nat) ≤ 320; omega, fun _ => by show (0 : Nat) ≤ 200; omega, by show (0 : Nat) ≤ 8; omega, fun _ => ?_⟩, (by intro e h; cases h), ?_, ?_⟩
  · unfold logL keptM
    simp [ifI, kView, kLog, kOp, kCom, kCli, kOpr, kIdx, kSz, kChk, kEnt, kEs, kBod]
  · have h0 : Fi 0 := ⟨Int.le_refl _, by omega⟩
    have h9 : Fi 9 := ⟨by omega, by omega⟩
    intro n hn
    simp only [numsM, logL, mk0, List.mem_cons, List.not_mem_nil, or_false] at hn
    rcases hn with rfl | rfl | rfl | rfl | rfl | rfl | rfl | rfl | rfl | rfl | rfl <;> assumption
  · show (es.map holdC ++ List.replicate (8 - es.length) it0).length = 8
    simp
    omega
  · intro x hx
    rcases List.mem_append.1 hx with hx | hx
    · obtain ⟨e, hm, rfl⟩ := List.mem_map.1 hx
      exact itemR_hold (he e hm)
    · rw [(List.mem_replicate.1 hx).2]
      exact itemR_it0
  · intro hk
    rcases hk with hk | hk
    · exact absurd hk (by show (7 : Int) ≠ 2; omega)
    · exact absurd hk (by show (7 : Int) ≠ 11; omega)
theorem logL_clean (who view : Int) (es : List En) : cleanC (logL who view es) := by
  intro x hx
  rcases List.mem_append.1 hx with hx | hx
  · obtain ⟨e, _, rfl⟩ := List.mem_map.1 hx
    exact Int.le_refl _
  · rw [(List.mem_replicate.1 hx).2]
    show (0 : Int) ≤ 1
    omega
/-- logs of the replicas from 1 on, each once -/
theorem logs_id {count : Int} (hc : count = 3 ∨ count = 5) {l : List Ms} (hl : (l.length : Int) ≤ count) (h : ∀ i (hi : i < l.length), l[i].kind = 7 ∧ l[i].frm = (i : Int) + 1 ∧ rightM l[i]) : logsC count l = l := by
  have key : ∀ (w : Nat), pickC l ((w : Int) + 1) = l[w]? := by
    intro w
    have hd : ∀ a ∈ l, ∀ b ∈ l, a.frm = b.frm → a = b := by
      intro a ha b hb e
      obtain ⟨i, hi, rfl⟩ := List.getElem_of_mem ha
      obtain ⟨j, hj, rfl⟩ := List.getElem_of_mem hb
      have e1 := (h i hi).2.1
      have e2 := (h j hj).2.1
      have : i = j := by omega
      subst this
      rfl
    apply Option.ext
    intro m
    rw [pick_iff hd, List.getElem?_eq_some_iff]
    constructor
    · rintro ⟨hm, hk⟩
      obtain ⟨i, hi, rfl⟩ := List.getElem_of_mem hm
      have e1 := (h i hi).2.1
      have e2 := hk.2.1
      have : i = w := by omega
      subst this
      exact ⟨hi, rfl⟩
    · rintro ⟨hw, rfl⟩
      exact ⟨List.getElem_mem hw, (h w hw).1, (h w hw).2.1, (h w hw).2.2⟩
  have k1 : pickC l 1 = l[0]? := key 0
  have k2 : pickC l 2 = l[1]? := key 1
  have k3 : pickC l 3 = l[2]? := key 2
  have k4 : pickC l 4 = l[3]? := key 3
  have k5 : pickC l 5 = l[4]? := key 4
  unfold logsC
  rcases hc with rfl | rfl
  · have hw : whoC 3 = [1, 2, 3] := by decide
    rw [hw]
    match l, hl with
    | [], _ => rfl
    | [a], _ => simp [k1, k2, k3]
    | [a, b], _ => simp [k1, k2, k3]
    | [a, b, c], _ => simp [k1, k2, k3]
    | a :: b :: c :: d :: r, hl => simp at hl; omega
  · have hw : whoC 5 = [1, 2, 3, 4, 5] := by decide
    rw [hw]
    match l, hl with
    | [], _ => rfl
    | [a], _ => simp [k1, k2, k3, k4, k5]
    | [a, b], _ => simp [k1, k2, k3, k4, k5]
    | [a, b, c], _ => simp [k1, k2, k3, k4, k5]
    | [a, b, c, d], _ => simp [k1, k2, k3, k4, k5]
    | [a, b, c, d, e], _ => simp [k1, k2, k3, k4, k5]
    | a :: b :: c :: d :: e :: f :: r, hl => simp at hl; omega
theorem far_same {k : Mk} : ∀ {l : List Ms} {a : Ms}, (∀ m ∈ l, m.check = k) → a.check = k → (l.foldl (fun a m => if a.check.opn < m.check.opn then m else a) a).check = k
  | [], a, _, ha => ha
  | x :: l, a, h, ha => by
    rw [List.foldl_cons]
    refine far_same (fun m hm => h m (List.mem_cons_of_mem _ hm)) ?_
    split
    · exact h x (List.mem_cons_self ..)
    · exact ha
theorem link_right : ∀ {m : Mk} {ch : List En}, LinkC m ch → ∀ e ∈ ch, Rt e
  | _, [], _, _, h => by cases h
  | _, _ :: _, hl, e, h => by
    rcases List.mem_cons.1 h with rfl | h
    · exact hl.1.1
    · exact link_right hl.2 e h
/-- the longest is chosen -/
theorem long_C {count view : Int} (hc : count = 3 ∨ count = 5) (hv : Fi view) {ch : List En} (h8 : ch.length ≤ 8) (hlk : LinkC mk0 ch) (hft : ∀ e ∈ ch, e.fits) {ns : List Nat} (hns : ∀ n ∈ ns, n ≤ ch.length) {l : List Ms}
    (hll : l.length = ns.length) (hl : ∀ i (hi : i < l.length), l[i] = logL ((i : Int) + 1) view (ch.take (ns[i]'(by omega)))) (hcount : (ns.length : Int) ≤ count) {top : Nat} (htop : top ≤ ch.length) (hmax : ∀ n ∈ ns, n ≤ top) (hat : top = 0 ∨ top ∈ ns) :
    (2 * (l.length : Int) ≤ count → (chooseC count l).ready = false) ∧ (count < 2 * (l.length : Int) → (chooseC count l).ready = true ∧ (chooseC count l).es = ch.take top) := by
  have hre := link_right hlk
  have hlogs : logsC count l = l := logs_id hc (by omega) (fun i hi => by
    rw [hl i hi]
    exact ⟨rfl, rfl, logL_right ⟨by omega, by omega⟩ hv (by rw [List.length_take]; omega) (fun e he => hre e (List.mem_of_mem_take he))⟩)
  have hmem : ∀ m ∈ l, ∃ i, ∃ hi : i < l.length, m = logL ((i : Int) + 1) view (ch.take (ns[i]'(by omega))) := fun m hm => by
    obtain ⟨i, hi, rfl⟩ := List.getElem_of_mem hm
    exact ⟨i, hi, hl i hi⟩
  have hcl : ∀ m ∈ l, cleanC m := fun m hm => by
    obtain ⟨i, hi, rfl⟩ := hmem m hm
    exact logL_clean _ _ _
  constructor
  · intro h2
    refine waits_C ?_ ?_
    · rw [hlogs]
      rcases hc with rfl | rfl <;> omega
    · rw [hlogs]
      rintro ⟨_, h⟩
      omega
  · intro h2
    have hne : l ≠ [] := by
      intro e
      rw [e] at h2
      simp at h2
      rcases hc with rfl | rfl <;> omega
    have hdec : decidedC count l := .inr ⟨hcl, by unfold enoughC; omega⟩
    have hbeg : BegC view ch l := fun m hm => by
      obtain ⟨i, hi, rfl⟩ := hmem m hm
      exact ⟨_, _, hns _ (List.getElem_mem _), rfl⟩
    have hfar : (farC l).check = mk0 := by
      unfold farC
      obtain ⟨x, r, rfl⟩ := List.exists_cons_of_ne_nil hne
      exact far_same (fun m hm => by obtain ⟨i, hi, rfl⟩ := hmem m hm; rfl) (by obtain ⟨i, hi, e⟩ := hmem x (List.mem_cons_self ..); show x.check = _; rw [e]; rfl)
    have hh : ∀ j (h : j < ch.length), j < top ↔ ∃ m ∈ l, saysC m ((j : Int) + 1) = holdC ch[j] := by
      intro j hj
      constructor
      · intro hjt
        have hin : top ∈ ns := by
          rcases hat with h | h
          · omega
          · exact h
        obtain ⟨i, hi, e⟩ := List.getElem_of_mem hin
        refine ⟨l[i]'(by omega), List.getElem_mem _, ?_⟩
        rw [hl i (by omega)]
        have hlt : j < (ch.take (ns[i]'hi)).length := by rw [List.length_take, e]; omega
        rw [says_held _ _ _ j (by rw [List.length_take]; omega) hlt, List.getElem_take]
      · rintro ⟨m, hm, e⟩
        obtain ⟨i, hi, rfl⟩ := hmem m hm
        have h1 := hmax _ (List.getElem_mem (l := ns) (n := i) (by omega))
        by_cases hjn : j < ns[i]'(by omega)
        · omega
        · rw [says_lacks _ _ _ j (by rw [List.length_take]; omega)] at e
          have := congrArg It.kind e
          exact absurd this (by show (0 : Int) ≠ 1; omega)
    have hgo := go_long hbeg h8 hft hv.1 hne (decide ((l.length : Int) = count)) htop hh top 0 mk0 (by omega) (Nat.zero_le _) rfl (by simpa using hlk)
    unfold chooseC
    rw [hlogs, if_pos ⟨hc, hdec⟩]
    unfold chosenC
    rw [hfar]
    change goC l _ 8 mk0 = _ at hgo
    rw [hgo]
    exact ⟨rfl, by simp⟩
end Go.Proofs.YteahbalcielhpaaDoor
/-
  The program's way to choose, in plain words: it comes to the chapter's choice.
-/
namespace Go.Proofs.YteahbalcielhpaaDoor
open Go.RowKit
set_option maxRecDepth 10000

/-- a log that may be -/
def LogR (m : Ms) : Prop := m.kind = 7 ∧ rightM m
/-! ### the stub -/
def stepT18 (n : Int) (r : Int × St) (m : Ms) : Int × St :=
  if (saysC m n).kind = 3 ∨ m.lv < r.1 then r else if r.1 < m.lv ∨ r.2 = st0 then (m.lv, (saysC m n).stub) else r
def stbP18 (l : List Ms) (n : Int) : Int × St := l.foldl (stepT18 n) (-1, st0)
def stbT18 (l : List Ms) (n : Int) : St := match toldC l n with | some t => (saysC t n).stub | none => st0
theorem says_right0 {m : Ms} (h : LogR m) (n : Int) : itemR (saysC m n) := by
  by_cases h0 : (saysC m n).kind = 0
  · unfold saysC
    split
    · rename_i hr
      have h8 := h.2.2.2.1.2.2.2 h.1
      have hlt : (n - 1 - m.check.opn).toNat < m.xs.length := by omega
      have e : m.xs.getD (n - 1 - m.check.opn).toNat it0 = m.xs[(n - 1 - m.check.opn).toNat] := by rw [List.getD_eq_getElem?_getD, List.getElem?_eq_getElem hlt]; rfl
      rw [e]
      exact h.2.2.2.2.2.1 _ (List.getElem_mem hlt)
    · exact itemR_it0
  · exact (says_right h.1 h.2 n h0).2.1
theorem stub_ne {x : It} (h : itemR x) (hk : x.kind = 1 ∨ x.kind = 2) : x.stub ≠ st0 := by
  unfold itemR at h
  rcases hk with hk | hk
  · rw [if_pos hk] at h
    intro e
    have h1 := h.2
    rw [e, stubC_rt h.1] at h1
    have := congrArg St.opn h1
    have h2 := h.1.1.1
    simp only [st0] at this
    omega
  · rw [if_neg (by omega), if_pos hk] at h
    intro e
    rw [e] at h
    exact absurd h.1 (by decide)
theorem stub_zero {x : It} (h : itemR x) (h1 : ¬ (x.kind = 1 ∨ x.kind = 2)) : x.stub = st0 := by
  unfold itemR at h
  rw [if_neg (fun e => h1 (.inl e)), if_neg (fun e => h1 (.inr e))] at h
  exact h.2.2
theorem top_snoc (l : List Ms) (m : Ms) (n : Int) : topC (l ++ [m]) n = if (saysC m n).kind ≠ 3 ∧ topC l n < m.lv then m.lv else topC l n := by
  unfold topC
  rw [List.foldl_append]
  rfl
theorem find_snoc {α : Type} (p : α → Bool) (l : List α) (x : α) : (l ++ [x]).find? p = (l.find? p).or (if p x = true then some x else none) := by
  rw [List.find?_append]
  congr 1
  rw [List.find?_cons]
  cases p x <;> rfl
theorem stub_step (n : Int) (p : List Ms) (m : Ms) (hp : ∀ x ∈ p, LogR x) (hm : LogR m) : stepT18 n (topC p n, stbT18 p n) m = (topC (p ++ [m]) n, stbT18 (p ++ [m]) n) := by
  have ht : toldC (p ++ [m]) n = (p.find? fun x => decide (x.lv = topC (p ++ [m]) n ∧ ((saysC x n).kind = 1 ∨ (saysC x n).kind = 2))).or (if m.lv = topC (p ++ [m]) n ∧ ((saysC m n).kind = 1 ∨ (saysC m n).kind = 2) then some m else none) := by
    unfold toldC
    rw [find_snoc]
    simp only [decide_eq_true_eq]
  have hr := says_right0 hm n
  unfold stepT18
  by_cases h1 : (saysC m n).kind = 3 ∨ m.lv < topC p n
  · rw [if_pos h1]
    have htop : topC (p ++ [m]) n = topC p n := by rw [top_snoc, if_neg (by rintro ⟨a, b⟩; rcases h1 with h | h; exact a h; omega)]
    rw [htop] at ht ⊢
    rw [if_neg (by rintro ⟨a, b⟩; rcases h1 with h | h <;> omega), Option.or_none] at ht
    unfold stbT18
    rw [ht]
    rfl
  · have h3 : (saysC m n).kind ≠ 3 := fun e => h1 (.inl e)
    have hge : topC p n ≤ m.lv := by have : ¬ m.lv < topC p n := fun e => h1 (.inr e); omega
    rw [if_neg h1]
    by_cases h2 : topC p n < m.lv
    · have htop : topC (p ++ [m]) n = m.lv := by rw [top_snoc, if_pos ⟨h3, h2⟩]
      rw [htop] at ht ⊢
      rw [if_pos (.inl h2)]
      have hnone : (p.find? fun x => decide (x.lv = m.lv ∧ ((saysC x n).kind = 1 ∨ (saysC x n).kind = 2))) = none := by
        rw [List.find?_eq_none]
        intro x hx
        simp only [decide_eq_true_eq]
        rintro ⟨a, b⟩
        have := top_ge hx (n := n) (by rcases b with b | b <;> omega)
        omega
      rw [hnone, Option.none_or] at ht
      unfold stbT18
      rw [ht]
      by_cases hk : (saysC m n).kind = 1 ∨ (saysC m n).kind = 2
      · rw [if_pos ⟨rfl, hk⟩]
      · rw [if_neg (fun e => hk e.2), stub_zero hr hk]
    · have heq : m.lv = topC p n := by omega
      have htop : topC (p ++ [m]) n = topC p n := by rw [top_snoc, if_neg (fun e => h2 e.2)]
      rw [htop] at ht ⊢
      change toldC (p ++ [m]) n = (toldC p n).or _ at ht
      cases hq : toldC p n with
      | some t =>
        have a1 := List.mem_of_find?_eq_some hq
        have a2 := List.find?_some hq
        simp only [decide_eq_true_eq] at a2
        have hne := stub_ne (says_right0 (hp t a1) n) a2.2
        have e1 : stbT18 p n = (saysC t n).stub := by unfold stbT18; rw [hq]
        have e2 : stbT18 (p ++ [m]) n = (saysC t n).stub := by unfold stbT18; rw [ht, hq]; rfl
        rw [e1, e2, if_neg (by rintro (h | h); exact h2 h; exact hne h)]
      | none =>
        have e1 : stbT18 p n = st0 := by unfold stbT18; rw [hq]
        rw [hq, Option.none_or] at ht
        rw [if_pos (.inr e1), heq]
        unfold stbT18
        rw [ht]
        by_cases hk : (saysC m n).kind = 1 ∨ (saysC m n).kind = 2
        · rw [if_pos ⟨heq, hk⟩]
        · rw [if_neg (fun e => hk e.2), stub_zero hr hk]
theorem stub_fold (n : Int) : ∀ (r p : List Ms), (∀ x ∈ p, LogR x) → (∀ x ∈ r, LogR x) → r.foldl (stepT18 n) (topC p n, stbT18 p n) = (topC (p ++ r) n, stbT18 (p ++ r) n)
  | [], p, _, _ => by rw [List.append_nil]; rfl
  | m :: r, p, hp, hr => by
    rw [List.foldl_cons, stub_step n p m hp (hr m (by simp))]
    have h := stub_fold n r (p ++ [m]) (fun x hx => by
      rcases List.mem_append.1 hx with h | h
      · exact hp x h
      · rw [List.mem_singleton.1 h]; exact hr m (by simp)) (fun x hx => hr x (by simp [hx]))
    rw [List.append_assoc] at h
    exact h
theorem stbP18_eq (n : Int) (l : List Ms) (h : ∀ x ∈ l, LogR x) : (stbP18 l n).2 = stbT18 l n := by
  have h1 := stub_fold n l [] (fun _ hx => by cases hx) h
  rw [List.nil_append] at h1
  unfold stbP18
  change List.foldl (stepT18 n) (-1, st0) l = _ at h1
  rw [h1]
/-! ### the entry -/
def hldP18 (l : List Ms) (n : Int) (s : St) : En := match heldC l n s with | some h => (saysC h n).entry | none => en0
theorem en0_fol (m : Mk) : ¬ Fol m en0 := fun h => absurd h.1.1.1 (by decide)
/-- the entries, so many at most -/
def goP18 (l : List Ms) : Nat → Mk → List En
  | 0, _ => []
  | k + 1, m => if Fol m (hldP18 l (m.opn + 1) (stbP18 l (m.opn + 1)).2) then hldP18 l (m.opn + 1) (stbP18 l (m.opn + 1)).2 :: goP18 l k (markE (hldP18 l (m.opn + 1) (stbP18 l (m.opn + 1)).2)) else []
theorem says_mem {m : Ms} (n : Int) : saysC m n ∈ m.xs ∨ saysC m n = it0 := by
  unfold saysC
  split
  · rw [List.getD_eq_getElem?_getD]
    cases h : m.xs[(n - 1 - m.check.opn).toNat]? with
    | none => exact .inr rfl
    | some x => exact .inl (List.mem_of_getElem? h)
  · exact .inr rfl
theorem goP18_eq {l : List Ms} (hl : ∀ m ∈ l, LogR m) (full : Bool) (hc : full = true ∨ ∀ m ∈ l, cleanC m) : ∀ (k : Nat) (m : Mk), goC l full k m = some (goP18 l k m)
  | 0, _ => rfl
  | k + 1, m => by
    unfold goC goP18
    rw [stbP18_eq _ l hl]
    have hl2 : ∀ x ∈ l, x.kind = 7 ∧ rightM x := hl
    cases ht : toldC l (m.opn + 1) with
    | none =>
      have e1 : stbT18 l (m.opn + 1) = st0 := by unfold stbT18; rw [ht]
      have e2 : heldC l (m.opn + 1) st0 = none := by
        cases hh : heldC l (m.opn + 1) st0 with
        | none => rfl
        | some x =>
          obtain ⟨a1, a2, a3, a4, a5⟩ := held_some hl2 hh
          exact absurd a3 (stub_ne (says_right0 (hl x a1) _) (.inl a2))
      have e3 : hldP18 l (m.opn + 1) st0 = en0 := by unfold hldP18; rw [e2]
      rw [e1, e3, if_neg (en0_fol m)]
    | some t =>
      have e1 : stbT18 l (m.opn + 1) = (saysC t (m.opn + 1)).stub := by unfold stbT18; rw [ht]
      have t1 := List.mem_of_find?_eq_some ht
      have t2 := List.find?_some ht
      simp only [decide_eq_true_eq] at t2
      rw [e1]
      show (if folS m (saysC t (m.opn + 1)).stub then _ else some []) = _
      cases hh : heldC l (m.opn + 1) (saysC t (m.opn + 1)).stub with
      | some h =>
        obtain ⟨a1, a2, a3, a4, a5⟩ := held_some hl2 hh
        have e3 : hldP18 l (m.opn + 1) (saysC t (m.opn + 1)).stub = (saysC h (m.opn + 1)).entry := by unfold hldP18; rw [hh]
        rw [e3]
        by_cases hf : folS m (saysC t (m.opn + 1)).stub
        · rw [if_pos hf, if_pos (fol_of a4 (by rw [a5]; exact hf))]
          show Option.map _ (goC l full k _) = _
          rw [goP18_eq hl full hc k _]
          rfl
        · rw [if_neg hf, if_neg (fun h2 => hf (by have := folS_of h2; rwa [a5] at this))]
      | none =>
        have e3 : hldP18 l (m.opn + 1) (saysC t (m.opn + 1)).stub = en0 := by unfold hldP18; rw [hh]
        rw [e3, if_neg (en0_fol m)]
        by_cases hf : folS m (saysC t (m.opn + 1)).stub
        · rw [if_pos hf]
          show (if full = true then some [] else none) = _
          rcases hc with hc | hc
          · rw [if_pos hc]
          · exfalso
            have hk : (saysC t (m.opn + 1)).kind = 1 := by
              rcases t2.2 with h | h
              · exact h
              · exfalso
                rcases says_mem (m := t) (m.opn + 1) with hx | hx
                · have := hc t t1 _ hx
                  omega
                · rw [hx] at h
                  exact absurd h (by decide)
            have := List.find?_eq_none.1 hh t t1
            simp only [decide_eq_true_eq] at this
            exact this ⟨hk, trivial⟩
        · rw [if_neg hf]
/-! ### the whole -/
def comP18 (c : Int) (l : List Ms) : Int := l.foldl (fun t m => max t m.commit) c
theorem comP18_eq : ∀ (l : List Ms) (a b : Int), comP18 (max a b) l = max a (l.foldl (fun c m => if c < m.commit then m.commit else c) b)
  | [], a, b => rfl
  | m :: l, a, b => by
    unfold comP18
    rw [List.foldl_cons, List.foldl_cons]
    have h := comP18_eq l a (if b < m.commit then m.commit else b)
    unfold comP18 at h
    rw [← h]
    congr 1
    split <;> omega
theorem comP18_com (c : Int) (l : List Ms) (h0 : 0 ≤ c) : comP18 c l = if comC l < c then c else comC l := by
  have h := comP18_eq l c 0
  rw [show max c 0 = c by omega] at h
  rw [h]
  show max c (comC l) = _
  split <;> omega
def decP18 (count : Int) (l : List Ms) : Bool := (l.length : Int) == count || (decide (enoughC count ≤ (l.length : Int)) && l.all fun m => decide (cleanC m))
def chsP18 (count : Int) (l : List Ms) : Ch :=
  if (count = 3 ∨ count = 5) ∧ decP18 count (logsC count l) = true then
    ⟨true, (farC (logsC count l)).check, comP18 (farC (logsC count l)).check.opn (logsC count l), goP18 (logsC count l) 8 (farC (logsC count l)).check⟩
  else ch0
theorem decP18_iff (count : Int) (l : List Ms) : decP18 count l = true ↔ decidedC count l := by
  unfold decP18 decidedC
  simp only [Bool.or_eq_true, beq_iff_eq, Bool.and_eq_true, decide_eq_true_eq, List.all_eq_true]
  constructor
  · rintro (h | ⟨h1, h2⟩)
    · exact .inl h
    · exact .inr ⟨h2, h1⟩
  · rintro (h | ⟨h1, h2⟩)
    · exact .inl h
    · exact .inr ⟨h2, h1⟩
theorem far_mem {l : List Ms} (h : l ≠ []) : farC l ∈ l := by
  have key : ∀ (r : List Ms) (a : Ms), (r.foldl (fun a m => if a.check.opn < m.check.opn then m else a) a) = a ∨ (r.foldl (fun a m => if a.check.opn < m.check.opn then m else a) a) ∈ r := by
    intro r
    induction r with
    | nil => intro a; exact .inl rfl
    | cons x r ih =>
      intro a
      rw [List.foldl_cons]
      rcases ih (if a.check.opn < x.check.opn then x else a) with e | e
      · rw [e]
        split
        · exact .inr (by simp)
        · exact .inl rfl
      · exact .inr (by simp [e])
  unfold farC
  obtain ⟨x, r, rfl⟩ := List.exists_cons_of_ne_nil h
  rcases key (x :: r) x with e | e
  · rw [show (x :: r).headD ms0 = x from rfl, e]; simp
  · exact e
theorem logsC_log {count : Int} {l : List Ms} : ∀ m ∈ logsC count l, LogR m := fun _ hm => (logs_ok hm).2
theorem choose_eq (count : Int) (l : List Ms) : chsP18 count l = chooseC count l := by
  unfold chsP18 chooseC
  by_cases h : (count = 3 ∨ count = 5) ∧ decidedC count (logsC count l)
  · rw [if_pos h, if_pos ⟨h.1, (decP18_iff _ _).2 h.2⟩]
    unfold chosenC
    have hne : logsC count l ≠ [] := by
      intro e
      have hd := h.2
      rw [e] at hd
      rcases hd with hd | hd
      · simp at hd; rcases h.1 with h1 | h1 <;> omega
      · have := hd.2
        unfold enoughC at this
        simp at this
        rcases h.1 with h1 | h1 <;> omega
    have hf := far_mem hne
    have h0 : 0 ≤ (farC (logsC count l)).check.opn := ((logsC_log _ hf).2.2.1 (farC (logsC count l)).check.opn (by simp [numsM])).1
    rw [comP18_com _ _ h0, goP18_eq logsC_log (decide (((logsC count l).length : Int) = count)) (by
      rcases h.2 with hd | hd
      · exact .inl (by simpa using hd)
      · exact .inr hd.1)]
  · rw [if_neg h, if_neg (fun e => h ⟨e.1, (decP18_iff _ _).1 e.2⟩)]
end Go.Proofs.YteahbalcielhpaaDoor
/-
  The chapter's examples, in plain words.
-/
namespace Go.Proofs.YteahbalcielhpaaDoor
open Go.RowKit
set_option maxRecDepth 10000

def base18 : En := ⟨1, 0, 0, 0, 7, 0, 0, 2, ⟨#[]⟩⟩
def ent1 : En := nextS9 mk0 base18
def ent2 : En := nextS9 (markE ent1) base18
theorem ent1_rt : Rt ent1 := by decide
theorem ent1_fits : ent1.fits := by
  unfold ent1 nextS9 base18 mk0 En.fits In64
  simp
theorem ent1_fol : Fol mk0 ent1 := ⟨ent1_rt, rfl, rfl, rfl⟩
theorem mark1 : (markE ent1).opn = 1 ∧ (markE ent1).view = 1 := by
  have hp : (packE ent1).2 = 0 := (packE_rt ent1_fits ent1_rt).1
  unfold markE
  rw [if_pos hp]
  exact ⟨rfl, rfl⟩
theorem ent2_eq : ent2 = ⟨1, 2, 1, (markE ent1).sum, 7, 0, 0, 2, ⟨#[]⟩⟩ := by
  unfold ent2 nextS9
  rw [mark1.1, mark1.2]
  rfl
theorem mark_sum (e : En) : (markE e).sum < 18446744073709551616 := markE_sum e
theorem ent2_rt : Rt ent2 := by
  rw [ent2_eq]
  refine ⟨⟨?_, ?_⟩, ⟨?_, ?_⟩, ⟨?_, ?_⟩, ⟨?_, ?_⟩, ⟨?_, ?_⟩, ⟨?_, ?_⟩, ⟨?_, ?_⟩, ?_, ?_⟩ <;> simp <;> decide
theorem ent2_fits : ent2.fits := by
  rw [ent2_eq]
  have := mark_sum ent1
  unfold En.fits In64
  simp
  exact this
theorem ent2_fol : Fol (markE ent1) ent2 := by
  refine ⟨ent2_rt, ?_⟩
  rw [ent2_eq]
  exact ⟨by rw [mark1.1]; rfl, mark1.2.symm, rfl⟩
theorem mark2 : (markE ent2).opn = 2 := by
  have hp : (packE ent2).2 = 0 := (packE_rt ent2_fits ent2_rt).1
  unfold markE
  rw [if_pos hp]
  show ent2.opn = 2
  rw [ent2_eq]
theorem go_next {l : List Ms} {full : Bool} {k : Nat} {m : Mk} {n : Int} {t h : Ms} {s : St} {e : En} (hn : m.opn + 1 = n) (ht : toldC l n = some t) (hs : (saysC t n).stub = s) (hf : folS m s) (hh : heldC l n s = some h) (he : (saysC h n).entry = e) :
    goC l full (k + 1) m = (goC l full k (markE e)).map fun r => e :: r := by
  subst hn hs he
  show (match toldC l (m.opn + 1) with | none => _ | some t => _) = _
  rw [ht]
  show (if _ then (match heldC l (m.opn + 1) (saysC t (m.opn + 1)).stub with | some h => _ | none => _) else _) = _
  rw [if_pos hf, hh]
theorem go_stop {l : List Ms} {full : Bool} {k : Nat} {m : Mk} {n : Int} (hn : m.opn + 1 = n) (ht : toldC l n = none) : goC l full (k + 1) m = some [] := by
  subst hn
  show (match toldC l (m.opn + 1) with | none => _ | some t => _) = _
  rw [ht]
theorem hold_kind (e : En) : (holdC e).kind = 1 := rfl
theorem hold_stub (e : En) : (holdC e).stub = stubS e := rfl
theorem it0_kind : it0.kind = 0 := rfl
def it3 : It := ⟨3, st0, en0⟩
theorem it3_kind : it3.kind = 3 := rfl
theorem ex_one {a b : Ms} {e f : En} (full : Bool) (la : a.lv = 1) (lb : b.lv = 2) (a1 : saysC a 1 = holdC e) (a2 : saysC a 2 = holdC f) (b1 : saysC b 1 = holdC e) (b2 : saysC b 2 = it0) (h1 : Fol mk0 e) (k1 : (markE e).opn = 1) :
    goC [a, b] full 8 mk0 = some [e] := by
  have t1 : toldC [a, b] 1 = some b := by simp [toldC, topC, a1, b1, la, lb, hold_kind]
  have t2 : toldC [a, b] 2 = none := by simp [toldC, topC, a2, b2, la, lb, hold_kind, it0_kind]
  have g1 : heldC [a, b] 1 (stubS e) = some a := by simp [heldC, a1, hold_kind, hold_stub]
  rw [go_next (n := 1) (s := stubS e) (e := e) rfl t1 (by rw [b1]; rfl) (folS_of h1) g1 (by rw [a1]; rfl), go_stop (n := 2) (by rw [k1]; rfl) t2]
  rfl
theorem ex_two {a b c : Ms} {e f : En} (full : Bool) (la : a.lv = 1) (lb : b.lv = 2) (lc : c.lv = 0) (a1 : saysC a 1 = holdC e) (a2 : saysC a 2 = holdC f) (a3 : saysC a 3 = it0) (b1 : saysC b 1 = holdC e) (b2 : saysC b 2 = it3) (b3 : saysC b 3 = it0)
    (c1 : saysC c 1 = it0) (c2 : saysC c 2 = it0) (c3 : saysC c 3 = it0) (h1 : Fol mk0 e) (h2 : Fol (markE e) f) (k1 : (markE e).opn = 1) (k2 : (markE f).opn = 2) :
    goC [a, b, c] full 8 mk0 = some [e, f] := by
  have t1 : toldC [a, b, c] 1 = some b := by simp [toldC, topC, a1, b1, c1, la, lb, lc, hold_kind, it0_kind]
  have t2 : toldC [a, b, c] 2 = some a := by simp [toldC, topC, a2, b2, c2, la, lb, lc, hold_kind, it0_kind, it3_kind]
  have t3 : toldC [a, b, c] 3 = none := by simp [toldC, topC, a3, b3, c3, la, lb, lc, it0_kind]
  have g1 : heldC [a, b, c] 1 (stubS e) = some a := by simp [heldC, a1, hold_kind, hold_stub]
  have g2 : heldC [a, b, c] 2 (stubS f) = some a := by simp [heldC, a2, hold_kind, hold_stub]
  rw [go_next (n := 1) (s := stubS e) (e := e) rfl t1 (by rw [b1]; rfl) (folS_of h1) g1 (by rw [a1]; rfl), go_next (n := 2) (s := stubS f) (e := f) (by rw [k1]; rfl) t2 (by rw [a2]; rfl) (folS_of h2) g2 (by rw [a2]; rfl), go_stop (n := 3) (by rw [k2]; rfl) t3]
  rfl
def logA : Ms := logL 1 1 [ent1, ent2]
def logB : Ms := logL 2 2 [ent1]
/-- the second one, unsure of 2 -/
def logU : Ms := { logL 2 2 [ent1] with xs := [holdC ent1, it3, it0, it0, it0, it0, it0, it0] }
def logZ : Ms := logL 3 0 []
theorem logA_right : rightM logA := logL_right ⟨by decide, by decide⟩ ⟨by decide, by decide⟩ (by decide) (by
  intro e he
  rcases List.mem_cons.1 he with rfl | he
  · exact ent1_rt
  · rw [List.mem_singleton.1 he]; exact ent2_rt)
theorem logB_right : rightM logB := logL_right ⟨by decide, by decide⟩ ⟨by decide, by decide⟩ (by decide) (by
  intro e he
  rw [List.mem_singleton.1 he]; exact ent1_rt)
theorem logZ_right : rightM logZ := logL_right ⟨by decide, by decide⟩ ⟨by decide, by decide⟩ (by decide) (fun e he => by cases he)
theorem logU_right : rightM logU := by
  obtain ⟨⟨a1, a2, a3, a4⟩, b, ⟨c1, c2, c3, c4⟩, d, -, f⟩ := logB_right
  refine ⟨⟨a1, a2, a3, ?_⟩, b, ⟨c1, c2, c3, fun _ => rfl⟩, d, ?_, f⟩
  · rfl
  · intro x hx
    have h3 : itemR it3 := by
      unfold itemR it3
      rw [if_neg (by decide), if_neg (by decide)]
      exact ⟨.inr rfl, rfl, rfl⟩
    have h1 : itemR (holdC ent1) := itemR_hold ent1_rt
    have h0 := itemR_it0
    simp only [logU, List.mem_cons, List.not_mem_nil, or_false] at hx
    rcases hx with rfl | rfl | rfl | rfl | rfl | rfl | rfl | rfl <;> assumption
theorem two_logs {a b : Ms} (ha : a.kind = 7 ∧ a.frm = 1 ∧ rightM a) (hb : b.kind = 7 ∧ b.frm = 2 ∧ rightM b) : logsC 3 [a, b] = [a, b] := by
  refine logs_id (.inl rfl) (by simp) (fun i hi => ?_)
  match i, hi with
  | 0, _ => exact ha
  | 1, _ => exact hb
theorem three_logs {a b c : Ms} (ha : a.kind = 7 ∧ a.frm = 1 ∧ rightM a) (hb : b.kind = 7 ∧ b.frm = 2 ∧ rightM b) (hc : c.kind = 7 ∧ c.frm = 3 ∧ rightM c) : logsC 3 [a, b, c] = [a, b, c] := by
  refine logs_id (.inl rfl) (by simp) (fun i hi => ?_)
  match i, hi with
  | 0, _ => exact ha
  | 1, _ => exact hb
  | 2, _ => exact hc
theorem awake_x : (chooseC 3 [logA, logB]).ready = true ∧ (chooseC 3 [logA, logB]).es.length = 1 := by
  have hl := two_logs (a := logA) (b := logB) ⟨rfl, rfl, logA_right⟩ ⟨rfl, rfl, logB_right⟩
  have hd : decidedC 3 [logA, logB] := .inr ⟨fun m hm => by
    rcases List.mem_cons.1 hm with rfl | hm
    · exact logL_clean _ _ _
    · rw [List.mem_singleton.1 hm]; exact logL_clean _ _ _, by decide⟩
  have hg := ex_one (a := logA) (b := logB) (e := ent1) (f := ent2) (decide (([logA, logB].length : Int) = 3)) rfl rfl (says_held 1 1 [ent1, ent2] 0 (by decide) (by decide)) (says_held 1 1 [ent1, ent2] 1 (by decide) (by decide)) (says_held 2 2 [ent1] 0 (by decide) (by decide)) (says_lacks 2 2 [ent1] 1 (by decide)) ent1_fol mark1.1
  have hf : (farC [logA, logB]).check = mk0 := rfl
  unfold chooseC
  rw [hl, if_pos ⟨.inl rfl, hd⟩]
  unfold chosenC
  rw [hf, hg]
  exact ⟨rfl, rfl⟩
theorem awake_y : (chooseC 3 [logA, logU]).ready = false := by
  have hl := two_logs (a := logA) (b := logU) ⟨rfl, rfl, logA_right⟩ ⟨rfl, rfl, logU_right⟩
  refine waits_C ?_ ?_
  · rw [hl]; decide
  · rw [hl]
    rintro ⟨h, -⟩
    have := h logU (by simp) it3 (by simp [logU])
    exact absurd this (by decide)
theorem awake_z : (chooseC 3 [logA, logU, logZ]).ready = true ∧ (chooseC 3 [logA, logU, logZ]).es.length = 2 := by
  have hl := three_logs (a := logA) (b := logU) (c := logZ) ⟨rfl, rfl, logA_right⟩ ⟨rfl, rfl, logU_right⟩ ⟨rfl, rfl, logZ_right⟩
  have hd : decidedC 3 [logA, logU, logZ] := .inl rfl
  have hg := ex_two (a := logA) (b := logU) (c := logZ) (e := ent1) (f := ent2) (decide (([logA, logU, logZ].length : Int) = 3)) rfl rfl rfl
    (says_held 1 1 [ent1, ent2] 0 (by decide) (by decide)) (says_held 1 1 [ent1, ent2] 1 (by decide) (by decide)) (says_lacks 1 1 [ent1, ent2] 2 (by decide))
    rfl rfl rfl (says_lacks 3 0 [] 0 (by decide)) (says_lacks 3 0 [] 1 (by decide)) (says_lacks 3 0 [] 2 (by decide)) ent1_fol ent2_fol mark1.1 mark2
  have hf : (farC [logA, logU, logZ]).check = mk0 := rfl
  unfold chooseC
  rw [hl, if_pos ⟨.inl rfl, hd⟩]
  unfold chosenC
  rw [hf, hg]
  exact ⟨rfl, rfl⟩
end Go.Proofs.YteahbalcielhpaaDoor
