/-
  A ledger in plain words: what an event does, what is told, how it is packed.
-/
import Derived.Test.YtbofabmgfkploaaEv
namespace Go.Proofs.Ytbofabmgfkploaa
open Go.RowKit

structure Lg where
  A : List Ac
  T : List Tr
/-- an account that can be laid -/
def Ac.flat (x : Ac) : Prop := x.ok ∧ 0 ≤ x.flags ∧ x.flags ≤ 255
structure Lg.WF (S : Lg) : Prop where
  la : S.A.length ≤ 8
  lt : S.T.length ≤ 16
  oa : ∀ x ∈ S.A, x.flat
  ot : ∀ x ∈ S.T, x.ok
def Lg.nil : Lg := ⟨[], []⟩
theorem Lg.nil_wf : Lg.nil.WF := ⟨by simp [Lg.nil], by simp [Lg.nil], by simp [Lg.nil], by simp [Lg.nil]⟩

/-- where the first one with an id stands; behind the last, if there is none -/
def at_ {α : Type} (key : α → Nat) (id : Nat) (l : List α) : Nat := l.findIdx (fun x => key x == id)
theorem at_le {α : Type} (key : α → Nat) (id : Nat) (l : List α) : at_ key id l ≤ l.length := List.findIdx_le_length
theorem at_before {α : Type} (key : α → Nat) (id : Nat) (l : List α) (k : Nat) (h : k < at_ key id l) (hl : k < l.length) : key l[k] ≠ id := by
  have := List.not_of_lt_findIdx h
  simpa using this
theorem at_here {α : Type} (key : α → Nat) (id : Nat) (l : List α) (h : at_ key id l < l.length) : key l[at_ key id l] = id := by
  have := List.findIdx_getElem (p := fun x => key x == id) (w := h)
  exact eq_of_beq this
theorem at_this {α : Type} (key : α → Nat) (id : Nat) (l : List α) (k : Nat) (hk : k ≤ at_ key id l) (hl : k < l.length) (h : key l[k] = id) : at_ key id l = k := by
  rcases Nat.lt_or_ge k (at_ key id l) with h1 | h1
  · exact absurd h (at_before key id l k h1 hl)
  · omega
def Lg.fa (S : Lg) (id : Nat) : Nat := at_ Ac.id id S.A
def Lg.ft (S : Lg) (id : Nat) : Nat := at_ Tr.a id S.T
def Lg.ac (S : Lg) (i : Nat) : Ac := S.A.getD i ac0
def Lg.tr (S : Lg) (i : Nat) : Tr := S.T.getD i tr0

/-- what becomes of an account that is asked for -/
def Lg.ja (S : Lg) (x : Ac) : Nat :=
  if x.id = 0 then 1 else if S.fa x.id < S.A.length then 2 else if 1 < x.flags then 3 else if S.A.length = 8 then 10 else 0
def Lg.opn (S : Lg) (x : Ac) : Lg := if S.ja x = 0 then ⟨S.A ++ [x], S.T⟩ else S
/-- what becomes of a transfer -/
def Lg.jt (S : Lg) (t : Tr) : Nat :=
  if t.a = 0 then 1 else if S.ft t.a < S.T.length then 2 else if t.b = t.c then 4 else if ¬ S.fa t.b < S.A.length then 5 else if ¬ S.fa t.c < S.A.length then 6
  else if t.d = 0 then 7 else if ¬ U64 ((S.ac (S.fa t.b)).deb + t.d) ∨ ¬ U64 ((S.ac (S.fa t.c)).cre + t.d) then 8
  else if (S.ac (S.fa t.b)).flags = 1 ∧ (S.ac (S.fa t.b)).cre < (S.ac (S.fa t.b)).deb + t.d then 9 else if S.T.length = 16 then 10 else 0
def deb_ (n : Nat) (x : Ac) : Ac := ⟨x.id, x.flags, x.deb + n, x.cre⟩
def cre_ (n : Nat) (x : Ac) : Ac := ⟨x.id, x.flags, x.deb, x.cre + n⟩
def Lg.paid (S : Lg) (t : Tr) : List Ac := (S.A.modify (S.fa t.b) (deb_ t.d)).modify (S.fa t.c) (cre_ t.d)
def Lg.mov (S : Lg) (t : Tr) : Lg := if S.jt t = 0 then ⟨S.paid t, S.T ++ [t]⟩ else S

def acB (x : Ac) : List UInt8 := (wholeB x).1
def trL (x : Tr) : List UInt8 := (trB x).getD []
def mka (S : Lg) (x : Ac) : Lg × List UInt8 := (S.opn x, [UInt8.ofNat (S.ja x)])
def mkt (S : Lg) (t : Tr) : Lg × List UInt8 := (S.mov t, [UInt8.ofNat (S.jt t)])
def tela (S : Lg) (id : Nat) : Lg × List UInt8 := (S, if S.fa id < S.A.length then 1 :: acB (S.ac (S.fa id)) else [0])
def telt (S : Lg) (id : Nat) : Lg × List UInt8 := (S, if S.ft id < S.T.length then 1 :: trL (S.tr (S.ft id)) else [0])
/-- one by one -/
def runL {α : Type} (f : Lg → α → Lg × List UInt8) (S : Lg) (l : List α) : Lg × List UInt8 := l.foldl (fun r x => ((f r.1 x).1, r.2 ++ (f r.1 x).2)) (S, [0])
theorem runL_nil {α : Type} (f : Lg → α → Lg × List UInt8) (S : Lg) : runL f S [] = (S, [0]) := rfl
theorem runL_snoc {α : Type} (f : Lg → α → Lg × List UInt8) (S : Lg) (l : List α) (x : α) : runL f S (l ++ [x]) = ((f (runL f S l).1 x).1, (runL f S l).2 ++ (f (runL f S l).1 x).2) := by
  simp [runL]
theorem runL_take {α : Type} (f : Lg → α → Lg × List UInt8) (S : Lg) (l : List α) (k : Nat) (h : k < l.length) : runL f S (l.take (k + 1)) = ((f (runL f S (l.take k)).1 l[k]).1, (runL f S (l.take k)).2 ++ (f (runL f S (l.take k)).1 l[k]).2) := by
  rw [List.take_succ_eq_append_getElem h, runL_snoc]
def eachL {α : Type} (f : Lg → α → Lg × List UInt8) (S : Lg) (r : List α × Bool) : Lg × List UInt8 := if r.2 = true then runL f S r.1 else (S, [1])
def Lg.doo (S : Lg) (op : Int) (s : List UInt8) : Lg × List UInt8 :=
  if op = 2 then eachL mka S (takL 9 decA s) else if op = 3 then eachL mkt S (takL 32 decT s) else if op = 4 then eachL tela S (takL 8 decI s) else if op = 5 then eachL telt S (takL 8 decI s) else (S, [1])
/-- how many, and each one's bytes -/
def layL {α : Type} (f : α → List UInt8) (l : List α) : List UInt8 := UInt8.ofNat l.length :: l.flatMap f
def Lg.pack (S : Lg) : List UInt8 := layL acB S.A ++ layL trL S.T

/-! ### what stays -/
theorem getD_mem {α : Type} {l : List α} {i : Nat} {d : α} (h : i < l.length) : l.getD i d = l[i] := by rw [List.getD, List.getElem?_eq_getElem h]; rfl
theorem Lg.ac_get (S : Lg) (i : Nat) (h : i < S.A.length) : S.ac i = S.A[i] := getD_mem h
theorem Lg.tr_get (S : Lg) (i : Nat) (h : i < S.T.length) : S.tr i = S.T[i] := getD_mem h
theorem Lg.ja_le (S : Lg) (x : Ac) : S.ja x ≤ 10 := by unfold Lg.ja; (repeat' split) <;> omega
theorem Lg.jt_le (S : Lg) (t : Tr) : S.jt t ≤ 10 := by unfold Lg.jt; (repeat' split) <;> omega
/-- what a transfer that is Done asks -/
structure Lg.Moves (S : Lg) (t : Tr) : Prop where
  id : t.a ≠ 0
  new : S.ft t.a = S.T.length
  sides : t.b ≠ t.c
  hb : S.fa t.b < S.A.length
  hc : S.fa t.c < S.A.length
  pos : t.d ≠ 0
  ob : U64 (S.A[S.fa t.b].deb + t.d)
  oc : U64 (S.A[S.fa t.c].cre + t.d)
  flag : ¬ (S.A[S.fa t.b].flags = 1 ∧ S.A[S.fa t.b].cre < S.A[S.fa t.b].deb + t.d)
  room : S.T.length ≠ 16
theorem Lg.moves {S : Lg} {t : Tr} (h : S.jt t = 0) : S.Moves t := by
  unfold Lg.jt at h
  by_cases h1 : t.a = 0
  · rw [if_pos h1] at h; omega
  rw [if_neg h1] at h
  by_cases h2 : S.ft t.a < S.T.length
  · rw [if_pos h2] at h; omega
  rw [if_neg h2] at h
  by_cases h3 : t.b = t.c
  · rw [if_pos h3] at h; omega
  rw [if_neg h3] at h
  by_cases h4n : ¬ S.fa t.b < S.A.length
  · rw [if_pos h4n] at h; omega
  rw [if_neg h4n] at h
  have h4 : S.fa t.b < S.A.length := by omega
  by_cases h5n : ¬ S.fa t.c < S.A.length
  · rw [if_pos h5n] at h; omega
  rw [if_neg h5n] at h
  have h5 : S.fa t.c < S.A.length := by omega
  by_cases h6 : t.d = 0
  · rw [if_pos h6] at h; omega
  rw [if_neg h6, S.ac_get _ h4, S.ac_get _ h5] at h
  by_cases h7 : ¬ U64 (S.A[S.fa t.b].deb + t.d) ∨ ¬ U64 (S.A[S.fa t.c].cre + t.d)
  · rw [if_pos h7] at h; omega
  rw [if_neg h7] at h
  by_cases h8 : S.A[S.fa t.b].flags = 1 ∧ S.A[S.fa t.b].cre < S.A[S.fa t.b].deb + t.d
  · rw [if_pos h8] at h; omega
  rw [if_neg h8] at h
  by_cases h9 : S.T.length = 16
  · rw [if_pos h9] at h; omega
  have := at_le Tr.a t.a S.T
  exact ⟨h1, by unfold Lg.ft at h2 ⊢; omega, h3, h4, h5, h6, Classical.byContradiction fun h => h7 (.inl h), Classical.byContradiction fun h => h7 (.inr h), h8, h9⟩
theorem Lg.Moves.ne {S : Lg} {t : Tr} (h : S.Moves t) : S.fa t.b ≠ S.fa t.c := by
  intro e
  have h1 := at_here Ac.id t.b S.A h.hb
  have h2 := at_here Ac.id t.c S.A h.hc
  have e2 : S.A[at_ Ac.id t.b S.A]'h.hb = S.A[at_ Ac.id t.c S.A]'h.hc := by
    have : at_ Ac.id t.b S.A = at_ Ac.id t.c S.A := e
    congr 1
  rw [e2, h2] at h1
  exact h.sides h1.symm
theorem Lg.paid_len (S : Lg) (t : Tr) : (S.paid t).length = S.A.length := by simp [Lg.paid]
theorem Lg.paid_get {S : Lg} {t : Tr} (h : S.Moves t) (i : Nat) (hi : i < S.A.length) : (S.paid t)[i]'(by rw [S.paid_len]; exact hi) = if i = S.fa t.b then deb_ t.d S.A[i] else if i = S.fa t.c then cre_ t.d S.A[i] else S.A[i] := by
  unfold Lg.paid
  rw [List.getElem_modify]
  have hn := h.ne
  by_cases h1 : S.fa t.c = i
  · rw [if_pos h1, List.getElem_modify, if_neg (by omega), if_neg (by omega), if_pos h1.symm]
  · rw [if_neg h1, List.getElem_modify]
    by_cases h2 : S.fa t.b = i
    · rw [if_pos h2, if_pos h2.symm]
    · rw [if_neg h2, if_neg (Ne.symm h2), if_neg (Ne.symm h1)]
theorem Lg.opn_wf {S : Lg} (h : S.WF) (x : Ac) (hx : x.flat) : (S.opn x).WF := by
  unfold Lg.opn
  split
  · rename_i hj
    have h8 : S.A.length ≠ 8 := by
      intro e
      unfold Lg.ja at hj
      (repeat' split at hj) <;> omega
    refine ⟨?_, h.lt, ?_, h.ot⟩
    · have := h.la
      simp only [List.length_append, List.length_cons, List.length_nil]
      omega
    · intro y hy
      rcases List.mem_append.1 hy with hy | hy
      · exact h.oa y hy
      · rw [List.mem_singleton.1 hy]; exact hx
  · exact h
theorem Lg.paid_flat {S : Lg} (h : S.WF) {t : Tr} (hm : S.Moves t) : ∀ x ∈ S.paid t, x.flat := by
  intro x hx
  obtain ⟨i, hi, rfl⟩ := List.getElem_of_mem hx
  have hi2 : i < S.A.length := by rw [S.paid_len] at hi; exact hi
  have ho := h.oa _ (List.getElem_mem hi2)
  rw [Lg.paid_get hm i hi2]
  split
  · rename_i e
    subst e
    exact ⟨⟨ho.1.1, ho.1.2.1, hm.ob, ho.1.2.2.2⟩, ho.2⟩
  · split
    · rename_i e
      subst e
      exact ⟨⟨ho.1.1, ho.1.2.1, ho.1.2.2.1, hm.oc⟩, ho.2⟩
    · exact ho
theorem Lg.mov_wf {S : Lg} (h : S.WF) (t : Tr) (ht : t.ok) : (S.mov t).WF := by
  unfold Lg.mov
  split
  · rename_i hj
    have hm := Lg.moves hj
    refine ⟨by rw [S.paid_len]; exact h.la, ?_, Lg.paid_flat h hm, ?_⟩
    · have := h.lt
      have := hm.room
      simp only [List.length_append, List.length_cons, List.length_nil]
      omega
    · intro y hy
      rcases List.mem_append.1 hy with hy | hy
      · exact h.ot y hy
      · rw [List.mem_singleton.1 hy]; exact ht
  · exact h
theorem runL_wf {α : Type} {f : Lg → α → Lg × List UInt8} {ok : α → Prop} (hf : ∀ S x, S.WF → ok x → (f S x).1.WF) {S : Lg} (hS : S.WF) : ∀ (l : List α), (∀ x ∈ l, ok x) → (runL f S l).1.WF := by
  intro l
  have key : ∀ (l : List α) (r : Lg × List UInt8), r.1.WF → (∀ x ∈ l, ok x) → (l.foldl (fun r x => ((f r.1 x).1, r.2 ++ (f r.1 x).2)) r).1.WF := by
    intro l
    induction l with
    | nil => intro r hr _; exact hr
    | cons x t ih => intro r hr hl; exact ih _ (hf _ _ hr (hl x (by simp))) (fun y hy => hl y (by simp [hy]))
  exact key l (S, [0]) hS
/-- what is taken of bytes can be laid -/
theorem at8_lt (s : List UInt8) (i : Nat) : U64 (at8 s i) := by
  unfold at8
  have key : ∀ l : List UInt8, leV l < 2 ^ (8 * l.length) := by
    intro l
    induction l with
    | nil => simp [leV]
    | cons c r ih =>
      rw [leV, List.length_cons, show 8 * (r.length + 1) = 8 + 8 * r.length by omega, Nat.pow_add]
      have := UInt8.toNat_lt c
      have h2 : (2 : Nat) ^ 8 = 256 := rfl
      rw [h2]
      omega
  have h1 := key ((s.drop i).take 8)
  have h2 : ((s.drop i).take 8).length ≤ 8 := List.length_take_le _ _
  have h3 : 2 ^ (8 * ((s.drop i).take 8).length) ≤ 2 ^ 64 := Nat.pow_le_pow_right (by omega) (by omega)
  have h4 : (2 : Nat) ^ 64 = 18446744073709551616 := by decide
  omega
theorem decA_flat (p : List UInt8) : (decA p).flat := by
  have h := UInt8.toNat_lt (p.getD 8 0)
  refine ⟨⟨at8_lt _ _, ⟨?_, ?_⟩, ?_, ?_⟩, ?_, ?_⟩
  · show -9223372036854775808 ≤ ((p.getD 8 0).toNat : Int); omega
  · show ((p.getD 8 0).toNat : Int) ≤ 9223372036854775807; omega
  · show (0 : Nat) < _; omega
  · show (0 : Nat) < _; omega
  · show (0 : Int) ≤ ((p.getD 8 0).toNat : Int); omega
  · show ((p.getD 8 0).toNat : Int) ≤ 255; omega
theorem decW_flat (p : List UInt8) : (decW p).flat := by
  have h := UInt8.toNat_lt (p.getD 8 0)
  refine ⟨⟨at8_lt _ _, ⟨?_, ?_⟩, at8_lt _ _, at8_lt _ _⟩, ?_, ?_⟩
  · show -9223372036854775808 ≤ ((p.getD 8 0).toNat : Int); omega
  · show ((p.getD 8 0).toNat : Int) ≤ 9223372036854775807; omega
  · show (0 : Int) ≤ ((p.getD 8 0).toNat : Int); omega
  · show ((p.getD 8 0).toNat : Int) ≤ 255; omega
theorem decT_ok (p : List UInt8) : (decT p).ok := ⟨at8_lt _ _, at8_lt _ _, at8_lt _ _, at8_lt _ _⟩
theorem decI_ok (p : List UInt8) : U64 (decI p) := at8_lt _ _
theorem takL_all {α : Type} {n : Nat} {d : List UInt8 → α} {s : List UInt8} {ok : α → Prop} (h : ∀ p, ok (d p)) : ∀ x ∈ (takL n d s).1, ok x := by
  unfold takL
  split
  · simp
  · intro x hx
    obtain ⟨i, _, rfl⟩ := List.mem_map.1 hx
    exact h _
theorem takL_le {α : Type} (n : Nat) (d : List UInt8 → α) (s : List UInt8) : (takL n d s).1.length ≤ 4 := by
  unfold takL
  split
  · simp
  · rw [List.length_map, List.length_range]; omega
theorem Lg.doo_wf {S : Lg} (h : S.WF) (op : Int) (s : List UInt8) : (S.doo op s).1.WF := by
  have key : ∀ {α : Type} (f : Lg → α → Lg × List UInt8) (ok : α → Prop) (r : List α × Bool), (∀ S x, S.WF → ok x → (f S x).1.WF) → (∀ x ∈ r.1, ok x) → (eachL f S r).1.WF := by
    intro α f ok r hf hr
    unfold eachL
    split
    · exact runL_wf hf h r.1 hr
    · exact h
  unfold Lg.doo
  split
  · exact key mka Ac.flat _ (fun S x hS hx => Lg.opn_wf hS x hx) (takL_all decA_flat)
  split
  · exact key mkt Tr.ok _ (fun S x hS hx => Lg.mov_wf hS x hx) (takL_all decT_ok)
  split
  · exact key tela U64 _ (fun S x hS _ => hS) (takL_all decI_ok)
  split
  · exact key telt U64 _ (fun S x hS _ => hS) (takL_all decI_ok)
  · exact h
theorem acB_len (x : Ac) (h : x.flat) : (acB x).length = 25 := by
  unfold acB wholeB
  rw [if_pos h.2]
  simp [le_len]
theorem acB_le (x : Ac) : (acB x).length ≤ 25 := by
  unfold acB wholeB
  split <;> simp [le_len]
theorem trL_len (x : Tr) : (trL x).length = 32 := by simp [trL, trB, le_len]
end Go.Proofs.Ytbofabmgfkploaa
