/-
  A table of sessions in plain words: who is opened, who goes, what a request is, what is noted, how it is packed.
-/
import Derived.Test.YtgphijkonmdehaaKs
namespace Go.Proofs.Ytgphijkonmdehaa
open Go.RowKit

structure Ss where
  c : Int
  s : Int
  r : Int
  o : Int
  t : ByteArray
def Ss.cells (x : Ss) : List Value := [.int .i64 x.c, .int .i64 x.s, .int .i64 x.r, .int .i64 x.o, .string x.t]
def ss0 : Ss := ⟨0, 0, 0, 0, ⟨#[]⟩⟩
theorem Ss.len (x : Ss) : x.cells.length = 5 := rfl
theorem Ss.one (x : Ss) : x.cells.all (·.oneCell') = true := rfl
theorem Ss.ones (x : Ss) : ∀ u ∈ x.cells, u.oneCell' = true := by
  intro u hu
  simp only [Ss.cells, List.mem_cons, List.not_mem_nil, or_false] at hu
  rcases hu with rfl | rfl | rfl | rfl | rfl <;> rfl
/-- a number that may be -/
abbrev Fit (n : Int) : Prop := 0 ≤ n ∧ n ≤ 72057594037927935
abbrev Fit1 (n : Int) : Prop := 1 ≤ n ∧ n ≤ 72057594037927935
structure Ss.ok (x : Ss) : Prop where
  c : Fit1 x.c
  s : Fit1 x.s
  r : Fit x.r
  o : Fit x.o
  t : x.t.size ≤ 200
structure WF (T : List Ss) : Prop where
  le : T.length ≤ 3
  ok : ∀ x ∈ T, x.ok
/-- no two of a client -/
def One (T : List Ss) : Prop := ∀ i j (hi : i < T.length) (hj : j < T.length), T[i].c = T[j].c → i = j
theorem nil_wf : WF [] := ⟨by simp, by simp⟩
theorem nil_one : One [] := fun i j hi => by simp at hi

/-- where a client's first one stands; behind the last, if there is none -/
def pl (T : List Ss) (c : Int) : Nat := T.findIdx (fun x => x.c == c)
theorem pl_le (T : List Ss) (c : Int) : pl T c ≤ T.length := List.findIdx_le_length
theorem pl_before {T : List Ss} {c : Int} {k : Nat} (h : k < pl T c) (hl : k < T.length) : T[k].c ≠ c := by
  have := List.not_of_lt_findIdx h
  simpa using this
theorem pl_here {T : List Ss} {c : Int} (h : pl T c < T.length) : T[pl T c].c = c := by
  have := List.findIdx_getElem (p := fun x : Ss => x.c == c) (w := h)
  exact eq_of_beq this
theorem pl_this {T : List Ss} {c : Int} {k : Nat} (hk : k ≤ pl T c) (hl : k < T.length) (h : T[k].c = c) : pl T c = k := by
  rcases Nat.lt_or_ge k (pl T c) with h1 | h1
  · exact absurd h (pl_before h1 hl)
  · omega
theorem pl_some {T : List Ss} {c : Int} {k : Nat} (hl : k < T.length) (h : T[k].c = c) : pl T c < T.length :=
  List.findIdx_lt_length_of_exists ⟨T[k], List.getElem_mem hl, by simp [h]⟩
theorem pl_none {T : List Ss} {c : Int} (h : ∀ x ∈ T, x.c ≠ c) : ¬ pl T c < T.length := fun h1 => h _ (List.getElem_mem h1) (pl_here h1)
theorem pl_no {T : List Ss} {c : Int} (h : ¬ pl T c < T.length) : ∀ x ∈ T, x.c ≠ c := fun x hx e => by
  obtain ⟨k, hk, rfl⟩ := List.getElem_of_mem hx
  exact h (pl_some hk e)
theorem pl_one {T : List Ss} (h1 : One T) {k : Nat} (hl : k < T.length) : pl T T[k].c = k := h1 _ _ (pl_some hl rfl) hl (pl_here (pl_some hl rfl))
def at_ (T : List Ss) (i : Nat) : Ss := T.getD i ss0
theorem at_get {T : List Ss} {i : Nat} (h : i < T.length) : at_ T i = T[i] := by rw [at_, List.getD, List.getElem?_eq_getElem h]; rfl

/-- the first of the least Op, of the first k -/
def lstK (T : List Ss) : Nat → Nat
  | 0 => 0
  | k + 1 => if (at_ T k).o < (at_ T (lstK T k)).o then k else lstK T k
theorem lstK_lt (T : List Ss) : ∀ k, 0 < k → lstK T k < k
  | 0, h => by omega
  | 1, _ => by unfold lstK; split <;> simp [lstK]
  | k + 2, _ => by
    have := lstK_lt T (k + 1) (by omega)
    rw [lstK]
    split <;> omega
theorem lstK_one (T : List Ss) : lstK T 1 = 0 := by unfold lstK; split <;> simp [lstK]
theorem lstK_min (T : List Ss) : ∀ k j, j < k → (at_ T (lstK T k)).o ≤ (at_ T j).o
  | 0, j, h => by omega
  | k + 1, j, h => by
    rw [lstK]
    by_cases h1 : (at_ T k).o < (at_ T (lstK T k)).o
    · rw [if_pos h1]
      rcases Nat.lt_or_ge j k with h2 | h2
      · have := lstK_min T k j h2; omega
      · obtain rfl : j = k := by omega
        omega
    · rw [if_neg h1]
      rcases Nat.lt_or_ge j k with h2 | h2
      · exact lstK_min T k j h2
      · obtain rfl : j = k := by omega
        omega
def lst (T : List Ss) : Nat := lstK T T.length
/-- there is room for one more; who goes for it -/
def room (T : List Ss) : List Ss := if T.length < 3 then T else T.eraseIdx (lst T)
def gone (T : List Ss) : Int := if T.length < 3 then 0 else (at_ T (lst T)).c
theorem room_le {T : List Ss} (h : T.length ≤ 3) : (room T).length ≤ 2 := by
  unfold room
  split
  · omega
  · rw [List.length_eraseIdx]
    have := lstK_lt T T.length (by omega)
    unfold lst
    split <;> omega
theorem room_sub {T : List Ss} {x : Ss} (h : x ∈ room T) : x ∈ T := by
  unfold room at h
  split at h
  · exact h
  · exact List.mem_of_mem_eraseIdx h
def fresh (c o : Int) : Ss := ⟨c, o, 0, o, ⟨#[]⟩⟩
def opnE (T : List Ss) (c o : Int) : Int := if ¬ Fit1 c ∨ ¬ Fit1 o then 1 else if pl T c < T.length then 7 else 0
def opn (T : List Ss) (c o : Int) : List Ss := if opnE T c o = 0 then room T ++ [fresh c o] else T
def opnL (T : List Ss) (c o : Int) : Int := if opnE T c o = 0 then gone T else 0
theorem opnE_zero {T : List Ss} {c o : Int} (h : opnE T c o = 0) : Fit1 c ∧ Fit1 o ∧ ¬ pl T c < T.length := by
  unfold opnE at h
  by_cases h1 : ¬ Fit1 c ∨ ¬ Fit1 o
  · rw [if_pos h1] at h; omega
  · rw [if_neg h1] at h
    by_cases h2 : pl T c < T.length
    · rw [if_pos h2] at h; omega
    · refine ⟨?_, ?_, h2⟩ <;> omega
theorem opn_wf {T : List Ss} (h : WF T) (c o : Int) : WF (opn T c o) := by
  unfold opn
  split
  · rename_i h0
    obtain ⟨h1, h2, h3⟩ := opnE_zero h0
    refine ⟨?_, ?_⟩
    · have := room_le h.le
      rw [List.length_append]; simp; omega
    · intro x hx
      rcases List.mem_append.1 hx with hx | hx
      · exact h.ok x (room_sub hx)
      · rw [List.mem_singleton.1 hx]
        exact ⟨h1, h2, ⟨by show (0 : Int) ≤ 0; omega, by show (0 : Int) ≤ _; omega⟩, ⟨by show 0 ≤ o; omega, h2.2⟩, by show 0 ≤ 200; omega⟩
  · exact h
/-- what a request is -/
def ver (T : List Ss) (c s r : Int) : Int :=
  if ¬ pl T c < T.length then 5 else if (at_ T (pl T c)).s ≠ s then 5 else if r = (at_ T (pl T c)).r + 1 then 1 else if r = (at_ T (pl T c)).r then 2 else if r < (at_ T (pl T c)).r then 3 else 4
def notE (T : List Ss) (c r o : Int) (t : ByteArray) : Int := if ¬ pl T c < T.length then 8 else if ¬ Fit r ∨ ¬ Fit o then 1 else if 200 < t.size then 5 else 0
def noted (x : Ss) (r o : Int) (t : ByteArray) : Ss := ⟨x.c, x.s, r, o, t⟩
def note (T : List Ss) (c r o : Int) (t : ByteArray) : List Ss := if notE T c r o t = 0 then T.set (pl T c) (noted (at_ T (pl T c)) r o t) else T
theorem notE_zero {T : List Ss} {c r o : Int} {t : ByteArray} (h : notE T c r o t = 0) : pl T c < T.length ∧ Fit r ∧ Fit o ∧ t.size ≤ 200 := by
  unfold notE at h
  by_cases h1 : ¬ pl T c < T.length
  · rw [if_pos h1] at h; omega
  rw [if_neg h1] at h
  by_cases h2 : ¬ Fit r ∨ ¬ Fit o
  · rw [if_pos h2] at h; omega
  rw [if_neg h2] at h
  by_cases h3 : 200 < t.size
  · rw [if_pos h3] at h; omega
  refine ⟨?_, ?_, ?_, ?_⟩ <;> omega
theorem set_wf {T : List Ss} (h : WF T) (i : Nat) (y : Ss) (hy : y.ok) : WF (T.set i y) :=
  ⟨by rw [List.length_set]; exact h.le, fun x hx => by
    rcases List.mem_or_eq_of_mem_set hx with hx | rfl
    · exact h.ok x hx
    · exact hy⟩
theorem noted_ok {x : Ss} (h : x.ok) {r o : Int} {t : ByteArray} (hr : Fit r) (ho : Fit o) (ht : t.size ≤ 200) : (noted x r o t).ok := ⟨h.c, h.s, hr, ho, ht⟩
theorem note_wf {T : List Ss} (h : WF T) (c r o : Int) (t : ByteArray) : WF (note T c r o t) := by
  unfold note
  split
  · rename_i h0
    obtain ⟨h1, h2, h3, h4⟩ := notE_zero h0
    refine set_wf h _ _ (noted_ok ?_ h2 h3 h4)
    rw [at_get h1]
    exact h.ok _ (List.getElem_mem h1)
  · exact h

/-! ### an act -/
structure Ab where
  k : Int
  c : Int
  s : Int
  r : Int
  o : Int
  t : ByteArray
def Ab.cells (x : Ab) : List Value := [.int .i64 x.k, .int .i64 x.c, .int .i64 x.s, .int .i64 x.r, .int .i64 x.o, .string x.t]
theorem Ab.len (x : Ab) : x.cells.length = 6 := rfl
def doo (T : List Ss) (x : Ab) : List Ss := if x.k = 1 then opn T x.c x.o else if x.k = 2 then note T x.c x.r x.o x.t else T
def doV (T : List Ss) (x : Ab) : Int := if x.k = 1 then opnL T x.c x.o else if x.k = 2 then 0 else ver T x.c x.s x.r
def doE (T : List Ss) (x : Ab) : Int := if x.k = 1 then opnE T x.c x.o else if x.k = 2 then notE T x.c x.r x.o x.t else 0
theorem doo_wf {T : List Ss} (h : WF T) (x : Ab) : WF (doo T x) := by
  unfold doo
  split
  · exact opn_wf h _ _
  · split
    · exact note_wf h _ _ _ _
    · exact h
def playS (l : List Ab) : List Ss := l.foldl doo []
theorem playS_take (l : List Ab) (k : Nat) (h : k < l.length) : playS (l.take (k + 1)) = doo (playS (l.take k)) l[k] := by
  unfold playS
  rw [List.take_succ_eq_append_getElem h, List.foldl_append]
  rfl
theorem foldl_wf : ∀ (l : List Ab) (T : List Ss), WF T → WF (l.foldl doo T)
  | [], _, h => h
  | x :: l, T, h => foldl_wf l (doo T x) (doo_wf h x)
theorem playS_wf (l : List Ab) : WF (playS l) := foldl_wf l [] nil_wf
/-- what is played: the first sixty -/
def playN (l : List Ab) : List Ss := playS (l.take 60)

/-! ### one of a client -/
theorem one_sub {T U : List Ss} (h : One T) (hs : List.Sublist U T) : One U := by
  have hn : ∀ (L : List Ss), One L ↔ (L.map Ss.c).Nodup := by
    intro L
    rw [List.nodup_iff_pairwise_ne, List.pairwise_iff_getElem]
    constructor
    · intro h i j hi hj hij e
      simp only [List.length_map] at hi hj
      simp only [List.getElem_map] at e
      have := h i j hi hj e
      omega
    · intro h i j hi hj e
      rcases Nat.lt_trichotomy i j with h1 | h1 | h1
      · have q := h i j (by simpa using hi) (by simpa using hj) h1
        rw [List.getElem_map, List.getElem_map] at q
        exact absurd e q
      · exact h1
      · have q := h j i (by simpa using hj) (by simpa using hi) h1
        rw [List.getElem_map, List.getElem_map] at q
        exact absurd e.symm q
  rw [hn] at h ⊢
  exact List.Nodup.sublist (hs.map _) h
theorem one_room {T : List Ss} (h : One T) : One (room T) := by
  unfold room
  split
  · exact h
  · exact one_sub h (List.eraseIdx_sublist _ _)
theorem one_snoc {T : List Ss} (h : One T) (x : Ss) (hx : ∀ y ∈ T, y.c ≠ x.c) : One (T ++ [x]) := by
  have hmem : ∀ i (hi : i < (T ++ [x]).length), (∃ h : i < T.length, (T ++ [x])[i] = T[i]) ∨ (i = T.length ∧ (T ++ [x])[i] = x) := by
    intro i hi
    by_cases h : i < T.length
    · exact .inl ⟨h, List.getElem_append_left h⟩
    · have e : i = T.length := by simp at hi; omega
      subst e
      exact .inr ⟨rfl, by simp⟩
  intro i j hi hj e
  rcases hmem i hi with ⟨hi2, ei⟩ | ⟨hi2, ei⟩
  · rcases hmem j hj with ⟨hj2, ej⟩ | ⟨hj2, ej⟩
    · simp only [ei, ej] at e
      exact h i j hi2 hj2 e
    · simp only [ei, ej] at e
      exact absurd e (hx _ (List.getElem_mem hi2))
  · rcases hmem j hj with ⟨hj2, ej⟩ | ⟨hj2, ej⟩
    · simp only [ei, ej] at e
      exact absurd e.symm (hx _ (List.getElem_mem hj2))
    · omega
theorem one_set {T : List Ss} (h : One T) (i : Nat) (y : Ss) (hi : i < T.length) (hy : y.c = T[i].c) : One (T.set i y) := by
  have hg : ∀ k (hk : k < (T.set i y).length), (T.set i y)[k].c = (T[k]'(by simpa using hk)).c := by
    intro k hk
    rw [List.getElem_set]
    split
    · rename_i e
      subst e
      exact hy
    · rfl
  intro a b ha hb e
  rw [hg a ha, hg b hb] at e
  exact h a b _ _ e
theorem opn_one {T : List Ss} (h : One T) (c o : Int) : One (opn T c o) := by
  unfold opn
  split
  · rename_i h0
    obtain ⟨_, _, h3⟩ := opnE_zero h0
    exact one_snoc (one_room h) _ (fun y hy => pl_no h3 y (room_sub hy))
  · exact h
theorem doo_one {T : List Ss} (h : One T) (x : Ab) : One (doo T x) := by
  unfold doo
  split
  · exact opn_one h _ _
  · split
    · unfold note
      split
      · rename_i h0
        obtain ⟨h1, _⟩ := notE_zero h0
        exact one_set h _ _ h1 (by rw [at_get h1]; rfl)
      · exact h
    · exact h
theorem foldl_one : ∀ (l : List Ab) (T : List Ss), One T → One (l.foldl doo T)
  | [], _, h => h
  | x :: l, T, h => foldl_one l (doo T x) (doo_one h x)
theorem playS_one (l : List Ab) : One (playS l) := foldl_one l [] nil_one

/-! ### as bytes -/
def ssB (x : Ss) : List UInt8 := le x.c.toNat 8 ++ le x.s.toNat 8 ++ le x.r.toNat 8 ++ le x.o.toNat 8 ++ le x.t.size 2 ++ sb x.t
def pack (T : List Ss) : List UInt8 := UInt8.ofNat T.length :: T.flatMap ssB
theorem ssB_len (x : Ss) : (ssB x).length = 34 + x.t.size := by
  unfold ssB
  simp only [List.length_append, le_len, sb_len]
end Go.Proofs.Ytgphijkonmdehaa
