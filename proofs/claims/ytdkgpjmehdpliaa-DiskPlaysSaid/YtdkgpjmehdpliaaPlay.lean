/-
  What a call does to a disk, in plain words: how many steps, which writes; what a loss of power leaves.
-/
import Derived.Test.YtdkgpjmehdpliaaDoes
namespace Go.Proofs.Ytdkgpjmehdpliaa
open Go.RowKit

theorem Sp.goes_way (S : Sp) : S.goes.1.way = S.way ∧ S.goes.1.secs = S.secs ∧ S.goes.1.count ≤ S.count + 1 := by
  cases ho : S.on with
  | false => rw [Sp.goes_off ho]; exact ⟨rfl, rfl, by simp⟩
  | true =>
    by_cases h1 : S.left = 1
    · rw [Sp.goes_one ho h1]; exact ⟨rfl, rfl, by simp⟩
    · rw [Sp.goes_more ho h1]; exact ⟨rfl, rfl, by simp⟩

/-- what is behind a call -/
structure Did (S : Sp) (x : Act0) (S' : Sp) (e : Int) : Prop where
  count : S'.count ≤ S.count + 1
  size : S'.secs.length = S.secs.length
  put : x.kind = 1 → e = 0 → 0 ≤ x.i ∧ S'.way = S.way ++ [⟨x.i.toNat, x.bytes⟩]
  keep : ¬ (x.kind = 1 ∧ e = 0) → S'.way = S.way ∨ S'.way = []
  all : (x.kind = 2 ∨ x.kind = 5) → e = 0 → S'.way = []
theorem did (S : Sp) (x : Act0) : Did S x (S.does x).1 (S.does x).2 := by
  have hg := S.goes_way
  unfold Sp.does
  by_cases h1 : x.kind = 1
  · rw [if_pos h1]
    unfold Sp.write
    by_cases h2 : ¬ S.is x.i ∨ x.bytes.length ≠ 384
    · rw [if_pos h2]
      exact ⟨by simp, rfl, fun _ h => by simp at h, fun _ => .inl rfl, fun h => by omega⟩
    · rw [if_neg h2]
      have hi : S.is x.i := Classical.byContradiction fun h => h2 (.inl h)
      by_cases h0 : S.goes.2 = 0
      · rw [if_pos h0]
        exact ⟨hg.2.2, by simp [hg.2.1], fun _ _ => ⟨hi.1, rfl⟩, fun h => absurd ⟨h1, rfl⟩ h, fun h => by omega⟩
      · rw [if_neg h0]
        exact ⟨hg.2.2, by rw [hg.2.1], fun _ h => absurd h h0, fun _ => .inl hg.1, fun h => by omega⟩
  rw [if_neg h1]
  by_cases h2 : x.kind = 2
  · rw [if_pos h2]
    unfold Sp.flush
    by_cases h0 : S.goes.2 = 0
    · rw [if_pos h0]
      exact ⟨hg.2.2, by simp [sett_length], fun h => absurd h h1, fun _ => .inr rfl, fun _ _ => rfl⟩
    · rw [if_neg h0]
      exact ⟨hg.2.2, by rw [hg.2.1], fun h => absurd h h1, fun _ => .inl hg.1, fun _ h => absurd h h0⟩
  rw [if_neg h2]
  by_cases h3 : x.kind = 3
  · rw [if_pos h3]
    unfold Sp.fuse
    split
    · exact ⟨by simp, rfl, fun h => absurd h h1, fun _ => .inl rfl, fun h => by omega⟩
    · exact ⟨by simp, rfl, fun h => absurd h h1, fun _ => .inl rfl, fun h => by omega⟩
  rw [if_neg h3]
  by_cases h4 : x.kind = 4
  · rw [if_pos h4]
    unfold Sp.cut
    split
    · exact ⟨by simp, rfl, fun h => absurd h h1, fun _ => .inl rfl, fun h => by omega⟩
    · exact ⟨by simp, rfl, fun h => absurd h h1, fun _ => .inl rfl, fun h => by omega⟩
  rw [if_neg h4]
  by_cases h5 : x.kind = 5
  · rw [if_pos h5]
    unfold Sp.start
    split
    · exact ⟨by simp, rfl, fun h => absurd h h1, fun _ => .inl rfl, fun _ h => by simp at h⟩
    · exact ⟨by simp, by simp [sett_length], fun h => absurd h h1, fun _ => .inr rfl, fun _ _ => rfl⟩
  rw [if_neg h5]
  by_cases h6 : x.kind = 6
  · rw [if_pos h6]
    unfold Sp.rot
    split
    · exact ⟨by simp, rfl, fun h => absurd h h1, fun _ => .inl rfl, fun h => by omega⟩
    split
    · exact ⟨by simp, rfl, fun h => absurd h h1, fun _ => .inl rfl, fun h => by omega⟩
    split
    · exact ⟨by simp, rfl, fun h => absurd h h1, fun _ => .inl rfl, fun h => by omega⟩
    · exact ⟨by simp, by simp, fun h => absurd h h1, fun _ => .inl rfl, fun h => by omega⟩
  rw [if_neg h6]
  exact ⟨by simp, rfl, fun h => absurd h h1, fun _ => .inl rfl, fun h => by omega⟩

/-- no write of sector i is under way -/
def NoW (S : Sp) (i : Int) : Prop := ∀ x ∈ S.way, (x.place : Int) ≠ i
/-- the law's own flag, behind a call -/
def nextW (b : Bool) (x : Act0) (i e : Int) : Bool :=
  if (x.kind = 2 ∨ x.kind = 5) ∧ e = 0 then false else if x.kind = 1 ∧ x.i = i ∧ e = 0 then true else b
theorem nw_step {S S' : Sp} {x : Act0} {i e : Int} {b : Bool} (hb : b = false → NoW S i) (hd : Did S x S' e) : nextW b x i e = false → NoW S' i := by
  intro hn
  unfold nextW at hn
  by_cases h2 : (x.kind = 2 ∨ x.kind = 5) ∧ e = 0
  · intro y hy
    rw [hd.all h2.1 h2.2] at hy
    cases hy
  · rw [if_neg h2] at hn
    by_cases h1 : x.kind = 1 ∧ x.i = i ∧ e = 0
    · rw [if_pos h1] at hn; cases hn
    · rw [if_neg h1] at hn
      have hw := hb hn
      by_cases h3 : x.kind = 1 ∧ e = 0
      · obtain ⟨h0, h4⟩ := hd.put h3.1 h3.2
        intro y hy
        rw [h4] at hy
        rcases List.mem_append.1 hy with hy | hy
        · exact hw y hy
        · simp at hy
          subst hy
          intro he
          apply h1
          refine ⟨h3.1, ?_, h3.2⟩
          simp only at he
          omega
      · intro y hy
        rcases hd.keep h3 with h4 | h4
        · rw [h4] at hy; exact hw y hy
        · rw [h4] at hy; cases hy

theorem sett_other (F : Nat → Nat) (way : List Wr) (secs : List Sec) (j : Nat) : (∀ x ∈ way, x.place ≠ j) → (sett F way secs)[j]? = secs[j]? := by
  refine snoc_ind (p := fun way => (∀ x ∈ way, x.place ≠ j) → (sett F way secs)[j]? = secs[j]?) (fun _ => rfl) ?_ way
  intro l x ih h
  rw [sett_snoc, List.getElem?_modify]
  have := h x (by simp)
  simp only [if_neg this]
  simpa using ih (fun y hy => h y (by simp [hy]))
theorem read_on {S : Sp} {k : Nat} (hi : S.is k) (ho : S.on = true) : S.read k = (lastw S.way k (S.secs.getD k ⟨[], false⟩).lasts, 0) := by
  unfold Sp.read
  rw [if_neg (fun h => h hi), if_neg (by simp [ho])]
  rfl
theorem read_bad {S : Sp} {i : Int} (hi : ¬ S.is i) : S.read i = ([], 1) := by
  unfold Sp.read
  rw [if_pos hi]
/-- behind a loss of power sector i reads as it did -/
theorem read_after {S : Sp} {i : Int} (picks : List Int) (hw : NoW S i) (ho : S.on = true) :
    (({ S with secs := sett (pickOf picks) S.way S.secs, way := [], on := true, left := 0 } : Sp).read i) = S.read i := by
  have e1 : ({ S with secs := sett (pickOf picks) S.way S.secs, way := [], on := true, left := 0 } : Sp).is i ↔ S.is i := by
    unfold Sp.is
    simp [sett_length]
  by_cases hi : S.is i
  · obtain ⟨k, rfl⟩ := Int.eq_ofNat_of_zero_le hi.1
    rw [read_on hi ho, read_on (e1.2 hi) rfl]
    have hn : ∀ x ∈ S.way, x.place ≠ k := fun x hx he => hw x hx (by omega)
    have h1 := sett_other (pickOf picks) S.way S.secs k hn
    rcases newest_get S.way k (S.secs.getD k ⟨[], false⟩).lasts with ⟨_, h2, _⟩ | ⟨j, _, hj, h3, _⟩
    · rw [h2]
      simp only [lastw, List.foldl_nil, List.getD, h1]
    · exact absurd h3 (hn _ (List.getElem_mem hj))
  · rw [read_bad hi, read_bad (fun h => hi (e1.1 h))]
end Go.Proofs.Ytdkgpjmehdpliaa
