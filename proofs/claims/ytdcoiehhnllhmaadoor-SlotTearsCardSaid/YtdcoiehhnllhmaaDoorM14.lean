/-
  What a disk is and does, as plain functions: sectors, writes under way; rows of equal width laid end to end.
-/
import Derived.Test.YtdcoiehhnllhmaaDoorM08
import Derived.Test.YtdcoiehhnllhmaaDoorM01
namespace Go.Proofs.YtdcoiehhnllhmaaDoor
open Go.RowKit

structure Sec where
  lasts : List UInt8
  marked : Bool
structure Wr where
  place : Nat
  bytes : List UInt8
structure Sp where
  secs : List Sec
  way : List Wr
  on : Bool
  left : Nat
  count : Nat
/-- all that is there has its size -/
structure Sp.WF (S : Sp) : Prop where
  len : ∀ s ∈ S.secs, s.lasts.length = 384
  way : ∀ x ∈ S.way, x.place < S.secs.length ∧ x.bytes.length = 384
  few : S.secs.length ≤ 64
  left : S.left ≤ 9223372036854775807
  less : S.way.length ≤ S.count
/-- the place, from 1 on, of the last write of sector i; 0: there is none -/
def newest (way : List Wr) (i : Nat) : Nat := (way.foldl (fun a x => (a.1 + 1, if x.place = i then a.1 + 1 else a.2)) (0, 0)).2
/-- the bytes of the last write of sector i, or d -/
def lastw (way : List Wr) (i : Nat) (d : List UInt8) : List UInt8 := way.foldl (fun a x => if x.place = i then x.bytes else a) d
theorem newest_fst (way : List Wr) (i : Nat) : ∀ a, (way.foldl (fun a x => (a.1 + 1, if x.place = i then a.1 + 1 else a.2)) a).1 = a.1 + way.length := by
  induction way with
  | nil => intro a; simp
  | cons x r ih => intro a; rw [List.foldl_cons, ih]; simp only [List.length_cons]; omega
theorem newest_nil (i : Nat) : newest [] i = 0 := rfl
theorem newest_snoc (way : List Wr) (x : Wr) (i : Nat) : newest (way ++ [x]) i = if x.place = i then way.length + 1 else newest way i := by
  unfold newest
  rw [List.foldl_append, List.foldl_cons, List.foldl_nil]
  have := newest_fst way i (0, 0)
  simp only [Nat.zero_add] at this
  simp only [this]
theorem lastw_snoc (way : List Wr) (x : Wr) (i : Nat) (d : List UInt8) : lastw (way ++ [x]) i d = if x.place = i then x.bytes else lastw way i d := by
  unfold lastw
  rw [List.foldl_append, List.foldl_cons, List.foldl_nil]
theorem snoc_ind {α : Type} {p : List α → Prop} (h0 : p []) (h1 : ∀ l x, p l → p (l ++ [x])) : ∀ l, p l := by
  intro l
  have h : ∀ r : List α, p r.reverse := by
    intro r
    induction r with
    | nil => exact h0
    | cons x r ih => rw [List.reverse_cons]; exact h1 _ _ ih
  simpa using h l.reverse
theorem newest_le (way : List Wr) (i : Nat) : newest way i ≤ way.length := by
  refine snoc_ind (p := fun way => newest way i ≤ way.length) (by simp [newest_nil]) ?_ way
  intro l x ih
  rw [newest_snoc]
  split <;> simp <;> omega
/-- what the newest write of a sector is -/
theorem newest_get (way : List Wr) (i : Nat) (d : List UInt8) : (newest way i = 0 ∧ lastw way i d = d ∧ ∀ x ∈ way, x.place ≠ i) ∨ (∃ k, newest way i = k + 1 ∧ ∃ h : k < way.length, way[k].place = i ∧ way[k].bytes = lastw way i d) := by
  refine snoc_ind (p := fun way => (newest way i = 0 ∧ lastw way i d = d ∧ ∀ x ∈ way, x.place ≠ i) ∨ (∃ k, newest way i = k + 1 ∧ ∃ h : k < way.length, way[k].place = i ∧ way[k].bytes = lastw way i d)) (.inl ⟨rfl, rfl, by simp⟩) ?_ way
  intro l x ih
  rw [newest_snoc, lastw_snoc]
  by_cases hx : x.place = i
  · rw [if_pos hx, if_pos hx]
    exact .inr ⟨l.length, rfl, by simp, by simpa using hx, by simp⟩
  · rw [if_neg hx, if_neg hx]
    rcases ih with ⟨h1, h2, h3⟩ | ⟨k, h1, h2, h3, h4⟩
    · refine .inl ⟨h1, h2, ?_⟩
      intro y hy
      rcases List.mem_append.1 hy with hy | hy
      · exact h3 y hy
      · simp at hy; subst hy; exact hx
    · refine .inr ⟨k, h1, by simp; omega, ?_, ?_⟩
      · rw [List.getElem_append_left h2]; exact h3
      · rw [List.getElem_append_left h2]; exact h4
theorem newest_zero (way : List Wr) (i : Nat) : newest way i = 0 ↔ ∀ x ∈ way, x.place ≠ i := by
  rcases newest_get way i [] with ⟨h1, _, h3⟩ | ⟨k, h1, h2, h3, _⟩
  · exact ⟨fun _ => h3, fun _ => h1⟩
  · rw [h1]
    exact ⟨fun h => by omega, fun h => absurd h3 (h _ (List.getElem_mem h2))⟩
/-- how many bytes of a write last, by a pick -/
def keptS (pick : Int) : Nat := if pick < 0 ∨ pick % 3 = 0 then 0 else if pick % 3 = 1 then 384 else (pick / 3 % 385).toNat
theorem keptS_le (p : Int) : keptS p ≤ 384 := by unfold keptS; split <;> (try split) <;> omega
def pickOf (picks : List Int) (k : Nat) : Nat := if picks = [] then 0 else keptS (picks.getD (k % picks.length) 0)
theorem pickOf_le (picks : List Int) (k : Nat) : pickOf picks k ≤ 384 := by
  unfold pickOf
  split
  · omega
  · exact keptS_le _
/-- of a write the first c bytes last -/
def takeS3 (s : Sec) (b : List UInt8) (c : Nat) : Sec := ⟨b.take c ++ s.lasts.drop c, if c = 0 then s.marked else decide (c < 384)⟩
/-- the writes, in order; of the k-th F k bytes last -/
def sett (F : Nat → Nat) (way : List Wr) (secs : List Sec) : List Sec :=
  (way.foldl (fun (a : Nat × List Sec) x => (a.1 + 1, a.2.modify x.place (fun s => takeS3 s x.bytes (F a.1)))) (0, secs)).2
theorem sett_fst (F : Nat → Nat) (way : List Wr) : ∀ a : Nat × List Sec, (way.foldl (fun (a : Nat × List Sec) x => (a.1 + 1, a.2.modify x.place (fun s => takeS3 s x.bytes (F a.1)))) a).1 = a.1 + way.length := by
  induction way with
  | nil => intro a; simp
  | cons x r ih => intro a; rw [List.foldl_cons, ih]; simp only [List.length_cons]; omega
theorem sett_nil (F : Nat → Nat) (secs : List Sec) : sett F [] secs = secs := rfl
theorem sett_snoc (F : Nat → Nat) (way : List Wr) (x : Wr) (secs : List Sec) : sett F (way ++ [x]) secs = (sett F way secs).modify x.place (fun s => takeS3 s x.bytes (F way.length)) := by
  unfold sett
  rw [List.foldl_append, List.foldl_cons, List.foldl_nil]
  have := sett_fst F way (0, secs)
  simp only [Nat.zero_add] at this
  simp only [this]
theorem sett_length (F : Nat → Nat) (way : List Wr) (secs : List Sec) : (sett F way secs).length = secs.length := by
  refine snoc_ind (p := fun way => (sett F way secs).length = secs.length) rfl ?_ way
  intro l x ih
  rw [sett_snoc, List.length_modify, ih]
theorem sett_wf (F : Nat → Nat) (hF : ∀ k, F k ≤ 384) (way : List Wr) (secs : List Sec) (h : ∀ s ∈ secs, s.lasts.length = 384) (hw : ∀ x ∈ way, x.bytes.length = 384) : ∀ s ∈ sett F way secs, s.lasts.length = 384 := by
  revert hw
  refine snoc_ind (p := fun way => (∀ x ∈ way, x.bytes.length = 384) → ∀ s ∈ sett F way secs, s.lasts.length = 384) (fun _ => h) ?_ way
  intro l x ih hw s hs
  rw [sett_snoc] at hs
  have ih' := ih (fun x hx => hw x (by simp [hx]))
  obtain ⟨j, hj, hje⟩ := List.getElem_of_mem hs
  rw [List.getElem_modify] at hje
  split at hje
  · subst hje
    have h1 := hw x (by simp)
    have h2 := hF l.length
    have h3 := ih' _ (List.getElem_mem (by simpa using hj))
    simp only [takeS3, List.length_append, List.length_take, List.length_drop, h1, h3]
    omega
  · subst hje
    exact ih' _ (List.getElem_mem (by simpa using hj))
def Sp.is (S : Sp) (i : Int) : Prop := 0 ≤ i ∧ i < (S.secs.length : Int)
instance (S : Sp) (i : Int) : Decidable (S.is i) := by unfold Sp.is; infer_instance
/-- a call that counts -/
def Sp.goes (S : Sp) : Sp × Int :=
  if S.on = false then (S, 6)
  else if S.left = 1 then ({ S with on := false, left := 0, count := S.count + 1 }, 6)
  else ({ S with left := S.left - 1, count := S.count + 1 }, 0)
def Sp.write (S : Sp) (i : Int) (s : List UInt8) : Sp × Int :=
  if ¬ S.is i ∨ s.length ≠ 384 then (S, 1)
  else if S.goes.2 = 0 then ({ S.goes.1 with way := S.way ++ [⟨i.toNat, s⟩] }, 0) else S.goes
def Sp.flush (S : Sp) : Sp × Int :=
  if S.goes.2 = 0 then ({ S.goes.1 with secs := sett (fun _ => 384) S.way S.secs, way := [] }, 0) else S.goes
def Sp.fuse (S : Sp) (n : Int) : Sp × Int := if S.on = false then (S, 6) else ({ S with left := n.toNat }, 0)
def Sp.cut (S : Sp) : Sp × Int := if S.on = false then (S, 6) else ({ S with on := false, left := 0 }, 0)
def Sp.start (S : Sp) (picks : List Int) : Sp × Int :=
  if S.on = true then (S, 10) else ({ S with secs := sett (pickOf picks) S.way S.secs, way := [], on := true }, 0)
def turnS (s : Sec) (at_ : Nat) (m : Nat) : Sec := ⟨s.lasts.set at_ (s.lasts.getD at_ 0 ^^^ UInt8.ofNat m), true⟩
def Sp.rot (S : Sp) (i at_ m : Int) : Sp × Int :=
  if ¬ S.is i ∨ at_ < 0 ∨ 384 ≤ at_ ∨ m < 1 ∨ 255 < m then (S, 1)
  else if newest S.way i.toNat ≠ 0 then (S, 10)
  else if (S.secs.getD i.toNat ⟨[], false⟩).marked = true then (S, 7)
  else ({ S with secs := S.secs.modify i.toNat (fun s => turnS s at_.toNat m.toNat) }, 0)
def Sp.read (S : Sp) (i : Int) : List UInt8 × Int :=
  if ¬ S.is i then ([], 1) else if S.on = false then ([], 6)
  else (lastw S.way i.toNat (S.secs.getD i.toNat ⟨[], false⟩).lasts, 0)
def b384 (c : UInt8) : List UInt8 := List.replicate 384 c
theorem b384_len (c : UInt8) : (b384 c).length = 384 := List.length_replicate
def sec0 : Sec := ⟨b384 0, false⟩
theorem sec0_len : sec0.lasts.length = 384 := b384_len 0
def Sp.mk0 (n : Nat) : Sp := ⟨List.replicate n sec0, [], true, 0, 0⟩
/-! ### Rows of equal width, end to end -/
theorem flat_length (n : Nat) : ∀ (R : List (List Value)), (∀ r ∈ R, r.length = n) → R.flatten.length = R.length * n
  | [], _ => by simp
  | r :: R, h => by
    rw [List.flatten_cons, List.length_append, flat_length n R (fun r hr => h r (by simp [hr])), h r (by simp), List.length_cons, Nat.add_mul]
    omega
theorem flat_get (n : Nat) : ∀ (R : List (List Value)) (i j : Nat), (∀ r ∈ R, r.length = n) → j < n → R.flatten[i * n + j]? = R[i]?.bind (·[j]?)
  | [], i, j, _, _ => by simp
  | r :: R, 0, j, h, hj => by
    have := h r (by simp)
    rw [List.flatten_cons, Nat.zero_mul, Nat.zero_add, List.getElem?_append_left (by omega)]
    simp
  | r :: R, i + 1, j, h, hj => by
    have h1 := h r (by simp)
    rw [List.flatten_cons, List.getElem?_append_right (by rw [h1, Nat.add_mul]; omega), List.getElem?_cons_succ, ← flat_get n R i j (fun r hr => h r (by simp [hr])) hj, h1]
    congr 1
    rw [Nat.add_mul]
    omega
theorem flat_splice (n : Nat) : ∀ (R : List (List Value)) (i o : Nat) (cs : List Value) (hi : i < R.length), (∀ r ∈ R, r.length = n) → o + cs.length ≤ n →
    splice R.flatten (i * n + o) cs = (R.set i (splice R[i] o cs)).flatten
  | [], i, o, cs, hi, _, _ => absurd hi (by simp)
  | r :: R, 0, o, cs, _, h, hj => by
    have := h r (by simp)
    simp only [List.set_cons_zero, List.flatten_cons, List.getElem_cons_zero, Nat.zero_mul, Nat.zero_add, splice]
    rw [List.take_append_of_le_length (by omega), List.drop_append_of_le_length (by omega)]
    simp
  | r :: R, i + 1, o, cs, hi, h, hj => by
    have h1 := h r (by simp)
    have ih := flat_splice n R i o cs (by simpa using hi) (fun r hr => h r (by simp [hr])) hj
    simp only [List.set_cons_succ, List.flatten_cons, List.getElem_cons_succ]
    rw [← ih]
    have e : (i + 1) * n + o = r.length + (i * n + o) := by rw [h1, Nat.add_mul]; omega
    simp only [splice, e]
    rw [List.take_length_add_append, Nat.add_assoc, List.drop_length_add_append]
    simp
theorem flat_set (n : Nat) : ∀ (R : List (List Value)) (i j : Nat) (u : Value) (hi : i < R.length), (∀ r ∈ R, r.length = n) → j < n → R.flatten.set (i * n + j) u = (R.set i (R[i].set j u)).flatten
  | [], i, j, u, hi, _, _ => absurd hi (by simp)
  | r :: R, 0, j, u, _, h, hj => by
    have := h r (by simp)
    simp only [List.set_cons_zero, List.flatten_cons, List.getElem_cons_zero, Nat.zero_mul, Nat.zero_add]
    rw [List.set_append_left _ _ (by omega)]
  | r :: R, i + 1, j, u, hi, h, hj => by
    have h1 := h r (by simp)
    have ih := flat_set n R i j u (by simpa using hi) (fun r hr => h r (by simp [hr])) hj
    simp only [List.set_cons_succ, List.flatten_cons, List.getElem_cons_succ]
    rw [← ih, List.set_append_right _ _ (by rw [h1, Nat.add_mul]; omega), h1]
    congr 2
    rw [Nat.add_mul]
    omega
/-! ### A sector's cells, a write's cells -/
def secCells (s : Sec) (n : Nat) : List Value := bvs s.lasts ++ [.bool s.marked, .int .i64 (n : Int)]
def wrCells (x : Wr) : List Value := .int .i64 (x.place : Int) :: bvs x.bytes
/-- all sectors' cells: their newest writes by f -/
def secRows (secs : List Sec) (f : Nat → Nat) : List (List Value) := secs.mapIdx (fun i s => secCells s (f i))
def wrRows (way : List Wr) : List (List Value) := way.map wrCells
theorem secCells_len (s : Sec) (n : Nat) (h : s.lasts.length = 384) : (secCells s n).length = 386 := by simp [secCells, bvs_len, h]
theorem secRows_len (secs : List Sec) (f : Nat → Nat) (h : ∀ s ∈ secs, s.lasts.length = 384) : ∀ r ∈ secRows secs f, r.length = 386 := by
  intro r hr
  obtain ⟨i, hi, rfl⟩ := List.mem_mapIdx.1 hr
  exact secCells_len _ _ (h _ (List.getElem_mem hi))
theorem secRows_n (secs : List Sec) (f : Nat → Nat) : (secRows secs f).length = secs.length := by simp [secRows]
theorem secRows_get (secs : List Sec) (f : Nat → Nat) (i : Nat) (hi : i < secs.length) : (secRows secs f)[i]'(by simpa [secRows] using hi) = secCells secs[i] (f i) := by simp [secRows]
theorem wrRows_len (way : List Wr) (h : ∀ x ∈ way, x.bytes.length = 384) : ∀ r ∈ wrRows way, r.length = 385 := by
  intro r hr
  obtain ⟨x, hx, rfl⟩ := List.mem_map.1 hr
  simp [wrCells, bvs_len, h x hx]
theorem wrRows_n (way : List Wr) : (wrRows way).length = way.length := by simp [wrRows]
/-- sector i is turned, its newest write too -/
theorem secRows_set (secs : List Sec) (f f' : Nat → Nat) (i : Nat) (s : Sec) (n : Nat) (hi : i < secs.length) (hn : n = f' i) (hf : ∀ j, j ≠ i → f' j = f j) :
    (secRows secs f).set i (secCells s n) = secRows (secs.set i s) f' := by
  apply List.ext_getElem?
  intro j
  simp only [secRows, List.getElem?_set, List.getElem?_mapIdx, List.length_mapIdx]
  by_cases h : i = j
  · subst h; simp [hi, hn]
  · simp [h, hf j (Ne.symm h)]
/-- the cells of sector i -/
theorem sec_cell (secs : List Sec) (f : Nat → Nat) (h : ∀ s ∈ secs, s.lasts.length = 384) (i j : Nat) (hi : i < secs.length) (hj : j < 386) : (secRows secs f).flatten[i * 386 + j]? = (secCells secs[i] (f i))[j]? := by
  rw [flat_get 386 _ i j (secRows_len secs f h) hj, List.getElem?_eq_getElem (by simpa [secRows] using hi), secRows_get secs f i hi]
  rfl
theorem sec_marked (secs : List Sec) (f : Nat → Nat) (h : ∀ s ∈ secs, s.lasts.length = 384) (i : Nat) (hi : i < secs.length) : (secRows secs f).flatten[i * 386 + 384]? = some (.bool secs[i].marked) := by
  rw [sec_cell secs f h i 384 hi (by omega), secCells, List.getElem?_append_right (by rw [bvs_len, h _ (List.getElem_mem hi)]; omega), bvs_len, h _ (List.getElem_mem hi)]
  rfl
theorem sec_newest (secs : List Sec) (f : Nat → Nat) (h : ∀ s ∈ secs, s.lasts.length = 384) (i : Nat) (hi : i < secs.length) : (secRows secs f).flatten[i * 386 + 385]? = some (.int .i64 (f i : Int)) := by
  rw [sec_cell secs f h i 385 hi (by omega), secCells, List.getElem?_append_right (by rw [bvs_len, h _ (List.getElem_mem hi)]; omega), bvs_len, h _ (List.getElem_mem hi)]
  rfl
theorem sec_byte (secs : List Sec) (f : Nat → Nat) (h : ∀ s ∈ secs, s.lasts.length = 384) (i j : Nat) (hi : i < secs.length) (hj : j < 384) : (secRows secs f).flatten[i * 386 + j]? = (bvs secs[i].lasts)[j]? := by
  rw [sec_cell secs f h i j hi (by omega), secCells, List.getElem?_append_left (by rw [bvs_len, h _ (List.getElem_mem hi)]; omega)]
theorem wr_cell (way : List Wr) (h : ∀ x ∈ way, x.bytes.length = 384) (k j : Nat) (hk : k < way.length) (hj : j < 385) : (wrRows way).flatten[k * 385 + j]? = (wrCells way[k])[j]? := by
  rw [flat_get 385 _ k j (wrRows_len way h) hj, List.getElem?_eq_getElem (by simpa [wrRows] using hk)]
  simp [wrRows]
theorem cells_one_sec (s : Sec) (n : Nat) : ∀ u ∈ secCells s n, u.oneCell' = true := by
  intro u hu
  simp only [secCells, List.mem_append, List.mem_cons, List.not_mem_nil, or_false] at hu
  rcases hu with hu | rfl | rfl
  · exact bvs_one _ u hu
  · rfl
  · rfl
theorem cells_one_wr (x : Wr) : ∀ u ∈ wrCells x, u.oneCell' = true := by
  intro u hu
  simp only [wrCells, List.mem_cons] at hu
  rcases hu with rfl | hu
  · rfl
  · exact bvs_one _ u hu
end Go.Proofs.YtdcoiehhnllhmaaDoor
