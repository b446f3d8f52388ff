/-
  What the laws share: the acts in their row.
-/
import Derived.Test.YtafbeepacncooaaDoorP13
namespace Go.Proofs.YtafbeepacncooaaDoor
open Go.RowKit
set_option maxRecDepth 10000

theorem rg_below {w w' : World} {g k : Nat} {cs : List Value} (h : w.rangeAt g k cs) (hb : Below w.heap.size w w') : w'.rangeAt g k cs := fun j v hv => (World.cell?_of_block (w := w) (a := ⟨g, k + j, none⟩) (hb.block g (World.block_lt_of_cell? w _ (h j v hv)))).trans (h j v hv)
theorem ActOk.below {x : ActJ} {w w' : World} {A : Option Addr} {l : Nat} (h : ActOk x w A l) (hb : Below w.heap.size w w') : ActOk x w' A l :=
 ⟨h.e, h.n, h.l, fun hne => by
  obtain ⟨g, o, e, hg, hc⟩ := h.rd hne
  exact ⟨g, o, e, Nat.lt_of_lt_of_le hg hb.size, fun j u hu => (World.cell?_of_block (w := w) (a := ⟨g, o + j, none⟩) (hb.block g hg)).trans (hc j u hu)⟩, h.p, h.pn⟩
theorem acts_range {w0 w : World} {A : Option Addr} {XS : List Ac} (h : Rd w0 w0.heap.size A (XS.map Ac.cells).flatten) (hb : Below w0.heap.size w0 w) {k : Nat} (hk : k < XS.length) : ∃ g o, A = some ⟨g, o, none⟩ ∧ w.rangeAt g (o + k * 15) XS[k].cells := by
 have hR : ∀ r ∈ XS.map Ac.cells, r.length = 15 := by
  intro r hr
  obtain ⟨X, _, rfl⟩ := List.mem_map.1 hr
  exact Ac.len X
 have hget : ∀ j, j < 15 → (XS.map Ac.cells).flatten[k * 15 + j]? = XS[k].cells[j]? := fun j hj => by
  rw [flat_get 15 _ k j hR hj, List.getElem?_map, List.getElem?_eq_getElem hk]
  rfl
 obtain ⟨g, o, e, hg, hc⟩ := h (by
  intro e
  have hlen := flat_length 15 (XS.map Ac.cells) hR
  rw [e, List.length_map] at hlen
  simp only [List.length_nil] at hlen
  omega)
 refine ⟨g, o, e, fun j v hv => ?_⟩
 have hj : j < 15 := by
  have := (List.getElem?_eq_some_iff.1 hv).1
  rw [Ac.len] at this
  exact this
 rw [← hget j hj] at hv
 have h1 := hc _ v hv
 rw [Nat.add_assoc]
 exact (World.cell?_of_block (w := w0) (a := ⟨g, o + (k * 15 + j), none⟩) (hb.block g hg)).trans h1
end Go.Proofs.YtafbeepacncooaaDoor
