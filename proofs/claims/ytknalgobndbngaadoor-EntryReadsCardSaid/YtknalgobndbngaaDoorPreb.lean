/-
  More plain lemmas about memory: the new bytes of a text, which bear the run-time's mark behind their last cell.
-/
import Derived.Test.YtknalgobndbngaaDoorPre
import Derived.Laws.IdiomStrings
namespace Go.Proofs.YtknalgobndbngaaDoor
open Go.RowKit

/-- block g holds just the cells cs, and the mark stands behind them -/
def FRow (w : World) (g : Nat) (e : TypeId) (cs : List Value) : Prop := w.heap[g]? = some (.cells cs.toArray e (cs.length, cs.length + 1))
section
variable {w w' : World} {g B : Nat} {e : TypeId} {cs : List Value}
theorem FRow.lt (h : FRow w g e cs) : g < w.heap.size := (Array.getElem?_eq_some_iff.1 h).1
theorem FRow.cell (h : FRow w g e cs) (i : Nat) : w.cell? ⟨g, i, none⟩ = cs[i]? := by
  rw [cell_of_row w g i cs.toArray e _ h]; simp
theorem FRow.frozen (h : FRow w g e cs) (i : Nat) (hi : i < cs.length) : w.frozen? ⟨g, i, none⟩ = false := by
  unfold FRow at h
  simp [World.frozen?, h]
  omega
theorem FRow.below (h : FRow w g e cs) (hb : Below B w w') (hg : g < B) : FRow w' g e cs := (hb.block g hg).trans h
theorem FRow.alloc (h : FRow w g e cs) (o : Obj) : FRow (w.alloc o) g e cs := (Below.heap_alloc w o g h.lt).trans h
theorem FRow.far (h : FRow w g e cs) {p : Addr} (hp : g ≠ p.block) (u : Value) : FRow (w.setCell p u) g e cs := (heap_setCell_other w p g u hp).trans h
theorem FRow.set_ (h : FRow w g e cs) (i : Nat) (u : Value) : FRow (w.setCell ⟨g, i, none⟩ u) g e (cs.set i u) := by
  unfold FRow at h ⊢
  simp [World.setCell, Array.getElem?_modify, h]
theorem FRow.rd (h : FRow w g e cs) (hB : g < B) : Rd w B (some ⟨g, 0, none⟩) cs := fun _ =>
  ⟨g, 0, rfl, hB, fun j u hu => by rw [h.cell]; simpa using hu⟩
end

/-- []byte(s), as a step of the walk -/
theorem wpl_bytes {P : Program} {w : World} {ops : Array Oper} {rest : List Oper} {o : Oper} {a : Act} {Q : Exit → Act → World → Prop} (hgd : o.guard = none) (x : Operand) (src dst : TypeId)
    (ho : o.op = .convert src dst x) (e : TypeId) (hs : P.underlying src = some .string) (hd : P.underlying dst = some (.slice e)) (he : P.underlying e = some (.int .u8))
    (s : ByteArray) (hx : a.eval x = .string s)
    (h : ∀ g c k w', Hid (g = w.heap.size) → Hid (s.size ≤ c) → FRow w' g e (bvs (sb s) ++ List.replicate k (.int .u8 0)) → Below w.heap.size w w' →
      wpList P ops Q rest (a.put o.dst (.slice (some ⟨g, 0, none⟩) s.size c)) w') : wpList P ops Q (o :: rest) a w := by
  refine wpList_plain hgd fun K hK => ?_
  have hrow : bytesRow s (grownCap w s.size 0 e) = (bvs (sb s) ++ List.replicate (grownCap w s.size 0 e - s.size) (Value.int .u8 0)).toArray := by
    apply Array.toList_inj.1
    simp [bytesRow, bvs, sb]
    intro b _
    rfl
  have hlen : (bytesRow s (grownCap w s.size 0 e)).size = (bvs (sb s) ++ List.replicate (grownCap w s.size 0 e - s.size) (Value.int .u8 0)).length := by rw [hrow]; simp
  unfold Oper.wp execOp
  simp only [ho, Sem.run_bind, Sem.run_pure, Result.andThen_ok, hx, run_bytes_of_string w src dst e s hs hd he]
  refine hK _ _ (h w.heap.size _ (grownCap w s.size 0 e - s.size) _ (hid rfl) (hid (grownCap_ge w s.size 0 e)) ?_ ((Below.refl _ _).drew.alloc (Nat.le_refl _) _))
  unfold FRow
  rw [hlen, hrow]
  exact heap_alloc_new _ _
end Go.Proofs.YtknalgobndbngaaDoor
