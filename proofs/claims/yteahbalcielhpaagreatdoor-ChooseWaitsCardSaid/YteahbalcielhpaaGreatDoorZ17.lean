/-
  The program's own table: the signs of each kind's fields.
-/
import Derived.Test.YteahbalcielhpaaGreatDoorZ08
import Derived.Test.YteahbalcielhpaaGreatDoorZ10
namespace Go.Proofs.YteahbalcielhpaaGreatDoor
open Go.ChangeShapes Go.WideShapes Go.ChangeAt Go.WideMaps Go.WideElems Go.RowKit
set_option maxRecDepth 100000

/-- a kind's signs, as bytes -/
def mstr (k : Nat) : List UInt8 := (sgK (k : Int)).map UInt8.ofNat
def mcells : List Value := (List.range 17).map fun k => .string ⟨(mstr k).toArray⟩
theorem mcell (k : Nat) (hk : k < 17) : mcells[k]? = some (.string ⟨(mstr k).toArray⟩) := by
  unfold mcells
  rw [List.getElem?_map, List.getElem?_range hk]
  rfl
/-- the table lies where its initialiser laid it -/
def Md (w : World) : Prop := 0 + 1 ≤ w.heap.size ∧ Rd w (0 + 1) (some ⟨0, 0, none⟩) mcells
theorem Md.below {w w' : World} {B : Nat} (h : Md w) (hb : Below B w w') (hB : 0 + 1 ≤ B) : Md w' :=
  ⟨Nat.le_trans h.1 hb.size, h.2.below hb hB⟩
theorem Md.get {w : World} {k : Nat} (h : Md w) (hk : k < 17) : w.cell? ⟨0, k, none⟩ = some (.string ⟨(mstr k).toArray⟩) := by
  obtain ⟨g, o, e, _, hc⟩ := h.2 (by simp [mcells, List.range_succ])
  cases e
  simpa using hc _ _ (mcell k hk)
theorem gMsgF : Tryz.prog.globalNamed "comptor/msg.fields" = some 0 := by kernel_rfl
theorem tMsgF : (Tryz.prog.globals[0]?).map (·.type) = some 85 := by kernel_rfl
theorem cellsMsgF : Tryz.prog.cellsOf 85 = 17 := by kernel_rfl
theorem cellsStrF : Tryz.prog.cellsOf 9 = 1 := by kernel_rfl
theorem md_of_laid {W : World} (h : laidMetH Tryz.prog [("comptor/head.fields", Rows.laid_comptor_head_fields), ("comptor/msg.fields", Rows.laid_comptor_msg_fields)] W) : Md W := by
  rw [MakeChecks.laidMetH_plain _ _ _ (by kernel_rfl)] at h
  obtain ⟨ps, ⟨g1, t1, cs1, f1, p1, q1, hg1, ht1, hv1, hd1, ⟨g0, t0, cs0, f0, p0, q0, hg0, ht0, hv0, hd0, _, _⟩, _⟩, _, _⟩ := h
  obtain rfl := Option.some.inj (gMsgF.symm.trans hg0)
  obtain rfl := Option.some.inj (tMsgF.symm.trans ht0)
  obtain ⟨xs, m1, h1, hx1, hlen, hn3, hel⟩ := DataW.trod_array Tryz.underlying85 hd0
  rw [cellsMsgF] at hlen
  have hlen2 : cs0.size = 17 := by simpa using hlen
  have hdat : (Rows.laid_comptor_msg_fields (H := Unit)) = .agg ((List.range 17).map fun i => .lit (.string (mstr i))) := rfl
  rw [hdat] at hx1
  simp only [Prod.mk.injEq, DataW.agg.injEq] at hx1
  have hcell : ∀ i, i < 17 → (cs0.toList.drop (i * 1)).take 1 = [.string ⟨(mstr i).toArray⟩] := by
    intro i hi
    have he := hel i hi
    rw [cellsStrF] at he
    obtain ⟨y, hy⟩ : ∃ y, xs[i]? = some y := ⟨_, List.getElem?_eq_getElem (by omega)⟩
    have h2 := congrArg (fun l : List (DataW Unit) => l[i]?) hx1.1
    simp only [List.getElem?_map, hy, Option.map_some, List.getElem?_range hi] at h2
    obtain ⟨y1, y2⟩ := y
    have h3 := (Option.some.inj h2)
    simp only at h3
    rw [hy, ← h3] at he
    obtain ⟨s, hs, hl, _⟩ := DataW.trod_string Tryz.underlying9 he
    rw [hs]
    have hl2 := congrArg Prod.fst hl
    simp only [DataW.lit.injEq, Lit.string.injEq] at hl2
    rw [hl2]
  have hcells : ∀ j u, mcells[j]? = some u → W.cell? ⟨0, j, none⟩ = some u := by
    intro j u hu
    have hj : j < 17 := by
      have := (List.getElem?_eq_some_iff.1 hu).1
      simpa [mcells] using this
    have h1 := World.var?_cell gMsgF hv0 j
    rw [h1]
    rw [mcell j hj] at hu
    have h2 := congrArg (fun l : List Value => l[0]?) (hcell j hj)
    simp only [List.getElem?_take, List.getElem?_drop, Nat.mul_one, Nat.add_zero] at h2
    rw [if_pos (by omega)] at h2
    simpa using h2.trans hu
  have h0 := World.block_lt_of_cell? W _ (hcells 0 _ (mcell 0 (by omega)))
  exact ⟨h0, fun _ => ⟨0, 0, rfl, by omega, fun j u hu => by rw [Nat.zero_add]; exact hcells j u hu⟩⟩
end Go.Proofs.YteahbalcielhpaaGreatDoor
