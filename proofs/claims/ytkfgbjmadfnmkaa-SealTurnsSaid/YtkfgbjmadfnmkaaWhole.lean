/-
  The walk of the law's whole: a sector of any bytes. The bytes of a text are made longer, which bear the run-time's mark.
-/
import Derived.Test.YtkfgbjmadfnmkaaBlend
namespace Go.Proofs.Ytkfgbjmadfnmkaa
open Go.RowKit
set_option maxRecDepth 10000

/-- bytes of the call's own, marked behind their capacity or not -/
def OwnM (w : World) (B : Nat) (v : Value) (bs : List UInt8) : Prop :=
  ∃ (g cap : Nat) (cur : Array Value) (fr : Nat × Nat), v = .slice (some ⟨g, 0, none⟩) bs.length cap ∧ B ≤ g ∧ w.heap[g]? = some (.cells cur 5 fr) ∧ bs.length ≤ cap ∧ cur.size = cap ∧
    cur.toList.take bs.length = bvs bs ∧ (fr = (0, 0) ∨ fr = (cap, cap + 1))

theorem FRow.ownM {w : World} {g k B c : Nat} {bs : List UInt8} (h : FRow w g 5 (bvs bs ++ List.replicate k (.int .u8 0))) (hB : B ≤ g) (hc : c = bs.length + k) : OwnM w B (.slice (some ⟨g, 0, none⟩) bs.length c) bs := by
  subst hc
  have hl : (bvs bs ++ List.replicate k (Value.int .u8 0)).length = bs.length + k := by simp [bvs_len]
  unfold FRow at h
  rw [hl] at h
  refine ⟨g, _, _, _, rfl, hB, h, by omega, by simp [bvs_len], ?_, .inr rfl⟩
  rw [← bvs_len]
  exact List.take_left
theorem OwnM.alloc {w : World} {B : Nat} {v : Value} {bs : List UInt8} (h : OwnM w B v bs) (o : Obj) : OwnM (w.alloc o) B v bs := by
  obtain ⟨g, cap, cur, fr, e, hB, hg, h1⟩ := h
  exact ⟨g, cap, cur, fr, e, hB, (Below.heap_alloc w o g (Array.getElem?_eq_some_iff.1 hg).1).trans hg, h1⟩
theorem OwnM.shape {w : World} {B : Nat} {v : Value} {bs : List UInt8} (h : OwnM w B v bs) : ∃ A c, v = .slice A bs.length c ∧ bs.length ≤ c ∧ Rd w w.heap.size A (bvs bs) := by
  obtain ⟨g, cap, cur, fr, rfl, hB, hg, h1, h2, h3, _⟩ := h
  refine ⟨_, _, rfl, h1, fun _ => ⟨g, 0, rfl, (Array.getElem?_eq_some_iff.1 hg).1, fun j u hu => ?_⟩⟩
  rw [cell_of_row w g _ cur _ fr hg]
  rw [← h3, List.getElem?_take] at hu
  split at hu
  · simpa using hu
  · cases hu

theorem run_append_one (w : World) (base : Nat) (ty : TypeId) (i : TypeInfo) (hi : Try.prog.info? 5 = some i) (hz : i.zero = some (.int .u8 0)) (hsize : i.size = 1) (hby : i.bytes = 1)
    (v : Value) (bs : List UInt8) (hown : OwnM w base v bs) (a : Addr) (c : Nat) (b : UInt8) (hc : w.cell? a = some (bv b)) (h63 : bs.length ≤ 140737488300000) (hbase : base ≤ w.heap.size) :
    ∃ v' w', (Builtin.append_ #[56, 56] ty #[v, .slice (some a) 1 c]).run Try.prog w = .ok v' w' ∧ OwnM w' base v' (bs ++ [b]) ∧ Below base w w' := by
  obtain ⟨g, cap, cur, fr, rfl, hB, hg, h1, h2, h3, hfr⟩ := hown
  have ht := Try.underlying56
  have hnews : ∀ j u, [bv b][j]? = some u → w.cell? (a.add j) = some u := by
    intro j u hu
    match j, hu with
    | 0, hu =>
      simp at hu
      subst hu
      rw [show a.add 0 = a from by obtain ⟨x, y, z⟩ := a; unfold Addr.add; split <;> simp_all]
      exact hc
  by_cases hroom : bs.length + 1 ≤ cap
  · have hf := run_firstCells_some (P := Try.prog) w 1 1 a 1 c [bv b] rfl hnews
    have hcell : w.cell? ⟨g, bs.length, none⟩ = some (cur[bs.length]'(by omega)) := by
      rw [cell_of_row w g _ cur _ fr hg]
      exact Array.getElem?_eq_getElem (by omega)
    have hfz : w.frozen? ⟨g, bs.length, none⟩ = false := by
      rcases hfr with rfl | rfl
      · simp [World.frozen?, hg]
      · simp [World.frozen?, hg]
        omega
    have s1 : ∀ j, j < [bv b].length → (w.cell? ⟨g, bs.length + 0 + j, none⟩).isSome = true := by
      intro j hj
      have e : j = 0 := by simpa using hj
      subst e
      simp [hcell]
    have s2 : ∀ j, j < [bv b].length → w.frozen? ⟨g, bs.length + 0 + j, none⟩ = false := by
      intro j hj
      have e : j = 0 := by simpa using hj
      subst e
      simpa using hfz
    have hst := run_storeCells_cells (P := Try.prog) g bs.length [bv b] 0 w s1 s2 (by intro u hu; simp at hu; subst hu; rfl)
    have hr : (Builtin.append_ #[56, 56] ty #[.slice (some ⟨g, 0, none⟩) bs.length cap, .slice (some a) 1 c]).run Try.prog w =
        .ok (.slice (some ⟨g, 0, none⟩) (bs.length + 1) cap) (w.setCell ⟨g, bs.length, none⟩ (bv b)) := by
      simp only [Nat.add_zero] at hst
      simp [Builtin.append_, run_underlying ht, sizeOf, typeInfo, hi, hsize, Builtin.lenOf, hroom, hf, Addr.add_lit, hst, World.setCells]
    have hg2 : (w.setCell ⟨g, bs.length, none⟩ (bv b)).heap[g]? = some (.cells (cur.set! bs.length (bv b)) 5 fr) := by
      simp [World.setCell, Array.getElem?_modify, hg]
    refine ⟨_, _, hr, ⟨g, cap, _, fr, by simp, hB, hg2, by simp; omega, by simp [h2], ?_, hfr⟩, (Below.refl _ _).setCell (p := ⟨g, bs.length, none⟩) hB _⟩
    have h4 : (cur.set! bs.length (bv b)).toList = cur.toList.set bs.length (bv b) := by simp
    have h5 : (cur.toList.take bs.length).length = bs.length := by simp; omega
    rw [h4, List.length_append, List.length_singleton, bvs_app, ← h3, List.take_add_one, List.take_set_of_le (Nat.le_refl _), List.getElem?_set_self (by simp; omega)]
    rfl
  · have holds : ∀ j u, (bvs bs)[j]? = some u → w.cell? ((⟨g, 0, none⟩ : Addr).add j) = some u := by
      intro j u hu
      rw [add_lit, cell_of_row w g _ cur _ fr hg]
      rw [← h3, List.getElem?_take] at hu
      split at hu
      · simpa using hu
      · cases hu
    have hr := run_append_grow (P := Try.prog) w 56 ty 5 i (.int .u8 0) ht hi hz ⟨g, 0, none⟩ bs.length cap (bvs bs) (by rw [bvs_len, hsize]; omega) holds a 1 c [bv b] (by rw [hsize]; rfl) hnews (by omega) (by omega)
      (by rw [hby]; have := growslice_fits (need := bs.length + 1) (old := cap) (bytes := 1) (by omega) (by omega); omega)
    have hge := grownCap_ge w (bs.length + 1) cap 5
    refine ⟨_, _, hr, ⟨w.heap.size, _, _, (0, 0), by simp; rfl, hbase, heap_alloc_new w.drew _, by simpa using hge, ?_, ?_, .inl rfl⟩, (Below.refl _ _).drew.alloc hbase _⟩
    · simp [bvs_len, Builtin.zeroCells, Value.cells]
      omega
    · simp only [Array.toList_append, bvs_app]
      have h6 : (bvs bs ++ bvs [b]).length = (bs ++ [b]).length := by simp [bvs_len]
      rw [← h6]
      exact List.take_left

theorem wpl_append_one {w : World} {ops : Array Oper} {rest : List Oper} {o : Oper} {a : Act} {Q : Exit → Act → World → Prop} (hgd : o.guard = none) (sl x : Operand)
    (ho : o.op = .call { callee := .builtin .append, args := #[sl, x], argTypes := #[56, 56] })
    (base : Nat) (i : TypeInfo) (hi : Try.prog.info? 5 = some i) (hz : i.zero = some (.int .u8 0)) (hsize : i.size = 1) (hby : i.bytes = 1)
    (v : Value) (bs : List UInt8) (hs : a.eval sl = v) (hown : OwnM w base v bs) (ad : Addr) (c : Nat) (b : UInt8) (hx : a.eval x = .slice (some ad) 1 c)
    (h : ∀ v' w', OwnM w' base v' (bs ++ [b]) → Below base w w' → wpList Try.prog ops Q rest (a.put o.dst v') w')
    (hc : Hid (w.cell? ad = some (bv b))) (h63 : Hid (bs.length ≤ 140737488300000)) (hbase : Hid (base ≤ w.heap.size)) : wpList Try.prog ops Q (o :: rest) a w := by
  refine wpList_plain hgd fun K hK => ?_
  obtain ⟨v', w', hrun, h2, h3⟩ := run_append_one w base o.type i hi hz hsize hby v bs hown ad c b hc.out h63.out hbase.out
  unfold Oper.wp execOp
  simp only [ho, resolve, invoke, builtin, Sem.run_bind, Sem.run_pure, Result.andThen_ok, List.map_toArray, List.map_cons, List.map_nil, hs, hx, hrun]
  exact hK _ _ (h v' w' h2 h3)
end Go.Proofs.Ytkfgbjmadfnmkaa
