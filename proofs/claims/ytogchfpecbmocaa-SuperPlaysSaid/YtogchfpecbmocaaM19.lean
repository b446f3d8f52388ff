/-
  The walk of package super's look.
-/
import Derived.Test.YtogchfpecbmocaaM17
import Derived.Test.YtogchfpecbmocaaM18
import Derived.Test.YtogchfpecbmocaaM14
import Derived.Test.YtogchfpecbmocaaM12
namespace Go.Proofs.Ytogchfpecbmocaa
open Go.RowKit
set_option maxRecDepth 10000

/-- what look answers -/
def looks (S : Sp) (i : Int) : List UInt8 × Su × Int := if (S.read i).2 = 0 then ((S.read i).1, hasU (S.read i).1, 0) else ([], su0, (S.read i).2)
def LK (w : World) (r : List UInt8 × Su × Int) (e : Ending) (w' : World) : Prop := e = .returned (.tuple #[.string ⟨r.1.toArray⟩, r.2.1.val, .int .i64 r.2.2]) ∧ Below w.heap.size w w'
theorem HasD.below {w w' : World} {p gs : Nat} {vw : Value} {S : Sp} (h : HasD w p gs vw S) (hb : Below w.heap.size w w') : HasD w' p gs vw S := h.fr (Fr.of_below hb) (by simp)
theorem results_mid {P : Program} {fn : Func} {p t u : Tmp} {ty : TypeId} (h : fn.results = #[.tmp t, .cell p ty, .tmp u]) (tmps : Array Value) (w : World) (g : Nat) (e : TypeId) (cs : Array Value) (fr : Nat × Nat) (d : TypeDesc) (x y : Value)
    (hx : tmps.getD t undef = x) (hy : tmps.getD u undef = y) (hp : tmps.getD p undef = .pointer (some ⟨g, 0, none⟩)) (hg : w.heap[g]? = some (.cells cs e fr))
    (hu : P.underlying ty = some d) (hd : (match d with | .struct _ | .array _ _ => true | _ => false) = true) (hi : (P.info? ty).map (·.size) = some cs.size) :
    (results fn tmps).run P w = .ok (.tuple #[x, .agg cs, y]) w := by
  subst hx hy
  have hp' : tmps[p]?.getD undef = .pointer (some ⟨g, 0, none⟩) := by simpa using hp
  simp [results, h, hp', asAddr, run_loadVar_row w g e ty cs fr d hg hu hd hi]
theorem results_cell2 {P : Program} {fn : Func} {p t u : Tmp} {ty : TypeId} (h : fn.results = #[.cell p ty, .tmp t, .tmp u]) (tmps : Array Value) (w : World) (g : Nat) (e : TypeId) (cs : Array Value) (fr : Nat × Nat) (d : TypeDesc) (x y : Value)
    (hx : tmps.getD t undef = x) (hy : tmps.getD u undef = y) (hp : tmps.getD p undef = .pointer (some ⟨g, 0, none⟩)) (hg : w.heap[g]? = some (.cells cs e fr))
    (hu : P.underlying ty = some d) (hd : (match d with | .struct _ | .array _ _ => true | _ => false) = true) (hi : (P.info? ty).map (·.size) = some cs.size) :
    (results fn tmps).run P w = .ok (.tuple #[.agg cs, x, y]) w := by
  subst hx hy
  have hp' : tmps[p]?.getD undef = .pointer (some ⟨g, 0, none⟩) := by simpa using hp
  simp [results, h, hp', asAddr, run_loadVar_row w g e ty cs fr d hg hu hd hi]
theorem Row.range {w : World} {g : Nat} {e : TypeId} {cs : List Value} (h : Row w g e cs) : w.rangeAt g 0 cs := fun j v hv => by
  rw [Nat.zero_add, h.cell]
  exact hv
theorem anyH_frame {P : Program} {md : Region.Mode} {ops : Array Oper} {Q : Exit → Act → World → Prop} {S : World → Prop} {fuel : Nat} {listed : Array Bool} {a a' : Act} {w : World} (h : a = a') (H : wpAnyH P md ops Q S fuel listed a' w) : wpAnyH P md ops Q S fuel listed a w := h ▸ H
/-- a store of a struct, in a region that draws its order -/
theorem wp_store_st {P : Program} {o : Oper} {a : Act} {w : World} {K : Act → World → Prop} {Q : Exit → Act → World → Prop} {T : TypeId} (x y : Operand) (ho : o.op = .store T x y) {n : Nat} (hn : (P.info? T).map (·.size) = some n)
    (g : Nat) (cs0 cs : Array Value) (hx : a.eval x = .pointer (some ⟨g, 0, none⟩)) (hy : a.eval y = .agg cs) (hrow : Row w g T cs0.toList)
    (hK : ∀ w', Row w' g T cs.toList → w.grownBy w' (some g) → K (a.put o.dst undef) w')
    (h0 : Hid (cs0.size = n)) (h1 : Hid (cs.size = n)) (hone : Hid (cs.all (·.oneCell') = true)) : o.wp P a w K Q :=
  wp_store_row T x y ho g cs hx hy T cs0 hrow.arr (by rw [hn, h1.out]) (by simp [h0.out, h1.out]) (by simpa using hone.out)
    (hK _ (by
      have := setRow_heap w g cs0 cs T (0, 0) hrow.arr
      simpa [Row] using this) (grownBy_setRow w g _))
theorem superSize : (Try.prog.info? 27).map (·.size) = some 17 := by kernel_rfl
set_option maxHeartbeats 1000000 in
theorem look_any (p gs : Nat) (vw : Value) (S : Sp) (i : Int) (w : World) (h : HasD w p gs vw S) (hc : S.count ≤ 1048576) :
    Calls Try.prog 46 #[dptr p, .int .i64 i] w (LK w (looks S i)) := by
  have HRd : Hid (∀ W, HasD W p gs vw S → Calls Try.prog 33 #[dptr p, .int .i64 i] W fun e w' => e = .returned (.tuple #[.string ⟨(S.read i).1.toArray⟩, .int .i64 (S.read i).2]) ∧ Below W.heap.size W w') := hid fun W hW => by
    refine (read_any p gs vw S i W hW hc).mono ?_
    rintro e w' ⟨h1, n, rfl⟩
    exact ⟨h1, rfl, rfl, rfl, Nat.le_refl _, fun _ _ => rfl⟩
  have HH : Hid (∀ o, HasD (w.alloc o) p gs vw S) := hid fun o => h.below ((Below.refl _ _).alloc (Nat.le_refl _) _)
  have e0 : looks S i = if (S.read i).2 = 0 then ((S.read i).1, hasU (S.read i).1, 0) else ([], su0, (S.read i).2) := rfl
  rw [e0]
  have HZS := hid superSize
  generalize (S.read i).1 = l at *
  generalize (S.read i).2 = x at *
  clear e0 h
  unfold dptr at *
  by_cases hx : x = 0
  · subst hx
    rw [if_pos rfl]
    have HOp := hid (fun W => open_calls ⟨l.toArray⟩ W)
    have HU := hid (fun W => sunpack_any ⟨(openS l).1.toArray⟩ W)
    rw [sb_mk] at HOp HU
    have e1 : hasU l = (unpackU (openS l).1).1 := rfl
    rw [e1]
    have hfin : ∀ (e : Ending) (w' : World), e = .returned (.tuple #[.string ⟨l.toArray⟩, .agg (unpackU (openS l).1).1.cells, .int .i64 0]) → Below w.heap.size w w' → LK w (l, (unpackU (openS l).1).1, 0) e w' := fun e w' h1 h2 => ⟨h1, h2⟩
    have HF := hid hfin
    have HSZ := hid (cells_size (unpackU (openS l).1).1)
    have HSO := hid (cells_one (unpackU (openS l).1).1)
    have HU2 : Hid (∀ W, Calls Try.prog 15 #[.string ⟨(openS l).1.toArray⟩] W fun e w' => e = .returned (.tuple #[.agg (unpackU (openS l).1).1.cells, .int .i64 (unpackU (openS l).1).2]) ∧ Below W.heap.size W w') := hid fun W => HU.out W
    have HO2 : Hid (∀ W, Calls Try.prog 66 #[.string ⟨l.toArray⟩] W fun e w' => e = .returned (.tuple #[.string ⟨(openS l).1.toArray⟩, .bool (openS l).2]) ∧ Below W.heap.size W w') := hid fun W => HOp.out W
    clear hfin e1 HU HOp
    generalize (unpackU (openS l).1).2 = y at *
    generalize (unpackU (openS l).1).1 = s at *
    generalize (openS l).2 = b at *
    generalize (openS l).1 = t at *
    generalize s.cells = C at *
    go_enter Try.func46, Try.ntmps46
    go_wp2_with (first
      | (go_at_call 33; refine (HRd.out _ (HH.out _)).mono ?_; rintro e w1 ⟨rfl, hb1⟩; have hrow := (Row.new w 27 su0.cells).below hb1 (by simp); have hbe := ((Below.refl w.heap.size w).alloc (Nat.le_refl _) _).trans (hb1.mono (by simp)); clear hb1)
      | (go_at_call 66; refine (HO2.out _).mono ?_; rintro e w2 ⟨rfl, hb2⟩; replace hrow := hrow.below hb2 hrow.lt; replace hbe := hbe.trans (hb2.mono hbe.size); clear hb2)
      | (go_at_call 15; refine (HU2.out _).mono ?_; rintro e w3 ⟨rfl, hb3⟩; replace hrow := hrow.below hb3 hrow.lt; replace hbe := hbe.trans (hb3.mono hbe.size); clear hb3)
      | (refine wpl_store_st rfl (.tmp 11) (.tmp 31) rfl (n := 17) HZS.out w3.heap.size su0.cells C rfl rfl (Row.new _ _ _) ?_ (hid rfl) HSZ HSO; intro w4 HR4 HB4; replace hbe := (hbe.alloc hbe.size (.cells su0.cells 27)).trans (below_grown HB4 hbe.size (by have := hbe.size; simp; omega)); have hrow4 := (hrow.alloc (.cells su0.cells 27)).grown HB4 (by have := hrow.lt; intro e; have := Option.some.inj e; omega); have hne : w.heap.size ≠ w3.heap.size := (by have := hrow.lt; omega)))
    have H4 := hid hrow4
    have HBE := hid hbe
    clear hrow hrow4 hbe HB4
    refine wp_region_held_drew (S := fun W => Row W w3.heap.size 27 C.toList) (by kernel_rfl) (HR4.drew) (fun hH => ?_)
    refine wpAnyH_take (i := 0) (v := .string ⟨l.toArray⟩) rfl (by kernel_rfl) (by kernel_rfl) (by kernel_rfl) (fun _ _ _ h => h) (Or.inl ⟨by rfl, fun w' hw' => by clear hw'; go_simp⟩) hH ?_
    refine anyH_frame (a' := { tmps := #[.pointer (some ⟨p, 0, none⟩), .int .i64 i, undef, undef, .string ⟨#[]⟩, .pointer (some ⟨w.heap.size, 0, none⟩), .int .i64 0, .string ⟨l.toArray⟩, .int .i64 0, .string ⟨t.toArray⟩, .bool b, .pointer (some ⟨w3.heap.size, 0, none⟩), .int .i64 y, .tuple #[.string ⟨l.toArray⟩, .int .i64 0], .pointer (some ⟨p, 0, none⟩), .int .i64 i, .tuple #[.string ⟨l.toArray⟩, .int .i64 0], .string ⟨l.toArray⟩, .int .i64 0, .int .i64 0, .bool false, undef, undef, .tuple #[.string ⟨t.toArray⟩, .bool b], .string ⟨l.toArray⟩, .tuple #[.string ⟨t.toArray⟩, .bool b], .string ⟨t.toArray⟩, .bool b, .tuple #[.agg C, .int .i64 y], .string ⟨t.toArray⟩, .tuple #[.agg C, .int .i64 y], .agg C, .int .i64 y, .string ⟨l.toArray⟩, undef], defers := [] }) (by kernel_rfl) ?_
    refine wpAnyH_ready (rs := [1, 2]) (by kernel_rfl) (by simp) ?_
    refine AllReadyH.cons rfl (fun K hK => ?_) (AllReadyH.cons rfl (fun K hK => ?_) AllReadyH.nil)
    · rw [if_pos (by kernel_rfl)]
      refine wp_load_row 27 (.tmp 11) (by kernel_rfl) w3.heap.size (by kernel_rfl) 27 C (0, 0) _ hH.arr Try.underlying27 rfl (by rw [HSZ.out]; exact HZS.out) ?_
      refine hK.out _ _ hH (fun hH => ?_)
      clear hK K
      refine anyH_frame (a' := { tmps := #[.pointer (some ⟨p, 0, none⟩), .int .i64 i, undef, undef, .string ⟨#[]⟩, .pointer (some ⟨w.heap.size, 0, none⟩), .int .i64 0, .string ⟨l.toArray⟩, .int .i64 0, .string ⟨t.toArray⟩, .bool b, .pointer (some ⟨w3.heap.size, 0, none⟩), .int .i64 y, .tuple #[.string ⟨l.toArray⟩, .int .i64 0], .pointer (some ⟨p, 0, none⟩), .int .i64 i, .tuple #[.string ⟨l.toArray⟩, .int .i64 0], .string ⟨l.toArray⟩, .int .i64 0, .int .i64 0, .bool false, undef, undef, .tuple #[.string ⟨t.toArray⟩, .bool b], .string ⟨l.toArray⟩, .tuple #[.string ⟨t.toArray⟩, .bool b], .string ⟨t.toArray⟩, .bool b, .tuple #[.agg C, .int .i64 y], .string ⟨t.toArray⟩, .tuple #[.agg C, .int .i64 y], .agg C, .int .i64 y, .string ⟨l.toArray⟩, .agg C], defers := [] }) (by kernel_rfl) ?_
      refine wpAnyH_ready (rs := [2]) (by kernel_rfl) (by simp) ?_
      refine AllReadyH.cons rfl (fun K hK => ?_) AllReadyH.nil
      go_simp
      refine hK.out _ _ hH (fun hH => ?_)
      clear hK K
      refine anyH_frame (a' := { tmps := #[.pointer (some ⟨p, 0, none⟩), .int .i64 i, undef, undef, .string ⟨l.toArray⟩, .pointer (some ⟨w.heap.size, 0, none⟩), .int .i64 0, .string ⟨l.toArray⟩, .int .i64 0, .string ⟨t.toArray⟩, .bool b, .pointer (some ⟨w3.heap.size, 0, none⟩), .int .i64 y, .tuple #[.string ⟨l.toArray⟩, .int .i64 0], .pointer (some ⟨p, 0, none⟩), .int .i64 i, .tuple #[.string ⟨l.toArray⟩, .int .i64 0], .string ⟨l.toArray⟩, .int .i64 0, .int .i64 0, .bool false, undef, undef, .tuple #[.string ⟨t.toArray⟩, .bool b], .string ⟨l.toArray⟩, .tuple #[.string ⟨t.toArray⟩, .bool b], .string ⟨t.toArray⟩, .bool b, .tuple #[.agg C, .int .i64 y], .string ⟨t.toArray⟩, .tuple #[.agg C, .int .i64 y], .agg C, .int .i64 y, .string ⟨l.toArray⟩, .agg C], defers := [] }) (by kernel_rfl) ?_
      refine wpAnyH_ready (rs := [3]) (by kernel_rfl) (by simp) ?_
      refine AllReadyH.cons rfl (fun K hK => ?_) AllReadyH.nil
      rw [if_pos (by kernel_rfl)]
      refine wp_store_st (T := 27) (.tmp 5) (.tmp 34) (by kernel_rfl) (n := 17) HZS.out w.heap.size su0.cells C (by kernel_rfl) (by kernel_rfl) (H4.out.drew) (fun w6 HR6 HB6 => ?_) (hid rfl) HSZ HSO
      refine hK.out _ _ (hH.grown HB6 (by intro e; exact hne (Option.some.inj e).symm)) (fun hH => ?_)
      clear hK K
      refine anyH_frame (a' := { tmps := #[.pointer (some ⟨p, 0, none⟩), .int .i64 i, undef, undef, .string ⟨l.toArray⟩, .pointer (some ⟨w.heap.size, 0, none⟩), .int .i64 0, .string ⟨l.toArray⟩, .int .i64 0, .string ⟨t.toArray⟩, .bool b, .pointer (some ⟨w3.heap.size, 0, none⟩), .int .i64 y, .tuple #[.string ⟨l.toArray⟩, .int .i64 0], .pointer (some ⟨p, 0, none⟩), .int .i64 i, .tuple #[.string ⟨l.toArray⟩, .int .i64 0], .string ⟨l.toArray⟩, .int .i64 0, .int .i64 0, .bool false, undef, undef, .tuple #[.string ⟨t.toArray⟩, .bool b], .string ⟨l.toArray⟩, .tuple #[.string ⟨t.toArray⟩, .bool b], .string ⟨t.toArray⟩, .bool b, .tuple #[.agg C, .int .i64 y], .string ⟨t.toArray⟩, .tuple #[.agg C, .int .i64 y], .agg C, .int .i64 y, .string ⟨l.toArray⟩, .agg C], defers := [] }) (by kernel_rfl) ?_
      refine wpAnyH_ready (rs := [4]) (by kernel_rfl) (by simp) ?_
      refine AllReadyH.cons rfl (fun K hK => ?_) AllReadyH.nil
      go_simp
      refine hK.out _ _ hH (fun hH => ?_)
      clear hK K
      refine anyH_frame (a' := { tmps := #[.pointer (some ⟨p, 0, none⟩), .int .i64 i, undef, undef, .string ⟨l.toArray⟩, .pointer (some ⟨w.heap.size, 0, none⟩), .int .i64 0, .string ⟨l.toArray⟩, .int .i64 0, .string ⟨t.toArray⟩, .bool b, .pointer (some ⟨w3.heap.size, 0, none⟩), .int .i64 y, .tuple #[.string ⟨l.toArray⟩, .int .i64 0], .pointer (some ⟨p, 0, none⟩), .int .i64 i, .tuple #[.string ⟨l.toArray⟩, .int .i64 0], .string ⟨l.toArray⟩, .int .i64 0, .int .i64 0, .bool false, undef, undef, .tuple #[.string ⟨t.toArray⟩, .bool b], .string ⟨l.toArray⟩, .tuple #[.string ⟨t.toArray⟩, .bool b], .string ⟨t.toArray⟩, .bool b, .tuple #[.agg C, .int .i64 y], .string ⟨t.toArray⟩, .tuple #[.agg C, .int .i64 y], .agg C, .int .i64 y, .string ⟨l.toArray⟩, .agg C], defers := [] }) (by kernel_rfl) ?_
      refine wpAnyH_done (by kernel_rfl) ?_ _
      go_wp2_with fail
      exact bodyPost_ret (v := .tuple #[.string ⟨l.toArray⟩, .agg C, .int .i64 0]) (results_mid rfl _ _ w.heap.size 27 C (0, 0) _ (.string ⟨l.toArray⟩) (.int .i64 0) rfl rfl rfl HR6.arr Try.underlying27 rfl (by rw [HSZ.out]; exact HZS.out)) rfl
        (HF.out _ _ rfl (HBE.out.drew.trans (below_grown HB6 (Nat.le_refl _) HBE.out.size)))
    · go_simp
      refine hK.out _ _ hH (fun hH => ?_)
      clear hK K
      refine anyH_frame (a' := { tmps := #[.pointer (some ⟨p, 0, none⟩), .int .i64 i, undef, undef, .string ⟨l.toArray⟩, .pointer (some ⟨w.heap.size, 0, none⟩), .int .i64 0, .string ⟨l.toArray⟩, .int .i64 0, .string ⟨t.toArray⟩, .bool b, .pointer (some ⟨w3.heap.size, 0, none⟩), .int .i64 y, .tuple #[.string ⟨l.toArray⟩, .int .i64 0], .pointer (some ⟨p, 0, none⟩), .int .i64 i, .tuple #[.string ⟨l.toArray⟩, .int .i64 0], .string ⟨l.toArray⟩, .int .i64 0, .int .i64 0, .bool false, undef, undef, .tuple #[.string ⟨t.toArray⟩, .bool b], .string ⟨l.toArray⟩, .tuple #[.string ⟨t.toArray⟩, .bool b], .string ⟨t.toArray⟩, .bool b, .tuple #[.agg C, .int .i64 y], .string ⟨t.toArray⟩, .tuple #[.agg C, .int .i64 y], .agg C, .int .i64 y, .string ⟨l.toArray⟩, undef], defers := [] }) (by kernel_rfl) ?_
      refine wpAnyH_ready (rs := [1]) (by kernel_rfl) (by simp) ?_
      refine AllReadyH.cons rfl (fun K hK => ?_) AllReadyH.nil
      rw [if_pos (by kernel_rfl)]
      refine wp_load_row 27 (.tmp 11) (by kernel_rfl) w3.heap.size (by kernel_rfl) 27 C (0, 0) _ hH.arr Try.underlying27 rfl (by rw [HSZ.out]; exact HZS.out) ?_
      refine hK.out _ _ hH (fun hH => ?_)
      clear hK K
      refine anyH_frame (a' := { tmps := #[.pointer (some ⟨p, 0, none⟩), .int .i64 i, undef, undef, .string ⟨l.toArray⟩, .pointer (some ⟨w.heap.size, 0, none⟩), .int .i64 0, .string ⟨l.toArray⟩, .int .i64 0, .string ⟨t.toArray⟩, .bool b, .pointer (some ⟨w3.heap.size, 0, none⟩), .int .i64 y, .tuple #[.string ⟨l.toArray⟩, .int .i64 0], .pointer (some ⟨p, 0, none⟩), .int .i64 i, .tuple #[.string ⟨l.toArray⟩, .int .i64 0], .string ⟨l.toArray⟩, .int .i64 0, .int .i64 0, .bool false, undef, undef, .tuple #[.string ⟨t.toArray⟩, .bool b], .string ⟨l.toArray⟩, .tuple #[.string ⟨t.toArray⟩, .bool b], .string ⟨t.toArray⟩, .bool b, .tuple #[.agg C, .int .i64 y], .string ⟨t.toArray⟩, .tuple #[.agg C, .int .i64 y], .agg C, .int .i64 y, .string ⟨l.toArray⟩, .agg C], defers := [] }) (by kernel_rfl) ?_
      refine wpAnyH_ready (rs := [3]) (by kernel_rfl) (by simp) ?_
      refine AllReadyH.cons rfl (fun K hK => ?_) AllReadyH.nil
      rw [if_pos (by kernel_rfl)]
      refine wp_store_st (T := 27) (.tmp 5) (.tmp 34) (by kernel_rfl) (n := 17) HZS.out w.heap.size su0.cells C (by kernel_rfl) (by kernel_rfl) (H4.out.drew) (fun w6 HR6 HB6 => ?_) (hid rfl) HSZ HSO
      refine hK.out _ _ (hH.grown HB6 (by intro e; exact hne (Option.some.inj e).symm)) (fun hH => ?_)
      clear hK K
      refine anyH_frame (a' := { tmps := #[.pointer (some ⟨p, 0, none⟩), .int .i64 i, undef, undef, .string ⟨l.toArray⟩, .pointer (some ⟨w.heap.size, 0, none⟩), .int .i64 0, .string ⟨l.toArray⟩, .int .i64 0, .string ⟨t.toArray⟩, .bool b, .pointer (some ⟨w3.heap.size, 0, none⟩), .int .i64 y, .tuple #[.string ⟨l.toArray⟩, .int .i64 0], .pointer (some ⟨p, 0, none⟩), .int .i64 i, .tuple #[.string ⟨l.toArray⟩, .int .i64 0], .string ⟨l.toArray⟩, .int .i64 0, .int .i64 0, .bool false, undef, undef, .tuple #[.string ⟨t.toArray⟩, .bool b], .string ⟨l.toArray⟩, .tuple #[.string ⟨t.toArray⟩, .bool b], .string ⟨t.toArray⟩, .bool b, .tuple #[.agg C, .int .i64 y], .string ⟨t.toArray⟩, .tuple #[.agg C, .int .i64 y], .agg C, .int .i64 y, .string ⟨l.toArray⟩, .agg C], defers := [] }) (by kernel_rfl) ?_
      refine wpAnyH_ready (rs := [4]) (by kernel_rfl) (by simp) ?_
      refine AllReadyH.cons rfl (fun K hK => ?_) AllReadyH.nil
      go_simp
      refine hK.out _ _ hH (fun hH => ?_)
      clear hK K
      refine anyH_frame (a' := { tmps := #[.pointer (some ⟨p, 0, none⟩), .int .i64 i, undef, undef, .string ⟨l.toArray⟩, .pointer (some ⟨w.heap.size, 0, none⟩), .int .i64 0, .string ⟨l.toArray⟩, .int .i64 0, .string ⟨t.toArray⟩, .bool b, .pointer (some ⟨w3.heap.size, 0, none⟩), .int .i64 y, .tuple #[.string ⟨l.toArray⟩, .int .i64 0], .pointer (some ⟨p, 0, none⟩), .int .i64 i, .tuple #[.string ⟨l.toArray⟩, .int .i64 0], .string ⟨l.toArray⟩, .int .i64 0, .int .i64 0, .bool false, undef, undef, .tuple #[.string ⟨t.toArray⟩, .bool b], .string ⟨l.toArray⟩, .tuple #[.string ⟨t.toArray⟩, .bool b], .string ⟨t.toArray⟩, .bool b, .tuple #[.agg C, .int .i64 y], .string ⟨t.toArray⟩, .tuple #[.agg C, .int .i64 y], .agg C, .int .i64 y, .string ⟨l.toArray⟩, .agg C], defers := [] }) (by kernel_rfl) ?_
      refine wpAnyH_done (by kernel_rfl) ?_ _
      go_wp2_with fail
      exact bodyPost_ret (v := .tuple #[.string ⟨l.toArray⟩, .agg C, .int .i64 0]) (results_mid rfl _ _ w.heap.size 27 C (0, 0) _ (.string ⟨l.toArray⟩) (.int .i64 0) rfl rfl rfl HR6.arr Try.underlying27 rfl (by rw [HSZ.out]; exact HZS.out)) rfl
        (HF.out _ _ rfl (HBE.out.drew.trans (below_grown HB6 (Nat.le_refl _) HBE.out.size)))
  · rw [if_neg hx]
    have hx2 : (x != 0) = true := by simpa using hx
    have HX := hid hx2
    clear hx2 hx
    go_enter Try.func46, Try.ntmps46
    have hx2 := HX.out
    go_wp2_with (first
      | (go_at_call 33; refine (HRd.out _ (HH.out _)).mono ?_; rintro e w1 ⟨rfl, hb1⟩; have hrow := (Row.new w 27 su0.cells).below hb1 (by simp); have hbe := ((Below.refl w.heap.size w).alloc (Nat.le_refl _) _).trans (hb1.mono (by simp)); clear hb1)
      | (refine wpl_store_st rfl (.tmp 5) (.tmp 21) rfl (n := 17) HZS.out w.heap.size su0.cells su0.cells rfl rfl hrow ?_ (hid rfl) (hid rfl) (cells_one su0); intro w4 HR4 HB4))
    exact bodyPost_ret (v := .tuple #[.string ⟨#[]⟩, .agg su0.cells, .int .i64 x]) (results_mid rfl _ _ w.heap.size 27 su0.cells (0, 0) _ (.string ⟨#[]⟩) (.int .i64 x) rfl rfl rfl HR4.arr Try.underlying27 rfl HZS.out) rfl
      ⟨rfl, hbe.trans (below_grown HB4 (Nat.le_refl _) hbe.size)⟩
end Go.Proofs.Ytogchfpecbmocaa
/-
  The walk of package super's Read.
-/
namespace Go.Proofs.Ytogchfpecbmocaa
open Go.RowKit
set_option maxRecDepth 10000

/-- one more copy -/
def stepU (b : Su × Nat) (x : Su) : Su × Nat := if b.1.seq < x.seq then (x, 1) else if x = b.1 then (b.1, b.2 + 1) else b
/-- behind k copies -/
def rdK (S : Sp) : Nat → Su × Nat × Int
  | 0 => (su0, 0, 0)
  | k + 1 => if (rdK S k).2.2 ≠ 0 then rdK S k else if (S.read k).2 ≠ 0 then (su0, 0, (S.read k).2) else ((stepU ((rdK S k).1, (rdK S k).2.1) (hasU (S.read k).1)).1, (stepU ((rdK S k).1, (rdK S k).2.1) (hasU (S.read k).1)).2, 0)
/-- what Read answers -/
def readU (S : Sp) : Su × Nat × Int := if (rdK S 4).2.2 ≠ 0 then rdK S 4 else if (rdK S 4).1.seq = 0 then (su0, 0, 11) else rdK S 4
def RU (w : World) (r : Su × Nat × Int) (e : Ending) (w' : World) : Prop := e = .returned (.tuple #[r.1.val, .int .i64 (r.2.1 : Int), .int .i64 r.2.2]) ∧ Below w.heap.size w w'
theorem rdK_stop (S : Sp) (j : Nat) (h : (rdK S j).2.2 ≠ 0) : ∀ m, rdK S (j + m) = rdK S j
  | 0 => rfl
  | m + 1 => by
    rw [← Nat.add_assoc, rdK, rdK_stop S j h m, if_pos h]
theorem rdK_le (S : Sp) : ∀ k, (rdK S k).2.1 ≤ k
  | 0 => Nat.le_refl _
  | k + 1 => by
    have := rdK_le S k
    rw [rdK]
    split
    · omega
    · split
      · simp
      · simp only [stepU]
        split
        · simp
        · split <;> simp <;> omega
set_option maxHeartbeats 2000000 in
theorem sread_any (p gs : Nat) (vw : Value) (S : Sp) (w : World) (h : HasD w p gs vw S) (hc : S.count ≤ 1048576) :
    Calls Try.prog 29 #[dptr p] w (RU w (readU S)) := by
  have HZS := hid superSize
  have HLK : Hid (∀ W, HasD W p gs vw S → ∀ k : Nat, Calls Try.prog 46 #[.pointer (some ⟨p, 0, none⟩), .int .i64 (k : Int)] W (LK W (looks S k))) := hid fun W hW k => look_any p gs vw S k W hW hc
  have HH := hid h
  clear h hc
  unfold dptr
  go_enter Try.func29, Try.ntmps29
  go_wp2_with fail
  refine name_wp (fun w1 hw1 => ?_)
  have hr0 : Row w1 w.heap.size 27 su0.cells.toList := by rw [hw1]; exact (Row.new w 27 su0.cells).alloc _
  have hr1 : Row w1 (w.heap.size + 1) 27 su0.cells.toList := by rw [hw1]; exact alloc2_new _ _ _
  have hbe : Below w.heap.size w w1 := by rw [hw1]; exact ((Below.refl _ _).alloc (Nat.le_refl _) _).alloc (by simp) _
  clear hw1
  have H0 := hid hr0
  have H1 := hid hr1
  have HB := hid hbe
  clear hr0 hr1 hbe
  go_loopw [6, 11] (fun n i wr => ∃ k m : Nat, k ≤ 4 ∧ i = .int .i64 k ∧ n = .int .i64 m ∧ m ≤ k ∧ Hid (rdK S k = ((rdK S k).1, m, 0)) ∧ Row wr w.heap.size 27 su0.cells.toList ∧ Row wr (w.heap.size + 1) 27 (rdK S k).1.cells.toList ∧ Below w.heap.size w wr) (fun _ i _ => 4 - (intOf i).toNat)
  case atStart => exact ⟨0, 0, by omega, rfl, rfl, Nat.le_refl _, hid rfl, H0.out, H1.out, HB.out⟩
  case round =>
    obtain ⟨k, m, hk, rfl, rfl, hmk, hst, h0, h1, hbe⟩ := hrel
    have HL := hid (HLK.out wr (HH.out.below hbe) k)
    have HSTP := hid (rdK_stop S (k + 1))
    have HBe := hid hbe
    have H0 := hid h0
    have H1 := hid h1
    have hlt1 := h1.lt
    by_cases hlt : k < 4
    · by_cases herr : (S.read k).2 = 0
      · have e1 : looks S k = ((S.read k).1, hasU (S.read k).1, 0) := by unfold looks; rw [if_pos herr]
        have e2 : rdK S (k + 1) = ((stepU ((rdK S k).1, m) (hasU (S.read k).1)).1, (stepU ((rdK S k).1, m) (hasU (S.read k).1)).2, 0) := by
          rw [rdK, hst.out]
          simp [herr]
        rw [e1] at HL
        generalize hasU (S.read k).1 = x at *
        generalize hb : (rdK S k).1 = b at *
        generalize (S.read k).1 = l at *
        have HL2 : Hid (Calls Try.prog 46 #[.pointer (some ⟨p, 0, none⟩), .int .i64 (k : Int)] wr fun e w' => e = .returned (.tuple #[.string ⟨l.toArray⟩, .agg x.cells, .int .i64 0]) ∧ Below wr.heap.size wr w') := hid HL.out
        clear HL hbe h0 h1 hst e1 herr hb
        by_cases hg : b.seq < x.seq
        · have e3 : rdK S (k + 1) = (x, 1, 0) := by rw [e2]; simp [stepU, hg]
          have H3 := hid e3
          clear e2 e3
          go_wp2_with (first
            | (go_at_call 46; refine HL2.out.mono ?_; rintro e w2 ⟨rfl, hb2⟩; have r0 := H0.out.below hb2 (by omega); have r1 := H1.out.below hb2 hlt1; have bb := HBe.out.trans (hb2.mono HBe.out.size); have hne : w.heap.size + 1 < w2.heap.size := (by have := hb2.size; omega); clear hb2)
            | (refine wpl_store_st rfl (.tmp 9) (.tmp 19) rfl (n := 17) HZS.out w2.heap.size su0.cells x.cells rfl rfl (Row.new _ _ _) ?_ (hid rfl) (hid rfl) (cells_one _); intro w3 HR3 HB3; have r0' := (r0.alloc (.cells su0.cells 27)).grown HB3 (by intro e; have := Option.some.inj e; omega); have r1' := (r1.alloc (.cells su0.cells 27)).grown HB3 (by intro e; have := Option.some.inj e; omega); have bb' := (bb.alloc bb.size (.cells su0.cells 27)).trans (below_grown HB3 bb.size (by have := bb.size; simp; omega)); have cx : w3.cell? ⟨w2.heap.size, 0, none⟩ = some (.int .i64 x.seq) := HR3.at_ 0 _ rfl; have cb : w3.cell? ⟨w.heap.size + 1, 0, none⟩ = some (.int .i64 b.seq) := r1'.at_ 0 _ rfl; clear r0 r1 bb HB3)
            | (refine wpList_load_row rfl 27 (.tmp 9) rfl w2.heap.size rfl 27 x.cells (0, 0) _ HR3.arr Try.underlying27 rfl HZS.out ?_)
            | (refine wpl_store_st rfl (.tmp 5) (.tmp 31) rfl (n := 17) HZS.out (w.heap.size + 1) b.cells x.cells rfl rfl r1' ?_ (hid rfl) (hid rfl) (cells_one _); intro w4 HR4 HB4; have r0'' := r0'.grown HB4 (by simp); have bb'' := bb'.trans (below_grown HB4 (by omega) bb'.size); clear cx cb))
          go_roundw
          case rel => exact ⟨k + 1, 1, by omega, by go_num, rfl, by omega, hid (by rw [H3.out]), r0'', by rw [H3.out]; exact HR4, bb''⟩
          case measure => simp [intOf]; omega
        · by_cases hx : x = b
          · have e3 : rdK S (k + 1) = (b, m + 1, 0) := by rw [e2]; simp [stepU, hx]
            have H3 := hid e3
            have HEQ : decide (x = b) = true := by simp [hx]
            have HEQ := hid HEQ
            clear e2 e3 hx
            go_wp2_with (first
              | (go_at_call 46; refine HL2.out.mono ?_; rintro e w2 ⟨rfl, hb2⟩; have r0 := H0.out.below hb2 (by omega); have r1 := H1.out.below hb2 hlt1; have bb := HBe.out.trans (hb2.mono HBe.out.size); have hne : w.heap.size + 1 < w2.heap.size := (by have := hb2.size; omega); clear hb2)
              | (refine wpl_store_st rfl (.tmp 9) (.tmp 19) rfl (n := 17) HZS.out w2.heap.size su0.cells x.cells rfl rfl (Row.new _ _ _) ?_ (hid rfl) (hid rfl) (cells_one _); intro w3 HR3 HB3; have r0' := (r0.alloc (.cells su0.cells 27)).grown HB3 (by intro e; have := Option.some.inj e; omega); have r1' := (r1.alloc (.cells su0.cells 27)).grown HB3 (by intro e; have := Option.some.inj e; omega); have bb' := (bb.alloc bb.size (.cells su0.cells 27)).trans (below_grown HB3 bb.size (by have := bb.size; simp; omega)); have cx : w3.cell? ⟨w2.heap.size, 0, none⟩ = some (.int .i64 x.seq) := HR3.at_ 0 _ rfl; have cb : w3.cell? ⟨w.heap.size + 1, 0, none⟩ = some (.int .i64 b.seq) := r1'.at_ 0 _ rfl; clear r0 r1 bb HB3)
              | (refine wpList_load_row rfl 27 (.tmp 9) rfl w2.heap.size rfl 27 x.cells (0, 0) _ HR3.arr Try.underlying27 rfl HZS.out ?_)
              | (refine wpList_load_row rfl 27 (.tmp 5) rfl (w.heap.size + 1) rfl 27 b.cells (0, 0) _ r1'.arr Try.underlying27 rfl HZS.out ?_)
              | (refine wpl_eqsu rfl x b true HEQ.out (.tmp 33) (.tmp 34) _ rfl rfl rfl ?_))
            go_roundw
            case rel => exact ⟨k + 1, m + 1, by omega, by go_num, by go_num, by omega, hid (by rw [H3.out]), r0', by rw [H3.out]; exact r1', bb'⟩
            case measure => simp [intOf]; omega
          · have e3 : rdK S (k + 1) = (b, m, 0) := by rw [e2]; simp [stepU, hg, hx]
            have H3 := hid e3
            have HEQ : decide (x = b) = false := by simp [hx]
            have HEQ := hid HEQ
            clear e2 e3 hx
            go_wp2_with (first
              | (go_at_call 46; refine HL2.out.mono ?_; rintro e w2 ⟨rfl, hb2⟩; have r0 := H0.out.below hb2 (by omega); have r1 := H1.out.below hb2 hlt1; have bb := HBe.out.trans (hb2.mono HBe.out.size); have hne : w.heap.size + 1 < w2.heap.size := (by have := hb2.size; omega); clear hb2)
              | (refine wpl_store_st rfl (.tmp 9) (.tmp 19) rfl (n := 17) HZS.out w2.heap.size su0.cells x.cells rfl rfl (Row.new _ _ _) ?_ (hid rfl) (hid rfl) (cells_one _); intro w3 HR3 HB3; have r0' := (r0.alloc (.cells su0.cells 27)).grown HB3 (by intro e; have := Option.some.inj e; omega); have r1' := (r1.alloc (.cells su0.cells 27)).grown HB3 (by intro e; have := Option.some.inj e; omega); have bb' := (bb.alloc bb.size (.cells su0.cells 27)).trans (below_grown HB3 bb.size (by have := bb.size; simp; omega)); have cx : w3.cell? ⟨w2.heap.size, 0, none⟩ = some (.int .i64 x.seq) := HR3.at_ 0 _ rfl; have cb : w3.cell? ⟨w.heap.size + 1, 0, none⟩ = some (.int .i64 b.seq) := r1'.at_ 0 _ rfl; clear r0 r1 bb HB3)
              | (refine wpList_load_row rfl 27 (.tmp 9) rfl w2.heap.size rfl 27 x.cells (0, 0) _ HR3.arr Try.underlying27 rfl HZS.out ?_)
              | (refine wpList_load_row rfl 27 (.tmp 5) rfl (w.heap.size + 1) rfl 27 b.cells (0, 0) _ r1'.arr Try.underlying27 rfl HZS.out ?_)
              | (refine wpl_eqsu rfl x b false HEQ.out (.tmp 33) (.tmp 34) _ rfl rfl rfl ?_))
            go_roundw
            case rel => exact ⟨k + 1, m, by omega, by go_num, rfl, by omega, hid (by rw [H3.out]), r0', by rw [H3.out]; exact r1', bb'⟩
            case measure => simp [intOf]; omega
      · have e1 : looks S k = ([], su0, (S.read k).2) := by unfold looks; rw [if_neg herr]
        have e2 : rdK S (k + 1) = (su0, 0, (S.read k).2) := by
          rw [rdK, hst.out]
          simp [herr]
        have e3 : readU S = (su0, 0, (S.read k).2) := by
          have h4 : rdK S 4 = (su0, 0, (S.read k).2) := by
            have := HSTP.out (by rw [e2]; exact herr) (4 - (k + 1))
            rw [show k + 1 + (4 - (k + 1)) = 4 by omega, e2] at this
            exact this
          unfold readU
          rw [h4, if_pos herr]
        rw [e3]
        rw [e1] at HL
        have HX := hid (show ((S.read k).2 != 0) = true by simpa using herr)
        generalize (S.read k).2 = y at *
        have HL2 : Hid (Calls Try.prog 46 #[.pointer (some ⟨p, 0, none⟩), .int .i64 (k : Int)] wr fun e w' => e = .returned (.tuple #[.string ⟨([] : List UInt8).toArray⟩, .agg su0.cells, .int .i64 y]) ∧ Below wr.heap.size wr w') := hid HL.out
        clear HL hbe h0 h1 hst e1 e2 e3 herr HSTP
        have hx2 := HX.out
        go_wp2_with (first
          | (go_at_call 46; refine HL2.out.mono ?_; rintro e w2 ⟨rfl, hb2⟩; have r0 := H0.out.below hb2 (by omega); have r1 := H1.out.below hb2 hlt1; have bb := HBe.out.trans (hb2.mono HBe.out.size); have hne : w.heap.size + 1 < w2.heap.size := (by have := hb2.size; omega); clear hb2)
          | (refine wpl_store_st rfl (.tmp 9) (.tmp 19) rfl (n := 17) HZS.out w2.heap.size su0.cells su0.cells rfl rfl (Row.new _ _ _) ?_ (hid rfl) (hid rfl) (cells_one _); intro w3 HR3 HB3; have r0' := (r0.alloc (.cells su0.cells 27)).grown HB3 (by intro e; have := Option.some.inj e; omega); have r1' := (r1.alloc (.cells su0.cells 27)).grown HB3 (by intro e; have := Option.some.inj e; omega); have bb' := (bb.alloc bb.size (.cells su0.cells 27)).trans (below_grown HB3 bb.size (by have := bb.size; simp; omega)); clear r0 r1 bb HB3)
          | (refine wpl_store_st rfl (.tmp 2) (.tmp 23) rfl (n := 17) HZS.out w.heap.size su0.cells su0.cells rfl rfl r0' ?_ (hid rfl) (hid rfl) (cells_one _); intro w4 HR4 HB4; have bb'' := bb'.trans (below_grown HB4 (Nat.le_refl _) bb'.size)))
        exact bodyPost_ret (v := .tuple #[.agg su0.cells, .int .i64 0, .int .i64 y]) (results_cell2 rfl _ _ w.heap.size 27 su0.cells (0, 0) _ (.int .i64 0) (.int .i64 y) rfl rfl rfl HR4.arr Try.underlying27 rfl HZS.out) rfl ⟨rfl, bb''⟩
    · obtain rfl : k = 4 := by omega
      by_cases hz : (rdK S 4).1.seq = 0
      · have e3 : readU S = (su0, 0, 11) := by
          unfold readU
          rw [hst.out]
          simp [hz]
        have H3 := hid e3
        have cb : wr.cell? ⟨w.heap.size + 1, 0, none⟩ = some (.int .i64 0) := by rw [h1.at_ 0 (.int .i64 (rdK S 4).1.seq) rfl, hz]
        clear hst HL HSTP e3 hz H1 h1 hbe
        go_wp2_with (refine wpl_store_st rfl (.tmp 2) (.tmp 42) rfl (n := 17) HZS.out w.heap.size su0.cells su0.cells rfl rfl H0.out ?_ (hid rfl) (hid rfl) (cells_one _); intro w4 HR4 HB4)
        exact bodyPost_ret (v := .tuple #[.agg su0.cells, .int .i64 0, .int .i64 11]) (results_cell2 rfl _ _ w.heap.size 27 su0.cells (0, 0) _ (.int .i64 0) (.int .i64 11) rfl rfl rfl HR4.arr Try.underlying27 rfl HZS.out) rfl ⟨by rw [H3.out]; rfl, HBe.out.trans (below_grown HB4 (Nat.le_refl _) HBe.out.size)⟩
      · have e3 : readU S = ((rdK S 4).1, m, 0) := by
          unfold readU
          rw [hst.out]
          simp [hz]
        generalize (rdK S 4).1 = b at *
        have H3 := hid e3
        have cb : wr.cell? ⟨w.heap.size + 1, 0, none⟩ = some (.int .i64 b.seq) := h1.at_ 0 _ rfl
        have hz2 : (b.seq == 0) = false := by simpa using hz
        clear hst HL HSTP e3 hz h1 hbe
        go_wp2_with (first
          | (refine wpList_load_row rfl 27 (.tmp 5) rfl (w.heap.size + 1) rfl 27 b.cells (0, 0) _ H1.out.arr Try.underlying27 rfl HZS.out ?_)
          | (refine wpl_store_st rfl (.tmp 2) (.tmp 43) rfl (n := 17) HZS.out w.heap.size su0.cells b.cells rfl rfl H0.out ?_ (hid rfl) (hid rfl) (cells_one _); intro w4 HR4 HB4))
        exact bodyPost_ret (v := .tuple #[.agg b.cells, .int .i64 (m : Int), .int .i64 0]) (results_cell2 rfl _ _ w.heap.size 27 b.cells (0, 0) _ (.int .i64 (m : Int)) (.int .i64 0) rfl rfl rfl HR4.arr Try.underlying27 rfl HZS.out) rfl ⟨by rw [H3.out]; rfl, HBe.out.trans (below_grown HB4 (Nat.le_refl _) HBe.out.size)⟩
end Go.Proofs.Ytogchfpecbmocaa
/-
  The walks of package super's lay, Write.
-/
namespace Go.Proofs.Ytogchfpecbmocaa
open Go.RowKit
set_option maxRecDepth 10000

/-- what lay does -/
def layU (S : Sp) (i : Int) (l : List UInt8) : Sp × Int := if (S.write i l).2 ≠ 0 then S.write i l else (S.write i l).1.flush
/-- what Write does to a copy -/
def wrS (S : Sp) (s : Su) (k : Nat) : Sp × Int :=
  if (S.read k).2 ≠ 0 then (S, (S.read k).2) else if hasU (S.read k).1 = s then (S, 0) else layU S k (layS (nextS (S.read k).1) s.bytes)
/-- behind k copies -/
def wrK (S : Sp) (s : Su) : Nat → Sp × Int
  | 0 => (S, 0)
  | k + 1 => if (wrK S s k).2 ≠ 0 then wrK S s k else wrS (wrK S s k).1 s k
/-- what Write does -/
def writeU (S : Sp) (s : Su) : Sp × Int := if SR s then wrK S s 4 else (S, 4)
theorem wrK_stop (S : Sp) (s : Su) (j : Nat) (h : (wrK S s j).2 ≠ 0) : ∀ m, wrK S s (j + m) = wrK S s j
  | 0 => rfl
  | m + 1 => by
    rw [← Nat.add_assoc, wrK, wrK_stop S s j h m, if_pos h]
theorem Sp.goes_count (S : Sp) : S.goes.1.count ≤ S.count + 1 := by
  unfold Sp.goes
  split
  · simp
  · split <;> simp
theorem Sp.write_count (S : Sp) (i : Int) (l : List UInt8) : (S.write i l).1.count ≤ S.count + 1 := by
  have := S.goes_count
  unfold Sp.write
  split
  · simp
  · split <;> simpa using this
theorem Sp.flush_count (S : Sp) : S.flush.1.count ≤ S.count + 1 := by
  have := S.goes_count
  unfold Sp.flush
  split <;> simpa using this
theorem layU_count (S : Sp) (i : Int) (l : List UInt8) : (layU S i l).1.count ≤ S.count + 2 := by
  have h1 := S.write_count i l
  have h2 := (S.write i l).1.flush_count
  unfold layU
  split <;> omega
theorem wrS_count (S : Sp) (s : Su) (k : Nat) : (wrS S s k).1.count ≤ S.count + 2 := by
  unfold wrS
  split
  · simp
  · split
    · simp
    · exact layU_count _ _ _
theorem wrK_count (S : Sp) (s : Su) : ∀ k, (wrK S s k).1.count ≤ S.count + 2 * k
  | 0 => Nat.le_refl _
  | k + 1 => by
    have h1 := wrK_count S s k
    have h2 := wrS_count (wrK S s k).1 s k
    rw [wrK]
    split <;> omega
theorem read_len (S : Sp) (h : S.WF) (i : Int) : (S.read i).1.length ≤ 384 := by
  unfold Sp.read
  split
  · simp
  · split
    · simp
    · rename_i hi _
      have hi' : S.is i := Decidable.not_not.1 hi
      have hl : i.toNat < S.secs.length := by have := hi'.1; have := hi'.2; omega
      rw [List.getD_eq_getElem?_getD, List.getElem?_eq_getElem hl]
      rcases newest_get S.way i.toNat S.secs[i.toNat].lasts with ⟨_, h2, _⟩ | ⟨k, _, hk, _, h2⟩
      · show (lastw S.way i.toNat S.secs[i.toNat].lasts).length ≤ 384
        rw [h2, h.len _ (List.getElem_mem hl)]
        exact Nat.le_refl _
      · show (lastw S.way i.toNat S.secs[i.toNat].lasts).length ≤ 384
        rw [← h2, (h.way _ (List.getElem_mem hk)).2]
        exact Nat.le_refl _
theorem dx_trans {w w1 w2 : World} {p gs : Nat} {vw vw1 : Value} {S2 : Sp} (f1 : Fr w w1 (fpD p gs vw)) (o1 : ∀ g, vw1.ownBlock = some g → vw.ownBlock = some g ∨ w.heap.size ≤ g) (h2 : DX w1 p gs vw1 S2 w2) : DX w p gs vw S2 w2 := by
  obtain ⟨vw2, k1, k2, k3⟩ := h2
  have hs := f1.size
  refine ⟨vw2, k1, f1.trans k2 (fun b hb hlt => ?_), fun g hg => ?_⟩
  · simp only [fpD, List.mem_cons, Option.mem_toList] at hb ⊢
    rcases hb with h | h | h
    · exact .inl h
    · exact .inr (.inl h)
    · rcases o1 b h with h | h
      · exact .inr (.inr h)
      · omega
  · rcases k3 g hg with h | h
    · exact o1 g h
    · exact .inr (by omega)
set_option maxHeartbeats 1000000 in
theorem slay_any (p gs : Nat) (vw : Value) (S : Sp) (i : Int) (old text : ByteArray) (w : World) (h : HasD w p gs vw S) (hc : S.count ≤ 1000000) (ho : old.size ≤ 384) (ht : text.size ≤ 376) :
    Calls Try.prog 47 #[dptr p, .int .i64 i, .string old, .string text] w (DY w p gs vw (layU S i (layS (nextS (sb old)) (sb text))).1 (layU S i (layS (nextS (sb old)) (sb text))).2) := by
  have HS : Hid (∀ W, Calls Try.prog 67 #[.string old, .string text] W fun e w' => e = .returned (.tuple #[.string ⟨(layS (nextS (sb old)) (sb text)).toArray⟩, .int .i64 0]) ∧ Below W.heap.size W w') := hid fun W => by
    have h1 := seal_calls old text W (by omega)
    have e : sealS (sb old) (sb text) = (layS (nextS (sb old)) (sb text), 0) := by
      unfold sealS
      rw [if_neg (by rw [sb_len]; omega)]
    rw [e] at h1
    exact h1
  generalize layS (nextS (sb old)) (sb text) = l at *
  have hwc := S.write_count i l
  have HW : Hid (∀ W, HasD W p gs vw S → Calls Try.prog 68 #[.pointer (some ⟨p, 0, none⟩), .int .i64 i, .string ⟨l.toArray⟩] W (DY W p gs vw (S.write i l).1 (S.write i l).2)) := hid fun W hW => dy_write hW (by omega) i ⟨l.toArray⟩ (by rw [sb_mk])
  have HFl : Hid (∀ W vw', HasD W p gs vw' (S.write i l).1 → Calls Try.prog 69 #[.pointer (some ⟨p, 0, none⟩)] W (DY W p gs vw' (S.write i l).1.flush.1 (S.write i l).1.flush.2)) := hid fun W vw' hW => dy_flush hW (by omega) rfl
  have e0 : layU S i l = if (S.write i l).2 ≠ 0 then S.write i l else (S.write i l).1.flush := rfl
  have HH := hid h
  clear h
  by_cases hx : (S.write i l).2 = 0
  · rw [e0, if_neg (by simpa using hx)]
    rw [hx] at HW
    generalize (S.write i l).1.flush = R at *
    generalize (S.write i l).1 = S1 at *
    clear e0 hx hwc
    unfold dptr
    go_enter Try.func47, Try.ntmps47
    go_wp2_with (first
      | (go_at_call 67; refine (HS.out _).mono ?_; rintro e w1 ⟨rfl, hb1⟩)
      | (go_at_call 68; refine (HW.out _ (HH.out.below hb1)).mono ?_; rintro e w2 ⟨rfl, hd2⟩; have HD2 := hid (DX.of (Fr.of_below hb1) hd2); clear hd2; obtain ⟨vw2, k1, k2, k3⟩ := HD2.out; have K3 := hid k3; clear k3)
      | (go_at_call 69; refine (HFl.out _ _ k1).mono ?_; rintro e w3 ⟨rfl, hd3⟩))
    go_ret
    exact ⟨rfl, dx_trans k2 K3.out hd3⟩
  · rw [e0, if_pos hx]
    have hx2 : ((S.write i l).2 != 0) = true := by simpa using hx
    generalize (S.write i l).2 = x at *
    generalize (S.write i l).1 = S1 at *
    clear e0 hx hwc HFl
    have HX := hid hx2
    clear hx2
    unfold dptr
    go_enter Try.func47, Try.ntmps47
    have hx2 := HX.out
    go_wp2_with (first
      | (go_at_call 67; refine (HS.out _).mono ?_; rintro e w1 ⟨rfl, hb1⟩)
      | (go_at_call 68; refine (HW.out _ (HH.out.below hb1)).mono ?_; rintro e w2 ⟨rfl, hd2⟩; have HD2 := hid (DX.of (Fr.of_below hb1) hd2); clear hd2))
    go_ret
    exact ⟨rfl, HD2.out⟩
/-- the disk in the middle of Write; the box stays -/
structure Mid (w0 wr : World) (p gs : Nat) (vw : Value) (box : Nat) (s : Su) (S1 : Sp) : Prop where
  dx : DX w0 p gs vw S1 wr
  row : Row wr box 27 s.cells.toList
  nb : ∃ vk, HasD wr p gs vk S1 ∧ box ∉ fpD p gs vk ∧ Fr w0 wr (fpD p gs vw) ∧ ∀ g, vk.ownBlock = some g → vw.ownBlock = some g ∨ w0.heap.size ≤ g
theorem Mid.below {w0 wr w' : World} {p gs : Nat} {vw : Value} {box : Nat} {s : Su} {S1 : Sp} (h : Mid w0 wr p gs vw box s S1) (hb : Below wr.heap.size wr w') : Mid w0 w' p gs vw box s S1 := by
  obtain ⟨vk, k1, k2, k3, k4⟩ := h.nb
  have k3' : Fr w0 w' (fpD p gs vw) := k3.trans (Fr.of_below hb) (by simp)
  exact ⟨⟨vk, k1.below hb, k3', k4⟩, h.row.below hb h.row.lt, vk, k1.below hb, k2, k3', k4⟩
theorem Mid.step {w0 wr w' : World} {p gs : Nat} {vw vk : Value} {box : Nat} {s : Su} {S1 S2 : Sp} (h : Mid w0 wr p gs vw box s S1) (k2 : box ∉ fpD p gs vk) (k3 : Fr w0 wr (fpD p gs vw)) (k4 : ∀ g, vk.ownBlock = some g → vw.ownBlock = some g ∨ w0.heap.size ≤ g)
    (hd : DX wr p gs vk S2 w') : Mid w0 w' p gs vw box s S2 := by
  have hdx := dx_trans k3 k4 hd
  obtain ⟨v2, j1, j2, j3⟩ := hd
  have hs := k3.size
  have hrl := h.row.lt
  refine ⟨hdx, j2.row h.row k2, v2, j1, ?_, k3.trans j2 (fun b hb hlt => ?_), fun g hg => ?_⟩
  · simp only [fpD, List.mem_cons, Option.mem_toList, not_or] at k2 ⊢
    refine ⟨k2.1, k2.2.1, fun hg => ?_⟩
    rcases j3 box hg with h | h
    · exact k2.2.2 h
    · omega
  · simp only [fpD, List.mem_cons, Option.mem_toList] at hb ⊢
    rcases hb with h | h | h
    · exact .inl h
    · exact .inr (.inl h)
    · rcases k4 b h with h | h
      · exact .inr (.inr h)
      · omega
  · rcases j3 g hg with h | h
    · exact k4 g h
    · exact .inr (by omega)
end Go.Proofs.Ytogchfpecbmocaa
/-
  The walk of package super's Write.
-/
namespace Go.Proofs.Ytogchfpecbmocaa
open Go.RowKit
set_option maxRecDepth 10000

set_option maxHeartbeats 2000000 in
theorem swrite_any (p gs : Nat) (vw : Value) (S : Sp) (s : Su) (hf : s.fits) (w : World) (h : HasD w p gs vw S) (hc : S.count ≤ 900000) :
    Calls Try.prog 19 #[dptr p, s.val] w (DY w p gs vw (writeU S s).1 (writeU S s).2) := by
  have HZS := hid superSize
  have HPK : Hid (∀ W, Calls Try.prog 9 #[.agg s.cells] W fun e w' => e = .returned (.tuple #[.string ⟨(packU s).1.toArray⟩, .int .i64 (packU s).2]) ∧ Below W.heap.size W w') := hid fun W => spack_any s hf W
  have e0 : writeU S s = if SR s then wrK S s 4 else (S, 4) := rfl
  have ep : packU s = if SR s then (s.bytes, 0) else ([], 4) := rfl
  have HH := hid h
  show Calls Try.prog 19 #[.pointer (some ⟨p, 0, none⟩), .agg s.cells] w _
  by_cases hs : SR s
  · rw [if_pos hs] at e0
    have HWU := hid e0
    generalize writeU S s = RES at *
    rw [ep, if_pos hs] at HPK
    have HCNT := hid (wrK_count S s)
    have hbl := bytes_len s
    have HBL := hid (show (⟨s.bytes.toArray⟩ : ByteArray).size ≤ 376 by rw [← sb_len, sb_mk, hbl]; omega)
    clear e0 ep hf hs
    obtain ⟨bs, hbs⟩ : ∃ bs, bs = s.bytes := ⟨_, rfl⟩
    rw [← hbs] at HPK HBL
    have HBS := hid hbs
    clear hbl hbs
    have HCC := hid hc
    clear hc
    have HBX := hid h.lt
    clear h
    go_enter Try.func19, Try.ntmps19
    go_wp2_with (first
      | (refine wpList_load_row rfl 27 (.tmp 3) rfl w.heap.size rfl 27 s.cells (0, 0) _ (heap_alloc_new _ _) Try.underlying27 rfl HZS.out ?_)
      | (go_at_call 9; refine (HPK.out _).mono ?_; rintro e w1 ⟨rfl, hb1⟩))
    have M0 : Hid (Mid w w1 p gs vw w.heap.size s S) := hid (by
      have hb : Below w.heap.size w w1 := ((Below.refl _ _).alloc (Nat.le_refl _) _).trans (hb1.mono (by simp))
      have k1 := HH.out.below hb
      have k3 : Fr w w1 (fpD p gs vw) := (Fr.of_below hb).mono (by simp)
      exact ⟨⟨vw, k1, k3, fun g hg => .inl hg⟩, (Row.new w 27 s.cells).below hb1 (by simp), vw, k1, fun hm => Nat.lt_irrefl _ (HBX.out _ hm), k3, fun g hg => .inl hg⟩)
    clear hb1
    generalize w.heap.size = box at M0 ⊢
    go_loopw [20] (fun i wr => ∃ k : Nat, k ≤ 4 ∧ i = .int .i64 k ∧ Hid ((wrK S s k).2 = 0) ∧ Mid w wr p gs vw box s (wrK S s k).1) (fun i _ => 4 - (intOf i).toNat)
    case atStart => exact ⟨0, by omega, rfl, hid rfl, M0.out⟩
    case round =>
      obtain ⟨k, hk, rfl, hst, hm⟩ := hrel
      have HM := hid hm
      by_cases hlt : k < 4
      · have hck := HCNT.out k
        have hc := HCC.out
        have HSTP := hid (wrK_stop S s (k + 1))
        have e2 : wrK S s (k + 1) = wrS (wrK S s k).1 s k := by rw [wrK, if_neg (by rw [hst.out]; simp)]
        have HLK : Hid (Calls Try.prog 46 #[.pointer (some ⟨p, 0, none⟩), .int .i64 (k : Int)] wr (LK wr (looks (wrK S s k).1 k))) := hid (by
          obtain ⟨vk, k1, _⟩ := hm.nb
          exact look_any p gs vk (wrK S s k).1 k wr k1 (by omega))
        have HLY : Hid (∀ W vk, HasD W p gs vk (wrK S s k).1 → Calls Try.prog 47 #[.pointer (some ⟨p, 0, none⟩), .int .i64 (k : Int), .string ⟨((wrK S s k).1.read k).1.toArray⟩, .string ⟨bs.toArray⟩] W
            (DY W p gs vk (layU (wrK S s k).1 k (layS (nextS ((wrK S s k).1.read k).1) bs)).1 (layU (wrK S s k).1 k (layS (nextS ((wrK S s k).1.read k).1) bs)).2)) := hid fun W vk hW => by
          have := slay_any p gs vk (wrK S s k).1 k ⟨((wrK S s k).1.read k).1.toArray⟩ ⟨bs.toArray⟩ W hW (by omega) (by rw [← sb_len, sb_mk]; exact read_len _ hW.wf _) HBL.out
          rw [sb_mk, sb_mk] at this
          exact this
        have e3 : wrS (wrK S s k).1 s k = if ((wrK S s k).1.read k).2 ≠ 0 then ((wrK S s k).1, ((wrK S s k).1.read k).2) else if hasU ((wrK S s k).1.read k).1 = s then ((wrK S s k).1, 0) else layU (wrK S s k).1 k (layS (nextS ((wrK S s k).1.read k).1) bs) := by rw [HBS.out]; rfl
        have hend : (wrK S s (k + 1)).2 ≠ 0 → wrK S s 4 = wrK S s (k + 1) := fun he => by
          have := HSTP.out he (4 - (k + 1))
          rw [show k + 1 + (4 - (k + 1)) = 4 by omega] at this
          exact this
        have HEND := hid hend
        clear hend HSTP hm hck hc
        by_cases herr : ((wrK S s k).1.read k).2 = 0
        · have e1 : looks (wrK S s k).1 k = (((wrK S s k).1.read k).1, hasU ((wrK S s k).1.read k).1, 0) := by unfold looks; rw [if_pos herr]
          rw [e1] at HLK
          rw [e3, if_neg (by simpa using herr)] at e2
          clear e1 e3 herr
          generalize ((wrK S s k).1.read k).1 = l at *
          generalize hasU l = x at *
          have HL2 : Hid (Calls Try.prog 46 #[.pointer (some ⟨p, 0, none⟩), .int .i64 (k : Int)] wr fun e w' => e = .returned (.tuple #[.string ⟨l.toArray⟩, .agg x.cells, .int .i64 0]) ∧ Below wr.heap.size wr w') := hid HLK.out
          clear HLK
          by_cases hx : x = s
          · rw [if_pos hx] at e2
            have HEQ := hid (show decide (x = s) = true by simp [hx])
            have H2 := hid e2
            clear e2 hx
            go_wp2_with (first
              | (go_at_call 46; refine HL2.out.mono ?_; rintro e w2 ⟨rfl, hb2⟩; have md2 := HM.out.below hb2; have hne : box < w2.heap.size := (by have := hb2.size; have := HM.out.row.lt; omega); clear hb2)
              | (refine wpl_store_st rfl (.tmp 9) (.tmp 28) rfl (n := 17) HZS.out w2.heap.size su0.cells x.cells rfl rfl (Row.new _ _ _) ?_ (hid rfl) (hid rfl) (cells_one _); intro w3 HR3 HB3; have md3 := md2.below (((Below.refl w2.heap.size w2).alloc (Nat.le_refl _) (.cells su0.cells 27)).trans (below_grown HB3 (Nat.le_refl _) (by simp))); clear md2 HB3)
              | (refine wpList_load_row rfl 27 (.tmp 9) rfl w2.heap.size rfl 27 x.cells (0, 0) _ HR3.arr Try.underlying27 rfl HZS.out ?_)
              | (refine wpList_load_row rfl 27 (.tmp 3) rfl box rfl 27 s.cells (0, 0) _ md3.row.arr Try.underlying27 rfl HZS.out ?_)
              | (refine wpl_eqsu rfl x s true HEQ.out (.tmp 33) (.tmp 34) _ rfl rfl rfl ?_))
            go_roundw
            case rel => exact ⟨k + 1, by omega, by go_num, hid (by rw [H2.out]), by rw [H2.out]; exact md3⟩
            case measure => simp [intOf]; omega
          · rw [if_neg hx] at e2
            have HEQ := hid (show decide (x = s) = false by simp [hx])
            rw [e2] at HEND
            have H2 := hid e2
            clear e2 hx
            by_cases hz : (layU (wrK S s k).1 k (layS (nextS l) bs)).2 = 0
            · have HZ := hid hz
              rw [hz] at HLY
              clear hz
              go_wp2_with (first
                | (go_at_call 46; refine HL2.out.mono ?_; rintro e w2 ⟨rfl, hb2⟩; have md2 := HM.out.below hb2; have hne : box < w2.heap.size := (by have := hb2.size; have := HM.out.row.lt; omega); clear hb2)
                | (refine wpl_store_st rfl (.tmp 9) (.tmp 28) rfl (n := 17) HZS.out w2.heap.size su0.cells x.cells rfl rfl (Row.new _ _ _) ?_ (hid rfl) (hid rfl) (cells_one _); intro w3 HR3 HB3; have md3 := md2.below (((Below.refl w2.heap.size w2).alloc (Nat.le_refl _) (.cells su0.cells 27)).trans (below_grown HB3 (Nat.le_refl _) (by simp))); clear md2 HB3)
                | (refine wpList_load_row rfl 27 (.tmp 9) rfl w2.heap.size rfl 27 x.cells (0, 0) _ HR3.arr Try.underlying27 rfl HZS.out ?_)
                | (refine wpList_load_row rfl 27 (.tmp 3) rfl box rfl 27 s.cells (0, 0) _ md3.row.arr Try.underlying27 rfl HZS.out ?_)
                | (go_at_call 47; obtain ⟨vk, k1, k2, k3, k4⟩ := md3.nb; have K4 := hid k4; clear k4; refine (HLY.out _ _ k1).mono ?_; rintro e w5 ⟨rfl, hd5⟩; have HM5 := hid (md3.step k2 k3 K4.out hd5); clear hd5)
                | (refine wpl_eqsu rfl x s false HEQ.out (.tmp 33) (.tmp 34) _ rfl rfl rfl ?_))
              go_roundw
              case rel => exact ⟨k + 1, by omega, by go_num, hid (by rw [H2.out]; exact HZ.out), by rw [H2.out]; exact HM5.out⟩
              case measure => simp [intOf]; omega
            · have HE2 := hid (HEND.out hz)
              have hz2 : ((layU (wrK S s k).1 k (layS (nextS l) bs)).2 != 0) = true := by simpa using hz
              generalize layU (wrK S s k).1 k (layS (nextS l) bs) = R at *
              have HZ := hid hz2
              clear hz hz2 HEND
              have hz2 := HZ.out
              go_wp2_with (first
                | (go_at_call 46; refine HL2.out.mono ?_; rintro e w2 ⟨rfl, hb2⟩; have md2 := HM.out.below hb2; have hne : box < w2.heap.size := (by have := hb2.size; have := HM.out.row.lt; omega); clear hb2)
                | (refine wpl_store_st rfl (.tmp 9) (.tmp 28) rfl (n := 17) HZS.out w2.heap.size su0.cells x.cells rfl rfl (Row.new _ _ _) ?_ (hid rfl) (hid rfl) (cells_one _); intro w3 HR3 HB3; have md3 := md2.below (((Below.refl w2.heap.size w2).alloc (Nat.le_refl _) (.cells su0.cells 27)).trans (below_grown HB3 (Nat.le_refl _) (by simp))); clear md2 HB3)
                | (refine wpList_load_row rfl 27 (.tmp 9) rfl w2.heap.size rfl 27 x.cells (0, 0) _ HR3.arr Try.underlying27 rfl HZS.out ?_)
                | (refine wpList_load_row rfl 27 (.tmp 3) rfl box rfl 27 s.cells (0, 0) _ md3.row.arr Try.underlying27 rfl HZS.out ?_)
                | (go_at_call 47; obtain ⟨vk, k1, k2, k3, k4⟩ := md3.nb; have K4 := hid k4; clear k4; refine (HLY.out _ _ k1).mono ?_; rintro e w5 ⟨rfl, hd5⟩; have HM5 := hid (md3.step k2 k3 K4.out hd5); clear hd5)
                | (refine wpl_eqsu rfl x s false HEQ.out (.tmp 33) (.tmp 34) _ rfl rfl rfl ?_))
              go_ret
              rw [HWU.out, HE2.out]
              exact ⟨rfl, HM5.out.dx⟩
        · have e1 : looks (wrK S s k).1 k = ([], su0, ((wrK S s k).1.read k).2) := by unfold looks; rw [if_neg herr]
          rw [e1] at HLK
          rw [e3, if_pos herr] at e2
          have HE2 := hid (HEND.out (by rw [e2]; exact herr))
          rw [e2] at HE2
          have HX := hid (show (((wrK S s k).1.read k).2 != 0) = true by simpa using herr)
          clear e1 e2 e3 herr HLY HEND
          generalize ((wrK S s k).1.read k).2 = y at *
          have HL2 : Hid (Calls Try.prog 46 #[.pointer (some ⟨p, 0, none⟩), .int .i64 (k : Int)] wr fun e w' => e = .returned (.tuple #[.string ⟨([] : List UInt8).toArray⟩, .agg su0.cells, .int .i64 y]) ∧ Below wr.heap.size wr w') := hid HLK.out
          clear HLK
          have hx2 := HX.out
          go_wp2_with (first
            | (go_at_call 46; refine HL2.out.mono ?_; rintro e w2 ⟨rfl, hb2⟩; have md2 := HM.out.below hb2; have hne : box < w2.heap.size := (by have := hb2.size; have := HM.out.row.lt; omega); clear hb2)
            | (refine wpl_store_st rfl (.tmp 9) (.tmp 28) rfl (n := 17) HZS.out w2.heap.size su0.cells su0.cells rfl rfl (Row.new _ _ _) ?_ (hid rfl) (hid rfl) (cells_one _); intro w3 HR3 HB3; have md3 := md2.below (((Below.refl w2.heap.size w2).alloc (Nat.le_refl _) (.cells su0.cells 27)).trans (below_grown HB3 (Nat.le_refl _) (by simp))); clear md2 HB3))
          go_ret
          rw [HWU.out, HE2.out]
          exact ⟨rfl, md3.dx⟩
      · obtain rfl : k = 4 := by omega
        clear hm
        go_wp2_with fail
        go_ret
        rw [HWU.out]
        exact ⟨by rw [hst.out]; rfl, HM.out.dx⟩
  · rw [e0, if_neg hs]
    rw [ep, if_neg hs] at HPK
    clear e0 ep hs
    go_enter Try.func19, Try.ntmps19
    go_wp2_with (first
      | (refine wpList_load_row rfl 27 (.tmp 3) rfl w.heap.size rfl 27 s.cells (0, 0) _ (heap_alloc_new _ _) Try.underlying27 rfl HZS.out ?_)
      | (go_at_call 9; refine (HPK.out _).mono ?_; rintro e w1 ⟨rfl, hb1⟩))
    go_ret
    exact ⟨rfl, DX.of (Fr.of_below (((Below.refl w.heap.size w).alloc (Nat.le_refl _) _).trans (hb1.mono (by simp)))) (DX.same (HH.out.below (((Below.refl w.heap.size w).alloc (Nat.le_refl _) _).trans (hb1.mono (by simp)))))⟩
end Go.Proofs.Ytogchfpecbmocaa
/-
  Superblocks on a disk, in plain words: what Write leaves, wherever the power goes; what Read tells.
-/
namespace Go.Proofs.Ytogchfpecbmocaa
open Go.RowKit
set_option maxRecDepth 10000

def sec (S : Sp) (k : Nat) : Sec := S.secs.getD k ⟨[], false⟩
/-- four sectors or more, of their size -/
structure Ln (S : Sp) : Prop where
  n : 4 ≤ S.secs.length
  len : ∀ s ∈ S.secs, s.lasts.length = 384
/-- the power is on, nothing is under way -/
structure Cl (S : Sp) : Prop where
  on : S.on = true
  way : S.way = []
  ln : Ln S
theorem sec_mem {S : Sp} (h : Ln S) {k : Nat} (hk : k < 4) : ∃ hl : k < S.secs.length, sec S k = S.secs[k] := by
  have hl : k < S.secs.length := by have := h.n; omega
  exact ⟨hl, by rw [sec, List.getD_eq_getElem?_getD, List.getElem?_eq_getElem hl]; rfl⟩
theorem sec_len {S : Sp} (h : Ln S) {k : Nat} (hk : k < 4) : (sec S k).lasts.length = 384 := by
  obtain ⟨hl, e⟩ := sec_mem h hk
  rw [e]
  exact h.len _ (List.getElem_mem hl)
theorem sec_set {S S' : Sp} {k : Nat} {c : Sec} (hk : k < S.secs.length) (h : S'.secs = S.secs.set k c) (i : Nat) : sec S' i = if i = k then c else sec S i := by
  unfold sec
  rw [h, List.getD_eq_getElem?_getD, List.getD_eq_getElem?_getD, List.getElem?_set]
  by_cases e : i = k
  · subst e
    simp [hk]
  · rw [if_neg (fun h => e h.symm), if_neg e]
theorem sec_mod {S S' : Sp} {k : Nat} {f : Sec → Sec} (hk : k < S.secs.length) (h : S'.secs = S.secs.modify k f) (i : Nat) : sec S' i = if i = k then f (sec S i) else sec S i := by
  unfold sec
  rw [h, List.getD_eq_getElem?_getD, List.getD_eq_getElem?_getD, List.getElem?_modify]
  by_cases e : i = k
  · subst e
    simp [hk]
  · have e' : ¬ k = i := fun h => e h.symm
    simp [e, e']
theorem mod_set {secs : List Sec} {k : Nat} (f : Sec → Sec) (hk : k < secs.length) : secs.modify k f = secs.set k (f secs[k]) := by
  apply List.ext_getElem?
  intro i
  rw [List.getElem?_modify, List.getElem?_set]
  by_cases e : k = i
  · subst e
    simp [hk]
  · simp [e]
theorem ln_set {S S' : Sp} {k : Nat} {c : Sec} (h : Ln S) (hc : c.lasts.length = 384) (e : S'.secs = S.secs.set k c) : Ln S' :=
  ⟨by rw [e, List.length_set]; exact h.n, by rw [e]; exact set_wf S.secs h.len k c hc⟩
theorem read_cl {S : Sp} (h : Cl S) {k : Nat} (hk : k < 4) : S.read (k : Int) = ((sec S k).lasts, 0) := by
  have hn := h.ln.n
  unfold Sp.read
  rw [if_neg (by simp only [Decidable.not_not]; exact ⟨by omega, by omega⟩), if_neg (by rw [h.on]; simp), h.way]
  rfl
/-- the bytes that a superblock is written as, over a sector -/
def nw (c : Sec) (s : Su) : List UInt8 := layS (nextS c.lasts) s.bytes
theorem nw_len (c : Sec) (s : Su) : (nw c s).length = 384 := layS_len _ _ (by rw [bytes_len]; omega)
theorem lay_cl {S : Sp} (h : Cl S) (s : Su) {k : Nat} (hk : k < 4) :
    (∃ S', layU S k (nw (sec S k) s) = (S', 0) ∧ Cl S' ∧ S'.secs = S.secs.set k ⟨nw (sec S k) s, false⟩ ∧ (S.left = 0 → S'.left = 0)) ∨
    (S.left ≠ 0 ∧ ∃ S', layU S k (nw (sec S k) s) = (S', 6) ∧ S'.on = false ∧ S'.secs = S.secs ∧ (S'.way = [] ∨ S'.way = [⟨k, nw (sec S k) s⟩])) := by
  obtain ⟨hl, e0⟩ := sec_mem h.ln hk
  have hlen := nw_len (sec S k) s
  have hsl := sec_len h.ln hk
  generalize nw (sec S k) s = l at *
  by_cases h1 : S.left = 1
  · refine .inr ⟨by omega, { S with on := false, left := 0, count := S.count + 1 }, ?_⟩
    · have e1 : S.write k l = ({ S with on := false, left := 0, count := S.count + 1 }, 6) := by
        unfold Sp.write
        rw [if_neg (by rintro (h | h'); exact h ⟨by omega, by omega⟩; exact h' hlen), Sp.goes_one h.on h1, if_neg (by simp)]
      unfold layU
      rw [e1]
      exact ⟨rfl, rfl, rfl, .inl h.way⟩
  · have e1 := Sp.write_ok hl hlen h.on h1
    rw [h.way, List.nil_append] at e1
    by_cases h2 : S.left = 2
    · refine .inr ⟨by omega, { S with on := false, left := 0, count := S.count + 1 + 1, way := [⟨k, l⟩] }, ?_, rfl, rfl, .inr rfl⟩
      unfold layU
      rw [e1, if_neg (by simp)]
      unfold Sp.flush
      rw [Sp.goes_one (S := { S with left := S.left - 1, count := S.count + 1, way := [⟨k, l⟩] }) h.on (by simp [h2]), if_neg (by simp)]
    · refine .inl ⟨{ S with left := S.left - 1 - 1, count := S.count + 1 + 1, way := [], secs := S.secs.set k ⟨l, false⟩ }, ?_, ⟨h.on, rfl, ln_set h.ln (k := k) (c := ⟨l, false⟩) hlen rfl⟩, rfl, fun h0 => by simp [h0]⟩
      have e2 : sett (fun _ => 384) [⟨k, l⟩] S.secs = S.secs.set k ⟨l, false⟩ := by
        have := sett_snoc (fun _ => 384) [] ⟨k, l⟩ S.secs
        rw [List.nil_append, sett_nil] at this
        rw [this, mod_set _ hl]
        congr 1
        unfold takeD
        rw [List.take_of_length_le (by show l.length ≤ 384; omega), List.drop_eq_nil_of_le (by rw [← e0, hsl]; exact Nat.le_refl _)]
        simp
      unfold layU
      rw [e1, if_neg (by simp)]
      rw [Sp.flush_ok (S := { S with left := S.left - 1, count := S.count + 1, way := [⟨k, l⟩] }) h.on (by simp; omega)]
      simp only [e2]
theorem wrS_cl {S : Sp} (h : Cl S) (s : Su) {k : Nat} (hk : k < 4) : wrS S s k = if hasU (sec S k).lasts = s then (S, 0) else layU S k (nw (sec S k) s) := by
  unfold wrS
  rw [read_cl h hk]
  simp only [ne_eq, not_true_eq_false, if_false]
  rfl

/-- a copy has x, and it is whole -/
def Al (x : Su) (c : Sec) : Prop := (∃ g, c.lasts = layS g x.bytes) ∧ c.marked = false ∧ SR x ∧ x.fits
/-- a copy has rotted, or was torn -/
def De (c : Sec) : Prop := c.marked = true ∧ hasU c.lasts = su0
def Kc (o : Option Su) (c : Sec) : Prop := match o with
  | some x => Al x c
  | none => De c
def hasOf (o : Option Su) : Su := o.getD su0
theorem has_kc {o : Option Su} {c : Sec} (h : Kc o c) : hasU c.lasts = hasOf o := by
  cases o with
  | none => exact h.2
  | some x =>
    obtain ⟨⟨g, e⟩, _, h1, h2⟩ := h
    rw [e, hasU_lay g x h2 h1]
    rfl
/-- what the four copies have -/
def Ks (S : Sp) (K : Nat → Option Su) : Prop := ∀ i, i < 4 → Kc (K i) (sec S i)
def upd (K : Nat → Option Su) (i : Nat) (v : Option Su) (j : Nat) : Option Su := if j = i then v else K j
def on1 (o : Option Su) : Nat := if o.isNone then 1 else 0
/-- how many are dead -/
def dn (K : Nat → Option Su) : Nat := on1 (K 0) + on1 (K 1) + on1 (K 2) + on1 (K 3)
theorem on1_le (o : Option Su) : on1 o ≤ 1 := by unfold on1; split <;> omega
theorem four4 {i : Nat} (h : i < 4) : i = 0 ∨ i = 1 ∨ i = 2 ∨ i = 3 := by omega
theorem dn_upd (K : Nat → Option Su) {i : Nat} (hi : i < 4) (v : Option Su) : dn (upd K i v) + on1 (K i) = dn K + on1 v := by
  unfold dn upd
  rcases four4 hi with rfl | rfl | rfl | rfl <;> simp <;> omega
theorem dn_alive {K : Nat → Option Su} (h : dn K ≤ 3) : ∃ i x, i < 4 ∧ K i = some x := by
  by_cases h0 : ∃ x, K 0 = some x
  · exact ⟨0, h0.choose, by omega, h0.choose_spec⟩
  by_cases h1 : ∃ x, K 1 = some x
  · exact ⟨1, h1.choose, by omega, h1.choose_spec⟩
  by_cases h2 : ∃ x, K 2 = some x
  · exact ⟨2, h2.choose, by omega, h2.choose_spec⟩
  by_cases h3 : ∃ x, K 3 = some x
  · exact ⟨3, h3.choose, by omega, h3.choose_spec⟩
  have n : ∀ o : Option Su, ¬ (∃ x, o = some x) → on1 o = 1 := fun o ho => by
    cases o with
    | none => rfl
    | some x => exact absurd ⟨x, rfl⟩ ho
  unfold dn at h
  rw [n _ h0, n _ h1, n _ h2, n _ h3] at h
  omega
/-- the first j are the new one -/
def Kw (nx : Su) (j : Nat) (K : Nat → Option Su) (i : Nat) : Option Su := if i < j then some nx else K i
theorem al_nw (c : Sec) (s : Su) (hs : SR s) (hf : s.fits) : Al s ⟨nw c s, false⟩ := ⟨⟨_, rfl⟩, rfl, hs, hf⟩
theorem wrK_cl {S : Sp} (nx : Su) (hs : SR nx) (hf : nx.fits) (h : Cl S) (hK : ∀ i, i < 4 → hasU (sec S i).lasts ≠ nx ∨ Kc (some nx) (sec S i)) : ∀ j, j ≤ 4 →
    (∃ S', wrK S nx j = (S', 0) ∧ Cl S' ∧ (∀ i, i < 4 → if i < j then Al nx (sec S' i) else sec S' i = sec S i) ∧ S'.secs.length = S.secs.length ∧ (S.left = 0 → S'.left = 0)) ∨
    (S.left ≠ 0 ∧ ∃ S' k, k < j ∧ wrK S nx j = (S', 6) ∧ S'.on = false ∧ Ln S' ∧ (∀ i, i < 4 → if i < k then Al nx (sec S' i) else sec S' i = sec S i) ∧ S'.secs.length = S.secs.length ∧ (S'.way = [] ∨ S'.way = [⟨k, nw (sec S' k) nx⟩]))
  | 0, _ => .inl ⟨S, rfl, h, fun i _ => by simp, rfl, id⟩
  | j + 1, hj => by
    rcases wrK_cl nx hs hf h hK j (by omega) with ⟨S', e, hc, hk, hl, h0⟩ | ⟨hn, S', k, hkj, e, r⟩
    · have e1 : wrK S nx (j + 1) = wrS S' nx j := by rw [wrK, e]; simp
      have hj4 : j < 4 := by omega
      have hsame : sec S' j = sec S j := by have := hk j hj4; simpa using this
      rw [e1, wrS_cl hc nx hj4]
      by_cases hh : hasU (sec S' j).lasts = nx
      · rw [if_pos hh]
        refine .inl ⟨S', rfl, hc, fun i hi => ?_, hl, h0⟩
        have := hk i hi
        by_cases hij : i < j
        · rw [if_pos hij] at this
          rw [if_pos (by omega)]
          exact this
        · by_cases hij2 : i = j
          · subst hij2
            rw [if_pos (by omega)]
            rcases hK i hi with h1 | h1
            · rw [hsame] at hh
              exact absurd hh h1
            · rw [hsame]
              exact h1
          · rw [if_neg hij] at this
            rw [if_neg (by omega)]
            exact this
      · rw [if_neg hh]
        have hlj : j < S'.secs.length := by have := hc.ln.n; omega
        rcases lay_cl hc nx hj4 with ⟨S2, e2, c2, s2, l2⟩ | ⟨hn2, S2, e2, o2, s2, w2⟩
        · refine .inl ⟨S2, e2, c2, fun i hi => ?_, by rw [s2, List.length_set, hl], fun h => l2 (h0 h)⟩
          rw [sec_set hlj s2 i]
          have := hk i hi
          by_cases hij : i = j
          · rw [if_pos (by omega), if_pos hij]
            exact al_nw _ _ hs hf
          · rw [if_neg hij]
            by_cases hlt : i < j
            · rw [if_pos hlt] at this
              rw [if_pos (by omega)]
              exact this
            · rw [if_neg hlt] at this
              rw [if_neg (by omega)]
              exact this
        · have hln : S.left ≠ 0 := fun h => hn2 (h0 h)
          have hsec : ∀ i, sec S2 i = sec S' i := fun i => by unfold sec; rw [s2]
          refine .inr ⟨hln, S2, j, by omega, e2, o2, ⟨by rw [s2]; exact hc.ln.n, by rw [s2]; exact hc.ln.len⟩, fun i hi => ?_, by rw [s2, hl], ?_⟩
          · rw [hsec]
            exact hk i hi
          · rw [hsec]
            exact w2
    · refine .inr ⟨hn, S', k, by omega, ?_, r⟩
      rw [wrK, e, if_pos (by simp)]
end Go.Proofs.Ytogchfpecbmocaa
/-
  Superblocks on a disk, in plain words: what rots, what the power leaves, what Read tells.
-/
namespace Go.Proofs.Ytogchfpecbmocaa
open Go.RowKit
set_option maxRecDepth 10000

theorem xor_ne (x : UInt8) (m : Nat) (h1 : 1 ≤ m) (h2 : m ≤ 255) : x ^^^ UInt8.ofNat m ≠ x := by
  intro e
  have h3 : UInt8.ofNat m = 0 := by
    have h4 : x ^^^ (x ^^^ UInt8.ofNat m) = x ^^^ x := by rw [e]
    rw [← UInt8.xor_assoc, UInt8.xor_self, UInt8.zero_xor] at h4
    exact h4
  have h5 := congrArg UInt8.toNat h3
  simp at h5
  omega
theorem rot_cl {S : Sp} {K : Nat → Option Su} (hw : S.way = []) (hl : Ln S) (hk : Ks S K) {i a m : Nat} (hi : i < 4) (ha : a < 384) (h1 : 1 ≤ m) (h2 : m ≤ 255) :
    (S.rot i a m = (S, 7) ∧ K i = none) ∨
    (∃ S' x, S.rot i a m = (S', 0) ∧ K i = some x ∧ S'.on = S.on ∧ S'.way = S.way ∧ S'.left = S.left ∧ S'.count = S.count ∧ S'.secs.length = S.secs.length ∧ Ln S' ∧ Ks S' (upd K i none)) := by
  obtain ⟨hil, e0⟩ := sec_mem hl hi
  have hlen := sec_len hl hi
  have hki := hk i hi
  have h0 : ¬ (¬ S.is i ∨ (a : Int) < 0 ∨ 384 ≤ (a : Int) ∨ (m : Int) < 1 ∨ 255 < (m : Int)) := by
    rintro (h | h | h | h | h)
    · exact h ⟨by omega, by omega⟩
    all_goals omega
  have hr : S.rot i a m = if (sec S i).marked = true then (S, 7) else ({ S with secs := S.secs.modify i (fun s => turnS s a m) }, 0) := by
    unfold Sp.rot
    rw [if_neg h0, if_neg (by rw [hw]; simp [newest_nil])]
    simp only [Int.toNat_natCast]
    rfl
  rw [hr]
  cases ho : K i with
  | none =>
    rw [ho] at hki
    rw [if_pos hki.1]
    exact .inl ⟨rfl, rfl⟩
  | some x =>
    rw [ho] at hki
    obtain ⟨⟨g, hg⟩, hm, hs, hf⟩ := hki
    rw [if_neg (by rw [hm]; simp)]
    refine .inr ⟨_, x, rfl, rfl, rfl, rfl, rfl, rfl, by simp, ⟨by simp only [List.length_modify]; exact hl.n, ?_⟩, fun j hj => ?_⟩
    · rw [mod_set _ hil]
      refine set_wf S.secs hl.len i _ ?_
      rw [← e0]
      simp [turnS, hlen]
    · rw [sec_mod (S := S) hil rfl j]
      unfold upd
      by_cases e : j = i
      · subst e
        rw [if_pos rfl, if_pos rfl]
        refine ⟨rfl, hasU_none _ ?_⟩
        have hbl := bytes_len x
        have h3 := turns_not (sec S j).lasts a ((sec S j).lasts.getD a 0 ^^^ UInt8.ofNat m) (by rw [hg]; exact lay_good _ _ (by omega)) ha (by
          rw [List.getD_eq_getElem?_getD, List.getElem?_eq_getElem (by omega)]
          simp only [Option.getD_some, ne_eq, Option.some.injEq]
          exact fun h => xor_ne _ m h1 h2 h.symm)
        exact h3
      · rw [if_neg e, if_neg e]
        exact hk j hj
theorem start_cl {S : Sp} (ho : S.on = false) (hl : Ln S) (nx : Su) (hs : SR nx) (hf : nx.fits) {k : Nat} (hk : k < 4) (hw : S.way = [] ∨ S.way = [⟨k, nw (sec S k) nx⟩]) (picks : List Int) :
    ∃ S', S.start picks = (S', 0) ∧ Cl S' ∧ S'.left = S.left ∧ S'.count = S.count ∧ S'.secs.length = S.secs.length ∧ ∀ i, i < 4 → sec S' i = sec S i ∨ (i = k ∧ (Al nx (sec S' i) ∨ De (sec S' i))) := by
  obtain ⟨hkl, e0⟩ := sec_mem hl hk
  have hlen := sec_len hl hk
  have hbl := bytes_len nx
  have hnl := nw_len (sec S k) nx
  rw [Sp.start_ok ho]
  rcases hw with hw | hw
  · exact ⟨_, rfl, ⟨rfl, rfl, ⟨by simp only [hw, sett_nil]; exact hl.n, by simp only [hw, sett_nil]; exact hl.len⟩⟩, rfl, rfl, by simp [hw, sett_nil], fun i _ => .inl (by unfold sec; simp only [hw, sett_nil])⟩
  · have e1 : sett (pickOf picks) S.way S.secs = S.secs.modify k (fun s => takeD s (nw (sec S k) nx) (pickOf picks 0)) := by
      have := sett_snoc (pickOf picks) [] ⟨k, nw (sec S k) nx⟩ S.secs
      rw [List.nil_append, sett_nil] at this
      rw [hw, this]
      rfl
    have hp := pickOf_le picks 0
    rw [e1]
    refine ⟨_, rfl, ⟨rfl, rfl, ⟨by simp only [List.length_modify]; exact hl.n, ?_⟩⟩, rfl, rfl, by simp, fun i hi => ?_⟩
    · simp only
      rw [mod_set _ hkl]
      refine set_wf S.secs hl.len k _ ?_
      rw [← e0]
      exact takeS_len _ _ _ hlen hnl hp
    · rw [sec_mod (S := S) hkl rfl i]
      by_cases e : i = k
      · subst e
        rw [if_pos rfl]
        unfold takeD
        generalize pickOf picks 0 = c at *
        by_cases hc0 : c = 0
        · subst hc0
          exact .inl (by simp)
        · refine .inr ⟨rfl, ?_⟩
          rw [if_neg hc0]
          by_cases hc : c = 384
          · subst hc
            refine .inl ⟨⟨nextS (sec S i).lasts, ?_⟩, by simp, hs, hf⟩
            rw [List.take_of_length_le (by omega), List.drop_eq_nil_of_le (by omega), List.append_nil]
            rfl
          · refine .inr ⟨by simp; omega, hasU_none _ ?_⟩
            refine tears_not (nextS (sec S i).lasts) nx.bytes (sec S i).lasts c (by omega) ?_ (by omega) (by omega)
            unfold nextS
            rw [if_neg (by omega), hlen]
            intro h
            have h2 := congrArg UInt8.toNat h
            generalize (sec S i).lasts.getD 383 0 = y at *
            have h3 := UInt8.toNat_lt y
            simp at h2
            omega
      · rw [if_neg e]
        exact .inl rfl
/-- behind k copies that have H -/
def fo (H : Nat → Su) : Nat → Su × Nat
  | 0 => (su0, 0)
  | k + 1 => stepU (fo H k) (H k)
def hs_ (S : Sp) (i : Nat) : Su := hasU (sec S i).lasts
theorem rdK_cl {S : Sp} (h : Cl S) : ∀ k, k ≤ 4 → rdK S k = ((fo (hs_ S) k).1, (fo (hs_ S) k).2, 0)
  | 0, _ => rfl
  | k + 1, hk => by
    rw [rdK, rdK_cl h k (by omega), read_cl h (show k < 4 by omega)]
    simp only [ne_eq, not_true_eq_false, if_false]
    rfl
theorem fo_max (H : Nat → Su) : ∀ k, (∀ i, i < k → (H i).seq ≤ (fo H k).1.seq) ∧ 0 ≤ (fo H k).1.seq ∧ ((fo H k).1 = su0 ∨ ∃ i, i < k ∧ H i = (fo H k).1)
  | 0 => ⟨fun i hi => by omega, Int.le_refl _, .inl rfl⟩
  | k + 1 => by
    obtain ⟨h1, h0, h2⟩ := fo_max H k
    have e : fo H (k + 1) = stepU (fo H k) (H k) := rfl
    rw [e]
    unfold stepU
    split
    · rename_i hlt
      refine ⟨fun i hi => ?_, by show 0 ≤ (H k).seq; omega, .inr ⟨k, by omega, rfl⟩⟩
      by_cases hik : i = k
      · subst hik; exact Int.le_refl _
      · have := h1 i (by omega)
        show (H i).seq ≤ (H k).seq
        omega
    · rename_i hge
      have hr : ∀ i, i < k + 1 → (H i).seq ≤ (fo H k).1.seq := fun i hi => by
        by_cases hik : i = k
        · subst hik; omega
        · exact h1 i (by omega)
      have hm : (fo H k).1 = su0 ∨ ∃ i, i < k + 1 ∧ H i = (fo H k).1 := by
        rcases h2 with h2 | ⟨i, hi, h2⟩
        · exact .inl h2
        · exact .inr ⟨i, by omega, h2⟩
      split
      · exact ⟨hr, h0, hm⟩
      · exact ⟨hr, h0, hm⟩
theorem readU_cl {S : Sp} (h : Cl S) : readU S = if (fo (hs_ S) 4).1.seq = 0 then (su0, 0, 11) else ((fo (hs_ S) 4).1, (fo (hs_ S) 4).2, 0) := by
  unfold readU
  rw [rdK_cl h 4 (Nat.le_refl _)]
  simp only [ne_eq, not_true_eq_false, if_false]
/-- something is alive -/
theorem read_some {S : Sp} {K : Nat → Option Su} (h : Cl S) (hk : Ks S K) (hd : dn K ≤ 3) : ∃ t n, readU S = (t, n, 0) ∧ ∃ i, i < 4 ∧ K i = some t := by
  obtain ⟨i, x, hi, hx⟩ := dn_alive hd
  obtain ⟨h1, h0, h2⟩ := fo_max (hs_ S) 4
  have e1 : hs_ S i = x := by
    unfold hs_
    rw [has_kc (hk i hi), hx]
    rfl
  have e2 : 1 ≤ x.seq := by
    have := hk i hi
    rw [hx] at this
    exact this.2.2.1.1.1
  have e3 := h1 i hi
  rw [e1] at e3
  rw [readU_cl h, if_neg (by omega)]
  refine ⟨_, _, rfl, ?_⟩
  rcases h2 with h2 | ⟨j, hj, h2⟩
  · exfalso
    rw [h2] at e3
    have : su0.seq = 0 := rfl
    omega
  · refine ⟨j, hj, ?_⟩
    have e4 := has_kc (hk j hj)
    cases ho : K j with
    | none =>
      exfalso
      rw [ho] at e4
      have : hs_ S j = su0 := e4
      rw [← h2, this] at e3
      have : su0.seq = 0 := rfl
      omega
    | some y =>
      rw [ho] at e4
      have : hs_ S j = y := e4
      rw [← h2, this]
theorem read_all {S : Sp} (h : Cl S) (s : Su) (hs : SR s) (hk : ∀ i, i < 4 → hs_ S i = s) : readU S = (s, 4, 0) := by
  have h1 : 1 ≤ s.seq := hs.1.1
  have e : fo (hs_ S) 4 = stepU (stepU (stepU (stepU (su0, 0) (hs_ S 0)) (hs_ S 1)) (hs_ S 2)) (hs_ S 3) := rfl
  rw [hk 0 (by omega), hk 1 (by omega), hk 2 (by omega), hk 3 (by omega)] at e
  have e2 : stepU (su0, 0) s = (s, 1) := by unfold stepU; rw [if_pos (by show (0 : Int) < s.seq; omega)]
  have e3 : ∀ n, stepU (s, n) s = (s, n + 1) := fun n => by unfold stepU; rw [if_neg (by simp), if_pos rfl]
  rw [e2, e3, e3, e3] at e
  rw [readU_cl h, e, if_neg (by show ¬ s.seq = 0; omega)]
theorem read_none {S : Sp} (h : Cl S) (hk : ∀ i, i < 4 → hs_ S i = su0) : readU S = (su0, 0, 11) := by
  obtain ⟨h1, h0, h2⟩ := fo_max (hs_ S) 4
  rw [readU_cl h, if_pos]
  rcases h2 with h2 | ⟨j, hj, h2⟩
  · rw [h2]; rfl
  · rw [← h2, hk j hj]; rfl
theorem has_blank : hasU (b384 0) = su0 := by
  have e : (openS (b384 0)).1 = [] := by
    have h1 : (ttS (b384 0) 1 376).1 = [] := by decide +kernel
    unfold openS
    split
    · exact h1
    · rfl
  unfold hasU
  rw [e]
  rfl
/-- a write that the power lets be -/
theorem write_ok_cl {S : Sp} (s : Su) (hs : SR s) (hf : s.fits) (h : Cl S) (h0 : S.left = 0) (hK : ∀ i, i < 4 → hasU (sec S i).lasts ≠ s ∨ Al s (sec S i)) :
    ∃ S', writeU S s = (S', 0) ∧ Cl S' ∧ (∀ i, i < 4 → Al s (sec S' i)) ∧ S'.secs.length = S.secs.length ∧ S'.left = 0 := by
  rcases wrK_cl s hs hf h hK 4 (Nat.le_refl _) with ⟨S', e, hc, hk, hl, h2⟩ | ⟨hn, _⟩
  · refine ⟨S', by unfold writeU; rw [if_pos hs, e], hc, fun i hi => ?_, hl, h2 h0⟩
    have := hk i hi
    rwa [if_pos hi] at this
  · exact absurd h0 hn
theorem mk0_cl (n : Nat) (h4 : 4 ≤ n) : Cl (Sp.mk0 n) ∧ ∀ i, i < 4 → sec (Sp.mk0 n) i = sec0 := by
  refine ⟨⟨rfl, rfl, ⟨by simpa [Sp.mk0] using h4, fun s hs => ?_⟩⟩, fun i hi => ?_⟩
  · have : s = sec0 := List.eq_of_mem_replicate hs
    rw [this]
    exact sec0_len
  · unfold sec Sp.mk0
    rw [List.getD_eq_getElem?_getD, List.getElem?_replicate, if_pos (by omega)]
    rfl
theorem su_ne {s : Su} (hs : SR s) : su0 ≠ s := fun e => su0_not (e ▸ hs)
/-- a new disk, s written -/
theorem first_ok (n : Nat) (h4 : 4 ≤ n) (s : Su) (hs : SR s) (hf : s.fits) : ∃ S', writeU (Sp.mk0 n) s = (S', 0) ∧ Cl S' ∧ (∀ i, i < 4 → Al s (sec S' i)) ∧ S'.secs.length = n ∧ S'.left = 0 := by
  obtain ⟨h1, h2⟩ := mk0_cl n h4
  have h3 : ∀ i, i < 4 → hasU (sec (Sp.mk0 n) i).lasts ≠ s ∨ Al s (sec (Sp.mk0 n) i) := fun i hi => .inl (by rw [h2 i hi]; show hasU (b384 0) ≠ s; rw [has_blank]; exact su_ne hs)
  obtain ⟨S', e, a, b, c, d⟩ := write_ok_cl s hs hf h1 rfl h3
  exact ⟨S', e, a, b, by rw [c]; simp [Sp.mk0], d⟩
theorem read_first (n : Nat) (h4 : 4 ≤ n) : readU (Sp.mk0 n) = (su0, 0, 11) := by
  obtain ⟨h1, h2⟩ := mk0_cl n h4
  exact read_none h1 fun i hi => by unfold hs_; rw [h2 i hi]; exact has_blank
theorem al_has {s : Su} {c : Sec} (h : Al s c) : hasU c.lasts = s := has_kc (o := some s) h
theorem writeU_count (S : Sp) (s : Su) : (writeU S s).1.count ≤ S.count + 8 := by
  unfold writeU
  split
  · exact wrK_count S s 4
  · simp
/-- the chapter's example -/
def pl : Su := ⟨1, 1, 3, 0, 0, 0, 0, 0, 0, 0, 0, 0, 0, 0, 0, 0, 0⟩
theorem pl_sr : SR pl := by unfold SR pl; simp
theorem pl_fits : pl.fits := by unfold Su.fits pl In64 U64; simp
end Go.Proofs.Ytogchfpecbmocaa
/-
  Calls of package super on a disk of the law's own; the walks of plain, awake.
-/
namespace Go.Proofs.Ytogchfpecbmocaa
open Go.RowKit
set_option maxRecDepth 10000

section
variable {B : Nat} {w0 w w' : World} {p gs : Nat} {S S' : Sp}
theorem Dk.of (h : Dk B w0 w p gs S) (hb : Below w.heap.size w w') : Dk B w0 w' p gs S := h.fr (Fr.of_below hb)
theorem Dk.put {o : Obj} (h : Dk B w0 w p gs S) (hg : (w.alloc o).grownBy w' (some w.heap.size)) : Dk B w0 w' p gs S :=
  h.of (((Below.refl w.heap.size w).alloc (Nat.le_refl _) o).trans (below_grown hg (Nat.le_refl _) (by simp)))
theorem dk_sread (h : Dk B w0 w p gs S) (hc : S.count ≤ 1048576) {t : Su} {n : Nat} {x : Int} (hr : readU S = (t, n, x)) :
    Calls Try.prog 29 #[.pointer (some ⟨p, 0, none⟩)] w fun e w' => e = .returned (.tuple #[.agg t.cells, .int .i64 (n : Int), .int .i64 x]) ∧ Dk B w0 w' p gs S := by
  have hd := h
  obtain ⟨vw, h1, h2⟩ := h
  refine (sread_any p gs vw S w h1 hc).mono ?_
  rw [hr]
  rintro e w' ⟨rfl, hb⟩
  exact ⟨rfl, hd.of hb⟩
theorem dk_swrite (h : Dk B w0 w p gs S) (s : Su) (hf : s.fits) (hc : S.count ≤ 900000) {x : Int} (hr : writeU S s = (S', x)) :
    Calls Try.prog 19 #[.pointer (some ⟨p, 0, none⟩), .agg s.cells] w (DP B w0 p gs S' x) := by
  obtain ⟨vw, h1, h2, h3, h4⟩ := h
  refine (swrite_any p gs vw S s hf w h1 hc).mono ?_
  rw [hr]
  rintro e w' ⟨rfl, vw', k1, k2, k3⟩
  exact ⟨rfl, Dk.next h1 h2 h3 h4 k1 k2 k3⟩
end
theorem new4 (n : Nat) (h1 : 1 ≤ n) (h2 : n ≤ 64) (m : Int) (hm : m = (n : Int)) (w : World) : Calls Try.prog 17 #[.int .i64 m] w fun e w' => ∃ p gs, e = .returned (.tuple #[.pointer (some ⟨p, 0, none⟩), .int .i64 0]) ∧ Dk w.heap.size w w' p gs (Sp.mk0 n) := by
  subst hm
  exact dk_new n w h1 h2
theorem plain_any (w : World) : Calls Try.prog 35 #[] w (VE w (.agg pl.cells)) := by
  go_enter Try.func35, Try.ntmps35
  go_wp2_with fail
  exact bodyPost_ret (v := .agg pl.cells) (results_cell_row rfl _ _ w.heap.size 27 pl.cells (0, 0) _ rfl (heap_alloc_new _ _) Try.underlying27 rfl (by kernel_rfl)) rfl
    ⟨rfl, (Below.refl _ _).alloc (Nat.le_refl _) _⟩
theorem awake_plain : ∃ S', writeU (Sp.mk0 4) pl = (S', 0) ∧ readU S' = (pl, 4, 0) ∧ S'.count ≤ 8 := by
  obtain ⟨S', e, hc, hk, _, _⟩ := first_ok 4 (Nat.le_refl _) pl pl_sr pl_fits
  refine ⟨S', e, read_all hc pl pl_sr fun i hi => al_has (hk i hi), ?_⟩
  have := writeU_count (Sp.mk0 4) pl
  rw [e] at this
  exact this
set_option maxHeartbeats 2000000 in
theorem awake_any (w : World) : Calls Try.prog 8 #[] w (VE w (.bool true)) := by
  have HZS := hid superSize
  have HN := hid (fun W => new4 4 (by omega) (by omega) 4 rfl W)
  obtain ⟨S1, hw, hr, hc⟩ := awake_plain
  have HR0 : Hid (∀ W p gs, Dk w.heap.size w W p gs (Sp.mk0 4) → Calls Try.prog 29 #[.pointer (some ⟨p, 0, none⟩)] W fun e w' => e = .returned (.tuple #[.agg su0.cells, .int .i64 0, .int .i64 11]) ∧ Dk w.heap.size w w' p gs (Sp.mk0 4)) := hid fun W p gs h => dk_sread h (by simp [Sp.mk0]) (read_first 4 (Nat.le_refl _))
  have HR1 : Hid (∀ W p gs, Dk w.heap.size w W p gs S1 → Calls Try.prog 29 #[.pointer (some ⟨p, 0, none⟩)] W fun e w' => e = .returned (.tuple #[.agg pl.cells, .int .i64 4, .int .i64 0]) ∧ Dk w.heap.size w w' p gs S1) := hid fun W p gs h => dk_sread h (by omega) hr
  have HW : Hid (∀ W p gs, Dk w.heap.size w W p gs (Sp.mk0 4) → Calls Try.prog 19 #[.pointer (some ⟨p, 0, none⟩), .agg pl.cells] W (DP w.heap.size w p gs S1 0)) := hid fun W p gs h => dk_swrite h pl pl_fits (by simp [Sp.mk0]) hw
  have HPL := hid (fun W => plain_any W)
  generalize hP : pl.cells = P at *
  have HPS : Hid (P.size = 17) := hid (by rw [← hP]; rfl)
  have HPO : Hid (P.all (·.oneCell') = true) := hid (by rw [← hP]; exact cells_one pl)
  have HPP := hid hP
  generalize Sp.mk0 4 = S0 at *
  clear hw hr hc hP
  go_enter Try.func8, Try.ntmps8
  go_wp2_with (first
    | (go_at_call 17; refine (HN.out _).mono ?_; rintro e w1 ⟨p, gs, rfl, hd⟩)
    | (go_at_call 29; refine (HR1.out _ _ _ he).mono ?_; rintro e w6 ⟨rfl, hf⟩)
    | (go_at_call 29; refine (HR0.out _ _ _ hd).mono ?_; rintro e w2 ⟨rfl, hd2⟩)
    | (refine wpl_store_st rfl (.tmp 7) (.tmp 32) rfl (n := 17) HZS.out w6.heap.size su0.cells P rfl rfl (Row.new _ _ _) ?_ (hid rfl) HPS HPO; intro w7 HR7 HB7; have hh := hf.put HB7)
    | (refine wpl_store_st rfl (.tmp 3) (.tmp 23) rfl (n := 17) HZS.out w2.heap.size su0.cells su0.cells rfl rfl (Row.new _ _ _) ?_ (hid rfl) (hid rfl) (cells_one _); intro w3 HR3 HB3; have hd3 := hd2.put HB3)
    | (go_at_call 35; refine (HPL.out _).mono ?_; rintro e w4 ⟨rfl, hb4⟩; have hd4 := hd3.of hb4)
    | (go_at_call 19; refine (HW.out _ _ _ hd4).mono ?_; rintro e w5 ⟨rfl, he⟩))
  have HBE := hid hh.below
  have hle : w.heap.size ≤ w7.heap.size := hh.below.size
  clear hd hd2 hd3 hd4 he hf hh HB7
  refine wp_region_held_drew (S := fun W => Row W w6.heap.size 27 P.toList ∧ Below w.heap.size w W) (by kernel_rfl) (⟨HR7.drew, HBE.out.drew⟩) (fun hH => ?_)
  refine wpAnyH_take (i := 0) (v := .int .i64 11) rfl (by kernel_rfl) (by kernel_rfl) (by kernel_rfl) (fun _ _ _ h => h) (Or.inl ⟨by rfl, fun w' hw' => by clear hw'; go_simp⟩) hH ?_
  simp only [Act.put]
  refine wpAnyH_take (i := 1) (v := .bool true) rfl (by kernel_rfl) (by kernel_rfl) (by kernel_rfl) (fun _ _ _ h => h) (Or.inl ⟨by rfl, fun w' hw' => by clear hw'; go_simp⟩) hH ?_
  simp only [Act.put]
  refine wpAnyH_take (i := 2) (v := .bool true) rfl (by kernel_rfl) (by kernel_rfl) (by kernel_rfl) (fun _ _ _ h => h) (Or.inl ⟨by rfl, fun w' hw' => by clear hw'; go_simp⟩) hH ?_
  simp only [Act.put]
  refine wpAnyH_take (i := 3) (v := .int .i64 0) rfl (by kernel_rfl) (by kernel_rfl) (by kernel_rfl) (fun _ _ _ h => h) (Or.inl ⟨by kernel_rfl, fun w' hw' => by clear hw'; go_simp⟩) hH ?_
  simp only [Act.put]
  refine wpAnyH_take (i := 4) (v := .bool true) rfl (by kernel_rfl) (by kernel_rfl) (by kernel_rfl) (fun _ _ _ h => h) (Or.inl ⟨by kernel_rfl, fun w' hw' => by clear hw'; go_simp⟩) hH ?_
  simp only [Act.put]
  refine wpAnyH_take (i := 5) (v := .bool true) rfl (by kernel_rfl) (by kernel_rfl) (by kernel_rfl) (fun _ _ _ h => h) (Or.inl ⟨by rfl, fun w' hw' => by clear hw'; go_simp⟩) hH ?_
  simp only [Act.put]
  refine wpAnyH_take (i := 6) (v := .bool true) rfl (by kernel_rfl) (by kernel_rfl) (by kernel_rfl) (fun _ _ _ h => h) (Or.inl ⟨by rfl, fun w' hw' => by clear hw'; go_simp⟩) hH ?_
  simp only [Act.put]
  refine wpAnyH_take (i := 7) (v := .int .i64 0) rfl (by kernel_rfl) (by kernel_rfl) (by kernel_rfl) (fun _ _ _ h => h) (Or.inl ⟨by kernel_rfl, fun w' hw' => by clear hw'; go_simp⟩) hH ?_
  simp only [Act.put]
  refine wpAnyH_take (i := 8) (v := .bool true) rfl (by kernel_rfl) (by kernel_rfl) (by kernel_rfl) (fun _ _ _ h => h) (Or.inl ⟨by kernel_rfl, fun w' hw' => by clear hw'; go_simp⟩) hH ?_
  simp only [Act.put]
  refine wpAnyH_take (i := 9) (v := .bool true) rfl (by kernel_rfl) (by kernel_rfl) (by kernel_rfl) (fun _ _ _ h => h) (Or.inl ⟨by rfl, fun w' hw' => by clear hw'; go_simp⟩) hH ?_
  simp only [Act.put]
  refine wpAnyH_take (i := 10) (v := .bool true) rfl (by kernel_rfl) (by kernel_rfl) (by kernel_rfl) (fun _ _ _ h => h) (Or.inl ⟨by rfl, fun w' hw' => by clear hw'; go_simp⟩) hH ?_
  simp only [Act.put]
  refine wpAnyH_take (i := 11) (v := .agg P) rfl (by kernel_rfl) (by kernel_rfl) (by kernel_rfl) (fun _ _ _ h => h) ?_ hH ?_
  · refine yieldsIf_load_mid ?_ 27 (.tmp 7) ?_ w6.heap.size 0 ?_ (Array.toList P) _ (fun W hW => Row.range (hW.1)) Try.underlying27 rfl (by exact (by rw [Array.length_toList, HPS.out]; exact HZS.out))
    all_goals kernel_rfl
  simp only [Act.put]
  refine wpAnyH_ready (rs := [12]) (by kernel_rfl) (by simp) ?_
  refine AllReadyH.cons rfl (fun K hK => ?_) AllReadyH.nil
  rw [if_pos (by kernel_rfl)]
  go_simp
  go_at_call 35
  refine (HPL.out _).mono ?_
  rintro e w8 ⟨rfl, hb8⟩
  go_wp2_with fail
  refine hK.out _ _ (⟨hH.1.below hb8 hH.1.lt, hH.2.trans (hb8.mono hH.2.size)⟩) (fun hH => ?_)
  clear hK K
  try simp only [Act.put]
  refine wpAnyH_take (i := 13) (v := .bool true) rfl (by kernel_rfl) (by kernel_rfl) (by kernel_rfl) (fun _ _ _ h => h) (yields_eqsu (by kernel_rfl) pl pl true (by simp) (.tmp 46) (.tmp 47) _ rfl (by rw [HPP.out]; kernel_rfl) (by rw [HPP.out]; kernel_rfl)) hH ?_
  simp only [Act.put]
  refine wpAnyH_take (i := 14) (v := .bool true) rfl (by kernel_rfl) (by kernel_rfl) (by kernel_rfl) (fun _ _ _ h => h) (Or.inl ⟨by kernel_rfl, fun w' _ => by kernel_rfl⟩) hH ?_
  simp only [Act.put]
  refine wpAnyH_take (i := 15) (v := .bool true) rfl (by kernel_rfl) (by kernel_rfl) (by kernel_rfl) (fun _ _ _ h => h) (Or.inl ⟨by kernel_rfl, fun w' _ => by kernel_rfl⟩) hH ?_
  simp only [Act.put]
  refine wpAnyH_take (i := 16) (v := .int .i64 4) rfl (by kernel_rfl) (by kernel_rfl) (by kernel_rfl) (fun _ _ _ h => h) (Or.inl ⟨by kernel_rfl, fun w' _ => by kernel_rfl⟩) hH ?_
  simp only [Act.put]
  refine wpAnyH_take (i := 17) (v := .bool true) rfl (by kernel_rfl) (by kernel_rfl) (by kernel_rfl) (fun _ _ _ h => h) (Or.inl ⟨by kernel_rfl, fun w' _ => by kernel_rfl⟩) hH ?_
  simp only [Act.put]
  refine wpAnyH_take (i := 18) (v := .bool true) rfl (by kernel_rfl) (by kernel_rfl) (by kernel_rfl) (fun _ _ _ h => h) (Or.inl ⟨by kernel_rfl, fun w' _ => by kernel_rfl⟩) hH ?_
  simp only [Act.put]
  refine wpAnyH_ready (rs := [19]) (by kernel_rfl) (by simp) ?_
  refine AllReadyH.cons rfl (fun K hK => ?_) AllReadyH.nil
  go_simp
  refine hK.out _ _ (hH) (fun hH => ?_)
  clear hK K
  try simp only [Act.put]
  refine wpAnyH_done (by kernel_rfl) ?_ _
  try simp only [Act.put]
  go_wp2_with fail
  go_ret
  exact ⟨rfl, hH.2⟩
end Go.Proofs.Ytogchfpecbmocaa
