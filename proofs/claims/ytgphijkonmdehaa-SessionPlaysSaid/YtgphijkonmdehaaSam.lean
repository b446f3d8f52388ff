/-
  Sessions that are alike; the walk of the document's Same, of equal lists.
-/
import Derived.Test.YtgphijkonmdehaaLis
namespace Go.Proofs.Ytgphijkonmdehaa
open Go.RowKit
set_option maxRecDepth 10000

theorem eqF_int {P : Program} {W : World} (d : Nat) (xs ys : Array Value) (f : Field) (fs : List Field) (k : IntKind) (a b : Int) (hn : f.name ≠ "_") (hx : (Go.part f.type xs f.offset).run P W = .ok (.int k a) W) (hy : (Go.part f.type ys f.offset).run P W = .ok (.int k b) W) (ht : P.underlying f.type = some (.int k)) :
    (Op.eqFields (d + 1) xs ys (f :: fs)).run P W = if a = b then (Op.eqFields (d + 1) xs ys fs).run P W else .ok false W := by
  simp only [Op.eqFields, if_pos hn, Sem.run_bind, hx, hy, Result.andThen_ok, run_equalIn_int W d f.type k k a b ht]
  by_cases h : a = b
  · subst h
    simp
  · simp [h]
theorem eqF_nil {P : Program} {W : World} (d : Nat) (xs ys : Array Value) : (Op.eqFields d xs ys []).run P W = .ok true W := by simp [Op.eqFields]
theorem part_int {P : Program} {W : World} (t : TypeId) (xs : Array Value) (i : Nat) (v : Value) (ik : IntKind) (ht : P.underlying t = some (.int ik)) (hs : (P.info? t).map (·.size) = some 1) (hv : xs[i]? = some v) : (Go.part t xs i).run P W = .ok v W := by
  obtain ⟨j, hj, hjs⟩ := Option.map_eq_some_iff.1 hs
  simp [Go.part, isAgg, run_underlying ht, sizeOf, typeInfo, hj, hjs, hv]
theorem eqF_str {P : Program} {W : World} (d : Nat) (xs ys : Array Value) (f : Field) (fs : List Field) (a : ByteArray) (hn : f.name ≠ "_") (hx : (Go.part f.type xs f.offset).run P W = .ok (.string a) W) (hy : (Go.part f.type ys f.offset).run P W = .ok (.string a) W) (ht : P.underlying f.type = some .string) :
    (Op.eqFields (d + 1) xs ys (f :: fs)).run P W = (Op.eqFields (d + 1) xs ys fs).run P W := by
  simp only [Op.eqFields, if_pos hn, Sem.run_bind, hx, hy, Result.andThen_ok, run_equalIn_string W d f.type a a ht]
  simp
theorem part_str {P : Program} {W : World} (t : TypeId) (xs : Array Value) (i : Nat) (v : Value) (ht : P.underlying t = some .string) (hs : (P.info? t).map (·.size) = some 1) (hv : xs[i]? = some v) : (Go.part t xs i).run P W = .ok v W := by
  obtain ⟨j, hj, hjs⟩ := Option.map_eq_some_iff.1 hs
  simp [Go.part, isAgg, run_underlying ht, sizeOf, typeInfo, hj, hjs, hv]
theorem sizeInt : (Try.prog.info? 3).map (·.size) = some 1 := by kernel_rfl
theorem sizeStr : (Try.prog.info? 9).map (·.size) = some 1 := by kernel_rfl
theorem fieldsSs : (Try.prog.fieldsOf 37).toList = [{ name := "Client", type := 3, offset := 0, embedded := false, tag := "", pkgPath := "", byteOffset := 0 }, { name := "Session", type := 3, offset := 1, embedded := false, tag := "", pkgPath := "", byteOffset := 8 }, { name := "Request", type := 3, offset := 2, embedded := false, tag := "", pkgPath := "", byteOffset := 16 }, { name := "Op", type := 3, offset := 3, embedded := false, tag := "", pkgPath := "", byteOffset := 24 }, { name := "Reply", type := 9, offset := 4, embedded := false, tag := "", pkgPath := "", byteOffset := 32 }] := by kernel_rfl
theorem eqSs (x : Ss) (W : World) : (Op.equalIn 10000 37 (.agg x.cells.toArray) (.agg x.cells.toArray)).run Try.prog W = .ok true W := by
  rw [run_equalIn_struct W 9999 37 x.cells.toArray x.cells.toArray (by kernel_rfl) (by kernel_rfl), fieldsSs]
  have x0 : x.cells.toArray[0]? = some (.int .i64 x.c) := rfl
  have x1 : x.cells.toArray[1]? = some (.int .i64 x.s) := rfl
  have x2 : x.cells.toArray[2]? = some (.int .i64 x.r) := rfl
  have x3 : x.cells.toArray[3]? = some (.int .i64 x.o) := rfl
  have x4 : x.cells.toArray[4]? = some (.string x.t) := rfl
  generalize x.cells.toArray = X at *
  rw [eqF_int (P := Try.prog) (W := W) 9998 X X { name := "Client", type := 3, offset := 0, embedded := false, tag := "", pkgPath := "", byteOffset := 0 } _ .i64 x.c x.c (by simp) (part_int 3 X 0 _ .i64 Try.underlying3 sizeInt x0) (part_int 3 X 0 _ .i64 Try.underlying3 sizeInt x0) Try.underlying3, if_pos rfl]
  rw [eqF_int (P := Try.prog) (W := W) 9998 X X { name := "Session", type := 3, offset := 1, embedded := false, tag := "", pkgPath := "", byteOffset := 8 } _ .i64 x.s x.s (by simp) (part_int 3 X 1 _ .i64 Try.underlying3 sizeInt x1) (part_int 3 X 1 _ .i64 Try.underlying3 sizeInt x1) Try.underlying3, if_pos rfl]
  rw [eqF_int (P := Try.prog) (W := W) 9998 X X { name := "Request", type := 3, offset := 2, embedded := false, tag := "", pkgPath := "", byteOffset := 16 } _ .i64 x.r x.r (by simp) (part_int 3 X 2 _ .i64 Try.underlying3 sizeInt x2) (part_int 3 X 2 _ .i64 Try.underlying3 sizeInt x2) Try.underlying3, if_pos rfl]
  rw [eqF_int (P := Try.prog) (W := W) 9998 X X { name := "Op", type := 3, offset := 3, embedded := false, tag := "", pkgPath := "", byteOffset := 24 } _ .i64 x.o x.o (by simp) (part_int 3 X 3 _ .i64 Try.underlying3 sizeInt x3) (part_int 3 X 3 _ .i64 Try.underlying3 sizeInt x3) Try.underlying3, if_pos rfl]
  rw [eqF_str (P := Try.prog) (W := W) 9998 X X { name := "Reply", type := 9, offset := 4, embedded := false, tag := "", pkgPath := "", byteOffset := 32 } _ x.t (by simp) (part_str 9 X 4 _ Try.underlying9 sizeStr x4) (part_str 9 X 4 _ Try.underlying9 sizeStr x4) Try.underlying9]
  rw [eqF_nil]
set_option maxHeartbeats 1000000 in
theorem same_any (A A' : Option Addr) (l : List Ss) (n c c' B : Nat) (w : World) (hr : Rd w B A (rows Ss.cells l)) (hr' : Rd w B A' (rows Ss.cells l)) (hn : n = l.length) (hc : n ≤ c) (hc' : n ≤ c') (hB : B ≤ w.heap.size) (hb : n ≤ 140737488355328) :
    Calls Try.prog 14 #[.slice A n c, .slice A' n c'] w (VE w (.bool true)) := by
  by_cases h0 : n = 0
  · subst h0
    clear hr hr'
    go_enter Try.func14, Try.ntmps14
    go_wp2_with fail
    go_loop [5] (fun i => i = .int .i64 0) (fun _ => 0)
    case atStart => rfl
    case round =>
      obtain rfl := hrel
      go_wp2_with fail
      go_ret
      exact ⟨rfl, Below.refl _ _⟩
  have hlen := rows_len (C := Ss.cells) Ss.len l
  obtain ⟨g, o, rfl, hg, hx⟩ := id hr (by intro e; rw [e] at hlen; simp at hlen; omega)
  obtain ⟨g', o', rfl, hg', hx'⟩ := id hr' (by intro e; rw [e] at hlen; simp at hlen; omega)
  clear hx hx' hlen
  have HR := hid hr
  have HR' := hid hr'
  have HN := hid hn
  have hEG : Try.prog.eqGuardType Try.prog.depth 37 = false := by kernel_rfl
  have HZ := hid ssSize
  clear hr hr' hn
  go_enter Try.func14, Try.ntmps14
  go_wp2_with fail
  go_loopw [5] (fun i wr => ∃ k : Nat, k ≤ n ∧ i = .int .i64 (k : Int) ∧ Below w.heap.size w wr) (fun i _ => n - (intOf i).toNat)
  case atStart => exact ⟨0, by omega, rfl, Below.refl _ _⟩
  case round =>
    obtain ⟨k, hk, rfl, hbe⟩ := hrel
    have HBE := hid hbe
    by_cases hlt : k < n
    · have hkl : k < l.length := by rw [← HN.out]; exact hlt
      have hrg := fun W (hW : Below w.heap.size w W) => ((HR.out.below hW hB).range Ss.len k hkl)
      have hrg' := fun W (hW : Below w.heap.size w W) => ((HR'.out.below hW hB).range Ss.len k hkl)
      have hi : (k : Int) < (n : Int) := by omega
      have hi0 : (0 : Int) ≤ (k : Int) := by omega
      have hEQ := eqSs l[k]
      have hC4 : (Ss.cells l[k]).length = 5 := rfl
      generalize Ss.cells l[k] = X at *
      have HC4 := hid hC4
      have HRG := hid hrg
      have HRG' := hid hrg'
      clear hC4 hrg hrg' hbe
      go_wp2_with fail
      refine wp_region_held_drew (S := fun w' => Below w.heap.size w w') (by kernel_rfl) HBE.out.drew (fun hH => ?_)
      refine wpAnyH_take (i := 0) (v := .slice (some ⟨g, o, none⟩) n c) rfl (by kernel_rfl) (by kernel_rfl) (by kernel_rfl) (fun _ _ _ h => h) (Or.inl ⟨by rfl, fun w' hw' => by clear hw' ; go_simp⟩) hH ?_
      simp only [Act.put]
      refine wpAnyH_take (i := 1) (v := .int .i64 (k : Int)) rfl (by kernel_rfl) (by kernel_rfl) (by kernel_rfl) (fun _ _ _ h => h) (Or.inl ⟨by rfl, fun w' hw' => by clear hw' ; go_simp⟩) hH ?_
      simp only [Act.put]
      refine wpAnyH_take (i := 2) (v := .pointer (some ⟨g, o + k * 5, none⟩)) rfl (by kernel_rfl) (by kernel_rfl) (by kernel_rfl) (fun _ _ _ h => h) (Or.inl ⟨by rfl, fun w' hw' => by clear hw' ; go_simp⟩) hH ?_
      simp only [Act.put]
      refine wpAnyH_take (i := 3) (v := .agg X.toArray) rfl (by kernel_rfl) (by kernel_rfl) (by kernel_rfl) (fun _ _ _ h => h) (yieldsIf_load_mid rfl 37 (.tmp 19) rfl g (o + k * 5) rfl X _ (fun W hW => HRG.out W hW) Try.underlying37 rfl (by rw [HC4.out]; exact HZ.out)) hH ?_
      simp only [Act.put]
      refine wpAnyH_take (i := 4) (v := .slice (some ⟨g', o', none⟩) n c') rfl (by kernel_rfl) (by kernel_rfl) (by kernel_rfl) (fun _ _ _ h => h) (Or.inl ⟨by rfl, fun w' hw' => by clear hw' ; go_simp⟩) hH ?_
      simp only [Act.put]
      refine wpAnyH_take (i := 5) (v := .int .i64 (k : Int)) rfl (by kernel_rfl) (by kernel_rfl) (by kernel_rfl) (fun _ _ _ h => h) (Or.inl ⟨by rfl, fun w' hw' => by clear hw' ; go_simp⟩) hH ?_
      simp only [Act.put]
      refine wpAnyH_take (i := 6) (v := .pointer (some ⟨g', o' + k * 5, none⟩)) rfl (by kernel_rfl) (by kernel_rfl) (by kernel_rfl) (fun _ _ _ h => h) (Or.inl ⟨by rfl, fun w' hw' => by clear hw' ; go_simp⟩) hH ?_
      simp only [Act.put]
      refine wpAnyH_take (i := 7) (v := .agg X.toArray) rfl (by kernel_rfl) (by kernel_rfl) (by kernel_rfl) (fun _ _ _ h => h) (yieldsIf_load_mid rfl 37 (.tmp 23) rfl g' (o' + k * 5) rfl X _ (fun W hW => HRG'.out W hW) Try.underlying37 rfl (by rw [HC4.out]; exact HZ.out)) hH ?_
      simp only [Act.put]
      refine wpAnyH_ready (rs := [8]) (by kernel_rfl) (by simp) ?_
      refine AllReadyH.cons rfl (fun K hK => ?_) AllReadyH.nil
      go_simp
      refine hK.out _ _ (hH) (fun hH => ?_)
      clear hK K
      try simp only [Act.put]
      refine wpAnyH_done (by kernel_rfl) ?_ _
      try simp only [Act.put]
      go_wp2_with fail
      exact ⟨⟨k + 1, by omega, by go_num, hH⟩, by simp [intOf]; omega⟩
    · obtain rfl : k = n := by omega
      go_wp2_with fail
      go_ret
      exact ⟨rfl, HBE.out⟩

end Go.Proofs.Ytgphijkonmdehaa
