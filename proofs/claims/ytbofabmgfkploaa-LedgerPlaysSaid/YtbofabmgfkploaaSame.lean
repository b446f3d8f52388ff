/-
  Structs that are alike; the walks of the document's SameAccounts, SameTransfers, SameIDs, of equal lists.
-/
import Derived.Test.YtbofabmgfkploaaRef3
import Derived.Deep.RegionHeld
import Derived.Laws.StructEq
namespace Go.Proofs.Ytbofabmgfkploaa
open Go.RowKit
set_option maxRecDepth 10000

theorem eqF_int {P : Program} {W : World} (d : Nat) (xs ys : Array Value) (f : Field) (fs : List Field) (k : IntKind) (a b : Int) (hn : f.name ≠ "_") (hx : (Go.part f.type xs f.offset).run P W = .ok (.int k a) W) (hy : (Go.part f.type ys f.offset).run P W = .ok (.int k b) W) (ht : P.underlying f.type = some (.int k)) :
    (Op.eqFields (d + 1) xs ys (f :: fs)).run P W = if a = b then (Op.eqFields (d + 1) xs ys fs).run P W else .ok false W := by
  simp only [Op.eqFields, if_pos hn, Sem.run_bind, hx, hy, Result.andThen_ok, run_equalIn_int W d f.type k k a b ht]
  by_cases h : a = b
  · subst h
    simp
  · simp [h]
theorem eqF_nil {P : Program} {W : World} (d : Nat) (xs ys : Array Value) : (Op.eqFields d xs ys []).run P W = .ok true W := by simp [Op.eqFields]
theorem part_int {P : Program} {W : World} (t : TypeId) (xs : Array Value) (i : Nat) (v : Value) (ik : IntKind) (ht : P.underlying t = some (.int ik)) (hs : (P.info? t).map (·.size) = some 1) (hv : xs[i]? = some v) : (Go.part t xs i).run P W = .ok v W := by
  obtain ⟨j, hj, hjs⟩ := Option.map_eq_some_iff.1 hs
  simp [Go.part, isAgg, run_underlying ht, sizeOf, typeInfo, hj, hjs, hv]
theorem sizeInt : (Try.prog.info? 3).map (·.size) = some 1 := by kernel_rfl
theorem sizeU64 : (Try.prog.info? 41).map (·.size) = some 1 := by kernel_rfl
theorem fieldsAc : (Try.prog.fieldsOf 45).toList = [{ name := "ID", type := 41, offset := 0, embedded := false, tag := "", pkgPath := "", byteOffset := 0 }, { name := "Flags", type := 3, offset := 1, embedded := false, tag := "", pkgPath := "", byteOffset := 8 }, { name := "Debits", type := 41, offset := 2, embedded := false, tag := "", pkgPath := "", byteOffset := 16 }, { name := "Credits", type := 41, offset := 3, embedded := false, tag := "", pkgPath := "", byteOffset := 24 }] := by kernel_rfl
theorem eqAc (x : Ac) (W : World) : (Op.equalIn 10000 45 (.agg x.cells.toArray) (.agg x.cells.toArray)).run Try.prog W = .ok true W := by
  rw [run_equalIn_struct W 9999 45 x.cells.toArray x.cells.toArray (by kernel_rfl) (by kernel_rfl), fieldsAc]
  have x0 : x.cells.toArray[0]? = some (.int .u64 (x.id : Int)) := rfl
  have x1 : x.cells.toArray[1]? = some (.int .i64 (x.flags : Int)) := rfl
  have x2 : x.cells.toArray[2]? = some (.int .u64 (x.deb : Int)) := rfl
  have x3 : x.cells.toArray[3]? = some (.int .u64 (x.cre : Int)) := rfl
  generalize x.cells.toArray = X at *
  rw [eqF_int (P := Try.prog) (W := W) 9998 X X { name := "ID", type := 41, offset := 0, embedded := false, tag := "", pkgPath := "", byteOffset := 0 } _ .u64 (x.id : Int) (x.id : Int) (by simp) (part_int 41 X 0 _ .u64 Try.underlying41 sizeU64 x0) (part_int 41 X 0 _ .u64 Try.underlying41 sizeU64 x0) Try.underlying41, if_pos rfl]
  rw [eqF_int (P := Try.prog) (W := W) 9998 X X { name := "Flags", type := 3, offset := 1, embedded := false, tag := "", pkgPath := "", byteOffset := 8 } _ .i64 (x.flags : Int) (x.flags : Int) (by simp) (part_int 3 X 1 _ .i64 Try.underlying3 sizeInt x1) (part_int 3 X 1 _ .i64 Try.underlying3 sizeInt x1) Try.underlying3, if_pos rfl]
  rw [eqF_int (P := Try.prog) (W := W) 9998 X X { name := "Debits", type := 41, offset := 2, embedded := false, tag := "", pkgPath := "", byteOffset := 16 } _ .u64 (x.deb : Int) (x.deb : Int) (by simp) (part_int 41 X 2 _ .u64 Try.underlying41 sizeU64 x2) (part_int 41 X 2 _ .u64 Try.underlying41 sizeU64 x2) Try.underlying41, if_pos rfl]
  rw [eqF_int (P := Try.prog) (W := W) 9998 X X { name := "Credits", type := 41, offset := 3, embedded := false, tag := "", pkgPath := "", byteOffset := 24 } _ .u64 (x.cre : Int) (x.cre : Int) (by simp) (part_int 41 X 3 _ .u64 Try.underlying41 sizeU64 x3) (part_int 41 X 3 _ .u64 Try.underlying41 sizeU64 x3) Try.underlying41, if_pos rfl]
  rw [eqF_nil]
theorem fieldsTr : (Try.prog.fieldsOf 43).toList = [{ name := "ID", type := 41, offset := 0, embedded := false, tag := "", pkgPath := "", byteOffset := 0 }, { name := "Debit", type := 41, offset := 1, embedded := false, tag := "", pkgPath := "", byteOffset := 8 }, { name := "Credit", type := 41, offset := 2, embedded := false, tag := "", pkgPath := "", byteOffset := 16 }, { name := "Amount", type := 41, offset := 3, embedded := false, tag := "", pkgPath := "", byteOffset := 24 }] := by kernel_rfl
theorem eqTr (x : Tr) (W : World) : (Op.equalIn 10000 43 (.agg x.cells.toArray) (.agg x.cells.toArray)).run Try.prog W = .ok true W := by
  rw [run_equalIn_struct W 9999 43 x.cells.toArray x.cells.toArray (by kernel_rfl) (by kernel_rfl), fieldsTr]
  have x0 : x.cells.toArray[0]? = some (.int .u64 (x.a : Int)) := rfl
  have x1 : x.cells.toArray[1]? = some (.int .u64 (x.b : Int)) := rfl
  have x2 : x.cells.toArray[2]? = some (.int .u64 (x.c : Int)) := rfl
  have x3 : x.cells.toArray[3]? = some (.int .u64 (x.d : Int)) := rfl
  generalize x.cells.toArray = X at *
  rw [eqF_int (P := Try.prog) (W := W) 9998 X X { name := "ID", type := 41, offset := 0, embedded := false, tag := "", pkgPath := "", byteOffset := 0 } _ .u64 (x.a : Int) (x.a : Int) (by simp) (part_int 41 X 0 _ .u64 Try.underlying41 sizeU64 x0) (part_int 41 X 0 _ .u64 Try.underlying41 sizeU64 x0) Try.underlying41, if_pos rfl]
  rw [eqF_int (P := Try.prog) (W := W) 9998 X X { name := "Debit", type := 41, offset := 1, embedded := false, tag := "", pkgPath := "", byteOffset := 8 } _ .u64 (x.b : Int) (x.b : Int) (by simp) (part_int 41 X 1 _ .u64 Try.underlying41 sizeU64 x1) (part_int 41 X 1 _ .u64 Try.underlying41 sizeU64 x1) Try.underlying41, if_pos rfl]
  rw [eqF_int (P := Try.prog) (W := W) 9998 X X { name := "Credit", type := 41, offset := 2, embedded := false, tag := "", pkgPath := "", byteOffset := 16 } _ .u64 (x.c : Int) (x.c : Int) (by simp) (part_int 41 X 2 _ .u64 Try.underlying41 sizeU64 x2) (part_int 41 X 2 _ .u64 Try.underlying41 sizeU64 x2) Try.underlying41, if_pos rfl]
  rw [eqF_int (P := Try.prog) (W := W) 9998 X X { name := "Amount", type := 41, offset := 3, embedded := false, tag := "", pkgPath := "", byteOffset := 24 } _ .u64 (x.d : Int) (x.d : Int) (by simp) (part_int 41 X 3 _ .u64 Try.underlying41 sizeU64 x3) (part_int 41 X 3 _ .u64 Try.underlying41 sizeU64 x3) Try.underlying41, if_pos rfl]
  rw [eqF_nil]

set_option maxHeartbeats 1000000 in
theorem samea_any (A A' : Option Addr) (l : List Ac) (n c c' B : Nat) (w : World) (hr : Rd w B A (rows Ac.cells l)) (hr' : Rd w B A' (rows Ac.cells l)) (hn : n = l.length) (hc : n ≤ c) (hc' : n ≤ c') (hB : B ≤ w.heap.size) (hb : n ≤ 140737488355328) :
    Calls Try.prog 14 #[.slice A n c, .slice A' n c'] w (VE w (.bool true)) := by
  by_cases h0 : n = 0
  · subst h0
    clear hr hr'
    go_enter Try.func14, Try.ntmps14
    go_wp2_with fail
    go_loop [5] (fun i => i = .int .i64 0) (fun _ => 0)
    case atStart => rfl
    case round =>
      obtain rfl := hrel
      go_wp2_with fail
      go_ret
      exact ⟨rfl, Below.refl _ _⟩
  have hlen := rows_len (C := Ac.cells) Ac.len l
  obtain ⟨g, o, rfl, hg, hx⟩ := id hr (by intro e; rw [e] at hlen; simp at hlen; omega)
  obtain ⟨g', o', rfl, hg', hx'⟩ := id hr' (by intro e; rw [e] at hlen; simp at hlen; omega)
  clear hx hx' hlen
  have HR := hid hr
  have HR' := hid hr'
  have HN := hid hn
  have hEG : Try.prog.eqGuardType Try.prog.depth 45 = false := by kernel_rfl
  have HZ := hid acSize
  clear hr hr' hn
  go_enter Try.func14, Try.ntmps14
  go_wp2_with fail
  go_loopw [5] (fun i wr => ∃ k : Nat, k ≤ n ∧ i = .int .i64 (k : Int) ∧ Below w.heap.size w wr) (fun i _ => n - (intOf i).toNat)
  case atStart => exact ⟨0, by omega, rfl, Below.refl _ _⟩
  case round =>
    obtain ⟨k, hk, rfl, hbe⟩ := hrel
    have HBE := hid hbe
    by_cases hlt : k < n
    · have hkl : k < l.length := by rw [← HN.out]; exact hlt
      have hrg := fun W (hW : Below w.heap.size w W) => ((HR.out.below hW hB).range Ac.len k hkl)
      have hrg' := fun W (hW : Below w.heap.size w W) => ((HR'.out.below hW hB).range Ac.len k hkl)
      have hi : (k : Int) < (n : Int) := by omega
      have hi0 : (0 : Int) ≤ (k : Int) := by omega
      have hEQ := eqAc l[k]
      have hC4 : (Ac.cells l[k]).length = 4 := rfl
      generalize Ac.cells l[k] = X at *
      have HC4 := hid hC4
      have HRG := hid hrg
      have HRG' := hid hrg'
      clear hC4 hrg hrg' hbe
      go_wp2_with fail
      refine wp_region_held_drew (S := fun w' => Below w.heap.size w w') (by kernel_rfl) HBE.out.drew (fun hH => ?_)
      refine wpAnyH_take (i := 0) (v := .slice (some ⟨g, o, none⟩) n c) rfl (by kernel_rfl) (by kernel_rfl) (by kernel_rfl) (fun _ _ _ h => h) (Or.inl ⟨by rfl, fun w' hw' => by clear hw' ; go_simp⟩) hH ?_
      simp only [Act.put]
      refine wpAnyH_take (i := 1) (v := .int .i64 (k : Int)) rfl (by kernel_rfl) (by kernel_rfl) (by kernel_rfl) (fun _ _ _ h => h) (Or.inl ⟨by rfl, fun w' hw' => by clear hw' ; go_simp⟩) hH ?_
      simp only [Act.put]
      refine wpAnyH_take (i := 2) (v := .pointer (some ⟨g, o + k * 4, none⟩)) rfl (by kernel_rfl) (by kernel_rfl) (by kernel_rfl) (fun _ _ _ h => h) (Or.inl ⟨by rfl, fun w' hw' => by clear hw' ; go_simp⟩) hH ?_
      simp only [Act.put]
      refine wpAnyH_take (i := 3) (v := .agg X.toArray) rfl (by kernel_rfl) (by kernel_rfl) (by kernel_rfl) (fun _ _ _ h => h) (yieldsIf_load_mid rfl 45 (.tmp 19) rfl g (o + k * 4) rfl X _ (fun W hW => HRG.out W hW) Try.underlying45 rfl (by rw [HC4.out]; exact HZ.out)) hH ?_
      simp only [Act.put]
      refine wpAnyH_take (i := 4) (v := .slice (some ⟨g', o', none⟩) n c') rfl (by kernel_rfl) (by kernel_rfl) (by kernel_rfl) (fun _ _ _ h => h) (Or.inl ⟨by rfl, fun w' hw' => by clear hw' ; go_simp⟩) hH ?_
      simp only [Act.put]
      refine wpAnyH_take (i := 5) (v := .int .i64 (k : Int)) rfl (by kernel_rfl) (by kernel_rfl) (by kernel_rfl) (fun _ _ _ h => h) (Or.inl ⟨by rfl, fun w' hw' => by clear hw' ; go_simp⟩) hH ?_
      simp only [Act.put]
      refine wpAnyH_take (i := 6) (v := .pointer (some ⟨g', o' + k * 4, none⟩)) rfl (by kernel_rfl) (by kernel_rfl) (by kernel_rfl) (fun _ _ _ h => h) (Or.inl ⟨by rfl, fun w' hw' => by clear hw' ; go_simp⟩) hH ?_
      simp only [Act.put]
      refine wpAnyH_take (i := 7) (v := .agg X.toArray) rfl (by kernel_rfl) (by kernel_rfl) (by kernel_rfl) (fun _ _ _ h => h) (yieldsIf_load_mid rfl 45 (.tmp 23) rfl g' (o' + k * 4) rfl X _ (fun W hW => HRG'.out W hW) Try.underlying45 rfl (by rw [HC4.out]; exact HZ.out)) hH ?_
      simp only [Act.put]
      refine wpAnyH_ready (rs := [8]) (by kernel_rfl) (by simp) ?_
      refine AllReadyH.cons rfl (fun K hK => ?_) AllReadyH.nil
      go_simp
      refine hK.out _ _ (hH) (fun hH => ?_)
      clear hK K
      try simp only [Act.put]
      refine wpAnyH_done (by kernel_rfl) ?_ _
      try simp only [Act.put]
      go_wp2_with fail
      exact ⟨⟨k + 1, by omega, by go_num, hH⟩, by simp [intOf]; omega⟩
    · obtain rfl : k = n := by omega
      go_wp2_with fail
      go_ret
      exact ⟨rfl, HBE.out⟩

set_option maxHeartbeats 1000000 in
theorem samet_any (A A' : Option Addr) (l : List Tr) (n c c' B : Nat) (w : World) (hr : Rd w B A (rows Tr.cells l)) (hr' : Rd w B A' (rows Tr.cells l)) (hn : n = l.length) (hc : n ≤ c) (hc' : n ≤ c') (hB : B ≤ w.heap.size) (hb : n ≤ 140737488355328) :
    Calls Try.prog 16 #[.slice A n c, .slice A' n c'] w (VE w (.bool true)) := by
  by_cases h0 : n = 0
  · subst h0
    clear hr hr'
    go_enter Try.func16, Try.ntmps16
    go_wp2_with fail
    go_loop [5] (fun i => i = .int .i64 0) (fun _ => 0)
    case atStart => rfl
    case round =>
      obtain rfl := hrel
      go_wp2_with fail
      go_ret
      exact ⟨rfl, Below.refl _ _⟩
  have hlen := rows_len (C := Tr.cells) Tr.len l
  obtain ⟨g, o, rfl, hg, hx⟩ := id hr (by intro e; rw [e] at hlen; simp at hlen; omega)
  obtain ⟨g', o', rfl, hg', hx'⟩ := id hr' (by intro e; rw [e] at hlen; simp at hlen; omega)
  clear hx hx' hlen
  have HR := hid hr
  have HR' := hid hr'
  have HN := hid hn
  have hEG : Try.prog.eqGuardType Try.prog.depth 43 = false := by kernel_rfl
  have HZ := hid trSize
  clear hr hr' hn
  go_enter Try.func16, Try.ntmps16
  go_wp2_with fail
  go_loopw [5] (fun i wr => ∃ k : Nat, k ≤ n ∧ i = .int .i64 (k : Int) ∧ Below w.heap.size w wr) (fun i _ => n - (intOf i).toNat)
  case atStart => exact ⟨0, by omega, rfl, Below.refl _ _⟩
  case round =>
    obtain ⟨k, hk, rfl, hbe⟩ := hrel
    have HBE := hid hbe
    by_cases hlt : k < n
    · have hkl : k < l.length := by rw [← HN.out]; exact hlt
      have hrg := fun W (hW : Below w.heap.size w W) => ((HR.out.below hW hB).range Tr.len k hkl)
      have hrg' := fun W (hW : Below w.heap.size w W) => ((HR'.out.below hW hB).range Tr.len k hkl)
      have hi : (k : Int) < (n : Int) := by omega
      have hi0 : (0 : Int) ≤ (k : Int) := by omega
      have hEQ := eqTr l[k]
      have hC4 : (Tr.cells l[k]).length = 4 := rfl
      generalize Tr.cells l[k] = X at *
      have HC4 := hid hC4
      have HRG := hid hrg
      have HRG' := hid hrg'
      clear hC4 hrg hrg' hbe
      go_wp2_with fail
      refine wp_region_held_drew (S := fun w' => Below w.heap.size w w') (by kernel_rfl) HBE.out.drew (fun hH => ?_)
      refine wpAnyH_take (i := 0) (v := .slice (some ⟨g, o, none⟩) n c) rfl (by kernel_rfl) (by kernel_rfl) (by kernel_rfl) (fun _ _ _ h => h) (Or.inl ⟨by rfl, fun w' hw' => by clear hw' ; go_simp⟩) hH ?_
      simp only [Act.put]
      refine wpAnyH_take (i := 1) (v := .int .i64 (k : Int)) rfl (by kernel_rfl) (by kernel_rfl) (by kernel_rfl) (fun _ _ _ h => h) (Or.inl ⟨by rfl, fun w' hw' => by clear hw' ; go_simp⟩) hH ?_
      simp only [Act.put]
      refine wpAnyH_take (i := 2) (v := .pointer (some ⟨g, o + k * 4, none⟩)) rfl (by kernel_rfl) (by kernel_rfl) (by kernel_rfl) (fun _ _ _ h => h) (Or.inl ⟨by rfl, fun w' hw' => by clear hw' ; go_simp⟩) hH ?_
      simp only [Act.put]
      refine wpAnyH_take (i := 3) (v := .agg X.toArray) rfl (by kernel_rfl) (by kernel_rfl) (by kernel_rfl) (fun _ _ _ h => h) (yieldsIf_load_mid rfl 43 (.tmp 19) rfl g (o + k * 4) rfl X _ (fun W hW => HRG.out W hW) Try.underlying43 rfl (by rw [HC4.out]; exact HZ.out)) hH ?_
      simp only [Act.put]
      refine wpAnyH_take (i := 4) (v := .slice (some ⟨g', o', none⟩) n c') rfl (by kernel_rfl) (by kernel_rfl) (by kernel_rfl) (fun _ _ _ h => h) (Or.inl ⟨by rfl, fun w' hw' => by clear hw' ; go_simp⟩) hH ?_
      simp only [Act.put]
      refine wpAnyH_take (i := 5) (v := .int .i64 (k : Int)) rfl (by kernel_rfl) (by kernel_rfl) (by kernel_rfl) (fun _ _ _ h => h) (Or.inl ⟨by rfl, fun w' hw' => by clear hw' ; go_simp⟩) hH ?_
      simp only [Act.put]
      refine wpAnyH_take (i := 6) (v := .pointer (some ⟨g', o' + k * 4, none⟩)) rfl (by kernel_rfl) (by kernel_rfl) (by kernel_rfl) (fun _ _ _ h => h) (Or.inl ⟨by rfl, fun w' hw' => by clear hw' ; go_simp⟩) hH ?_
      simp only [Act.put]
      refine wpAnyH_take (i := 7) (v := .agg X.toArray) rfl (by kernel_rfl) (by kernel_rfl) (by kernel_rfl) (fun _ _ _ h => h) (yieldsIf_load_mid rfl 43 (.tmp 23) rfl g' (o' + k * 4) rfl X _ (fun W hW => HRG'.out W hW) Try.underlying43 rfl (by rw [HC4.out]; exact HZ.out)) hH ?_
      simp only [Act.put]
      refine wpAnyH_ready (rs := [8]) (by kernel_rfl) (by simp) ?_
      refine AllReadyH.cons rfl (fun K hK => ?_) AllReadyH.nil
      go_simp
      refine hK.out _ _ (hH) (fun hH => ?_)
      clear hK K
      try simp only [Act.put]
      refine wpAnyH_done (by kernel_rfl) ?_ _
      try simp only [Act.put]
      go_wp2_with fail
      exact ⟨⟨k + 1, by omega, by go_num, hH⟩, by simp [intOf]; omega⟩
    · obtain rfl : k = n := by omega
      go_wp2_with fail
      go_ret
      exact ⟨rfl, HBE.out⟩

end Go.Proofs.Ytbofabmgfkploaa
