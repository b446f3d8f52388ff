/-
  Structs that are alike; the walks of the document's SameAccounts, SameTransfers, SameIDs, of equal lists.
-/
import Derived.Test.YtgednnjmcjhfmaaGreatDoorM11
import Derived.Test.YtgednnjmcjhfmaaGreatDoorM02
import Derived.Test.YtgednnjmcjhfmaaGreatDoorM09
import Derived.Deep.RegionHeld
import Derived.Laws.StructEq
namespace Go.Proofs.YtgednnjmcjhfmaaGreatDoor
open Go.RowKit
set_option maxRecDepth 10000
set_option maxHeartbeats 80000000
theorem fieldsAc : (Tryz.prog.fieldsOf 80).toList = [{ name := "ID", type := 29, offset := 0, embedded := false, tag := "", pkgPath := "", byteOffset := 0 }, { name := "Flags", type := 3, offset := 1, embedded := false, tag := "", pkgPath := "", byteOffset := 8 }, { name := "Debits", type := 29, offset := 2, embedded := false, tag := "", pkgPath := "", byteOffset := 16 }, { name := "Credits", type := 29, offset := 3, embedded := false, tag := "", pkgPath := "", byteOffset := 24 }] := by kernel_rfl
theorem eqAc (x : Ac) (W : World) : (Op.equalIn 10000 80 (.agg x.cells.toArray) (.agg x.cells.toArray)).run Tryz.prog W = .ok true W := by
 rw [run_equalIn_struct W 9999 80 x.cells.toArray x.cells.toArray (by kernel_rfl) (by kernel_rfl), fieldsAc]
 have x0 : x.cells.toArray[0]? = some (.int .u64 (x.id : Int)) := rfl
 have x1 : x.cells.toArray[1]? = some (.int .i64 (x.flags : Int)) := rfl
 have x2 : x.cells.toArray[2]? = some (.int .u64 (x.deb : Int)) := rfl
 have x3 : x.cells.toArray[3]? = some (.int .u64 (x.cre : Int)) := rfl
 generalize x.cells.toArray = X at *
 rw [eqF_int (P := Tryz.prog) (W := W) 9998 X X { name := "ID", type := 29, offset := 0, embedded := false, tag := "", pkgPath := "", byteOffset := 0 } _ .u64 (x.id : Int) (x.id : Int) (by simp) (part_int 29 X 0 _ .u64 Tryz.underlying29 sizeU64 x0) (part_int 29 X 0 _ .u64 Tryz.underlying29 sizeU64 x0) Tryz.underlying29, if_pos rfl]
 rw [eqF_int (P := Tryz.prog) (W := W) 9998 X X { name := "Flags", type := 3, offset := 1, embedded := false, tag := "", pkgPath := "", byteOffset := 8 } _ .i64 (x.flags : Int) (x.flags : Int) (by simp) (part_int 3 X 1 _ .i64 Tryz.underlying3 sizeInt x1) (part_int 3 X 1 _ .i64 Tryz.underlying3 sizeInt x1) Tryz.underlying3, if_pos rfl]
 rw [eqF_int (P := Tryz.prog) (W := W) 9998 X X { name := "Debits", type := 29, offset := 2, embedded := false, tag := "", pkgPath := "", byteOffset := 16 } _ .u64 (x.deb : Int) (x.deb : Int) (by simp) (part_int 29 X 2 _ .u64 Tryz.underlying29 sizeU64 x2) (part_int 29 X 2 _ .u64 Tryz.underlying29 sizeU64 x2) Tryz.underlying29, if_pos rfl]
 rw [eqF_int (P := Tryz.prog) (W := W) 9998 X X { name := "Credits", type := 29, offset := 3, embedded := false, tag := "", pkgPath := "", byteOffset := 24 } _ .u64 (x.cre : Int) (x.cre : Int) (by simp) (part_int 29 X 3 _ .u64 Tryz.underlying29 sizeU64 x3) (part_int 29 X 3 _ .u64 Tryz.underlying29 sizeU64 x3) Tryz.underlying29, if_pos rfl]
 rw [eqF_nil]
theorem fieldsTr : (Tryz.prog.fieldsOf 82).toList = [{ name := "ID", type := 29, offset := 0, embedded := false, tag := "", pkgPath := "", byteOffset := 0 }, { name := "Debit", type := 29, offset := 1, embedded := false, tag := "", pkgPath := "", byteOffset := 8 }, { name := "Credit", type := 29, offset := 2, embedded := false, tag := "", pkgPath := "", byteOffset := 16 }, { name := "Amount", type := 29, offset := 3, embedded := false, tag := "", pkgPath := "", byteOffset := 24 }] := by kernel_rfl
theorem eqTr (x : Tr) (W : World) : (Op.equalIn 10000 82 (.agg x.cells.toArray) (.agg x.cells.toArray)).run Tryz.prog W = .ok true W := by
 rw [run_equalIn_struct W 9999 82 x.cells.toArray x.cells.toArray (by kernel_rfl) (by kernel_rfl), fieldsTr]
 have x0 : x.cells.toArray[0]? = some (.int .u64 (x.a : Int)) := rfl
 have x1 : x.cells.toArray[1]? = some (.int .u64 (x.b : Int)) := rfl
 have x2 : x.cells.toArray[2]? = some (.int .u64 (x.c : Int)) := rfl
 have x3 : x.cells.toArray[3]? = some (.int .u64 (x.d : Int)) := rfl
 generalize x.cells.toArray = X at *
 rw [eqF_int (P := Tryz.prog) (W := W) 9998 X X { name := "ID", type := 29, offset := 0, embedded := false, tag := "", pkgPath := "", byteOffset := 0 } _ .u64 (x.a : Int) (x.a : Int) (by simp) (part_int 29 X 0 _ .u64 Tryz.underlying29 sizeU64 x0) (part_int 29 X 0 _ .u64 Tryz.underlying29 sizeU64 x0) Tryz.underlying29, if_pos rfl]
 rw [eqF_int (P := Tryz.prog) (W := W) 9998 X X { name := "Debit", type := 29, offset := 1, embedded := false, tag := "", pkgPath := "", byteOffset := 8 } _ .u64 (x.b : Int) (x.b : Int) (by simp) (part_int 29 X 1 _ .u64 Tryz.underlying29 sizeU64 x1) (part_int 29 X 1 _ .u64 Tryz.underlying29 sizeU64 x1) Tryz.underlying29, if_pos rfl]
 rw [eqF_int (P := Tryz.prog) (W := W) 9998 X X { name := "Credit", type := 29, offset := 2, embedded := false, tag := "", pkgPath := "", byteOffset := 16 } _ .u64 (x.c : Int) (x.c : Int) (by simp) (part_int 29 X 2 _ .u64 Tryz.underlying29 sizeU64 x2) (part_int 29 X 2 _ .u64 Tryz.underlying29 sizeU64 x2) Tryz.underlying29, if_pos rfl]
 rw [eqF_int (P := Tryz.prog) (W := W) 9998 X X { name := "Amount", type := 29, offset := 3, embedded := false, tag := "", pkgPath := "", byteOffset := 24 } _ .u64 (x.d : Int) (x.d : Int) (by simp) (part_int 29 X 3 _ .u64 Tryz.underlying29 sizeU64 x3) (part_int 29 X 3 _ .u64 Tryz.underlying29 sizeU64 x3) Tryz.underlying29, if_pos rfl]
 rw [eqF_nil]
theorem samea_any (A A' : Option Addr) (l : List Ac) (n c c' B : Nat) (w : World) (hr : Rd w B A (rows Ac.cells l)) (hr' : Rd w B A' (rows Ac.cells l)) (hn : n = l.length) (hc : n ≤ c) (hc' : n ≤ c') (hB : B ≤ w.heap.size) (hb : n ≤ 140737488355328) :
  Calls Tryz.prog 17 #[.slice A n c, .slice A' n c'] w (VE w (.bool true)) := by
 by_cases h0 : n = 0
 ·
  subst h0
  clear hr hr'
  go_enter Tryz.func17, Tryz.ntmps17
  go_wp2_with fail
  go_loop [5] (fun i => i = .int .i64 0) (fun _ => 0)
  case atStart => rfl
  case round =>
   obtain rfl := hrel
   go_wp2_with fail
   go_ret
   exact ⟨rfl, Below.refl _ _⟩
 have hlen := rows_len (C := Ac.cells) Ac.len l
 obtain ⟨g, o, rfl, hg, hx⟩ := id hr (by intro e; rw [e] at hlen; simp at hlen; omega)
 obtain ⟨g', o', rfl, hg', hx'⟩ := id hr' (by intro e; rw [e] at hlen; simp at hlen; omega)
 clear hx hx' hlen
 have HR := hid hr
 have HR' := hid hr'
 have HN := hid hn
 have hEG : Tryz.prog.eqGuardType Tryz.prog.depth 80 = false := by kernel_rfl
 have HZ := hid acSize
 clear hr hr' hn
 go_enter Tryz.func17, Tryz.ntmps17
 go_wp2_with fail
 go_loopw [5] (fun i wr => ∃ k : Nat, k ≤ n ∧ i = .int .i64 (k : Int) ∧ Below w.heap.size w wr) (fun i _ => n - (intOf i).toNat)
 case atStart => exact ⟨0, by omega, rfl, Below.refl _ _⟩
 case round =>
  obtain ⟨k, hk, rfl, hbe⟩ := hrel
  have HBE := hid hbe
  by_cases hlt : k < n
  ·
   have hkl : k < l.length := by rw [← HN.out]; exact hlt
   have hrg := fun W (hW : Below w.heap.size w W) => ((HR.out.below hW hB).range Ac.len k hkl)
   have hrg' := fun W (hW : Below w.heap.size w W) => ((HR'.out.below hW hB).range Ac.len k hkl)
   have hi : (k : Int) < (n : Int) := by omega
   have hi0 : (0 : Int) ≤ (k : Int) := by omega
   have hEQ := eqAc l[k]
   have hC4 : (Ac.cells l[k]).length = 4 := rfl
   generalize Ac.cells l[k] = X at *
   have HC4 := hid hC4
   have HRG := hid hrg
   have HRG' := hid hrg'
   clear hC4 hrg hrg' hbe
   go_wp2_with fail
   refine wp_region_held_drew (S := fun w' => Below w.heap.size w w') (by kernel_rfl) HBE.out.drew (fun hH => ?_)
   refine tk_ (i := 0) (v := .slice (some ⟨g, o, none⟩) n c) rfl (Or.inl ⟨by rfl, fun w' hw' => by clear hw' ; go_simp⟩) hH ?_
   simp only [Act.put]
   refine tk_ (i := 1) (v := .int .i64 (k : Int)) rfl (Or.inl ⟨by rfl, fun w' hw' => by clear hw' ; go_simp⟩) hH ?_
   simp only [Act.put]
   refine tk_ (i := 2) (v := .pointer (some ⟨g, o + k * 4, none⟩)) rfl (Or.inl ⟨by rfl, fun w' hw' => by clear hw' ; go_simp⟩) hH ?_
   simp only [Act.put]
   refine tk_ (i := 3) (v := .agg X.toArray) rfl (yieldsIf_load_mid rfl 80 (.tmp 19) rfl g (o + k * 4) rfl X _ (fun W hW => HRG.out W hW) Tryz.underlying80 rfl (by rw [HC4.out]; exact HZ.out)) hH ?_
   simp only [Act.put]
   refine tk_ (i := 4) (v := .slice (some ⟨g', o', none⟩) n c') rfl (Or.inl ⟨by rfl, fun w' hw' => by clear hw' ; go_simp⟩) hH ?_
   simp only [Act.put]
   refine tk_ (i := 5) (v := .int .i64 (k : Int)) rfl (Or.inl ⟨by rfl, fun w' hw' => by clear hw' ; go_simp⟩) hH ?_
   simp only [Act.put]
   refine tk_ (i := 6) (v := .pointer (some ⟨g', o' + k * 4, none⟩)) rfl (Or.inl ⟨by rfl, fun w' hw' => by clear hw' ; go_simp⟩) hH ?_
   simp only [Act.put]
   refine tk_ (i := 7) (v := .agg X.toArray) rfl (yieldsIf_load_mid rfl 80 (.tmp 23) rfl g' (o' + k * 4) rfl X _ (fun W hW => HRG'.out W hW) Tryz.underlying80 rfl (by rw [HC4.out]; exact HZ.out)) hH ?_
   simp only [Act.put]
   refine rd1 (i := 8) (by kernel_rfl) rfl (fun K hK => ?_)
   go_simp
   refine hK.out _ _ (hH) (fun hH => ?_)
   clear hK K
   try simp only [Act.put]
   refine wpAnyH_done (by kernel_rfl) ?_ _
   try simp only [Act.put]
   go_wp2_with fail
   exact ⟨⟨k + 1, by omega, by go_num, hH⟩, by simp [intOf]; omega⟩
  ·
   obtain rfl : k = n := by omega
   go_wp2_with fail
   go_ret
   exact ⟨rfl, HBE.out⟩
theorem samet_any (A A' : Option Addr) (l : List Tr) (n c c' B : Nat) (w : World) (hr : Rd w B A (rows Tr.cells l)) (hr' : Rd w B A' (rows Tr.cells l)) (hn : n = l.length) (hc : n ≤ c) (hc' : n ≤ c') (hB : B ≤ w.heap.size) (hb : n ≤ 140737488355328) :
  Calls Tryz.prog 19 #[.slice A n c, .slice A' n c'] w (VE w (.bool true)) := by
 by_cases h0 : n = 0
 ·
  subst h0
  clear hr hr'
  go_enter Tryz.func19, Tryz.ntmps19
  go_wp2_with fail
  go_loop [5] (fun i => i = .int .i64 0) (fun _ => 0)
  case atStart => rfl
  case round =>
   obtain rfl := hrel
   go_wp2_with fail
   go_ret
   exact ⟨rfl, Below.refl _ _⟩
 have hlen := rows_len (C := Tr.cells) Tr.len l
 obtain ⟨g, o, rfl, hg, hx⟩ := id hr (by intro e; rw [e] at hlen; simp at hlen; omega)
 obtain ⟨g', o', rfl, hg', hx'⟩ := id hr' (by intro e; rw [e] at hlen; simp at hlen; omega)
 clear hx hx' hlen
 have HR := hid hr
 have HR' := hid hr'
 have HN := hid hn
 have hEG : Tryz.prog.eqGuardType Tryz.prog.depth 82 = false := by kernel_rfl
 have HZ := hid trSize
 clear hr hr' hn
 go_enter Tryz.func19, Tryz.ntmps19
 go_wp2_with fail
 go_loopw [5] (fun i wr => ∃ k : Nat, k ≤ n ∧ i = .int .i64 (k : Int) ∧ Below w.heap.size w wr) (fun i _ => n - (intOf i).toNat)
 case atStart => exact ⟨0, by omega, rfl, Below.refl _ _⟩
 case round =>
  obtain ⟨k, hk, rfl, hbe⟩ := hrel
  have HBE := hid hbe
  by_cases hlt : k < n
  ·
   have hkl : k < l.length := by rw [← HN.out]; exact hlt
   have hrg := fun W (hW : Below w.heap.size w W) => ((HR.out.below hW hB).range Tr.len k hkl)
   have hrg' := fun W (hW : Below w.heap.size w W) => ((HR'.out.below hW hB).range Tr.len k hkl)
   have hi : (k : Int) < (n : Int) := by omega
   have hi0 : (0 : Int) ≤ (k : Int) := by omega
   have hEQ := eqTr l[k]
   have hC4 : (Tr.cells l[k]).length = 4 := rfl
   generalize Tr.cells l[k] = X at *
   have HC4 := hid hC4
   have HRG := hid hrg
   have HRG' := hid hrg'
   clear hC4 hrg hrg' hbe
   go_wp2_with fail
   refine wp_region_held_drew (S := fun w' => Below w.heap.size w w') (by kernel_rfl) HBE.out.drew (fun hH => ?_)
   refine tk_ (i := 0) (v := .slice (some ⟨g, o, none⟩) n c) rfl (Or.inl ⟨by rfl, fun w' hw' => by clear hw' ; go_simp⟩) hH ?_
   simp only [Act.put]
   refine tk_ (i := 1) (v := .int .i64 (k : Int)) rfl (Or.inl ⟨by rfl, fun w' hw' => by clear hw' ; go_simp⟩) hH ?_
   simp only [Act.put]
   refine tk_ (i := 2) (v := .pointer (some ⟨g, o + k * 4, none⟩)) rfl (Or.inl ⟨by rfl, fun w' hw' => by clear hw' ; go_simp⟩) hH ?_
   simp only [Act.put]
   refine tk_ (i := 3) (v := .agg X.toArray) rfl (yieldsIf_load_mid rfl 82 (.tmp 19) rfl g (o + k * 4) rfl X _ (fun W hW => HRG.out W hW) Tryz.underlying82 rfl (by rw [HC4.out]; exact HZ.out)) hH ?_
   simp only [Act.put]
   refine tk_ (i := 4) (v := .slice (some ⟨g', o', none⟩) n c') rfl (Or.inl ⟨by rfl, fun w' hw' => by clear hw' ; go_simp⟩) hH ?_
   simp only [Act.put]
   refine tk_ (i := 5) (v := .int .i64 (k : Int)) rfl (Or.inl ⟨by rfl, fun w' hw' => by clear hw' ; go_simp⟩) hH ?_
   simp only [Act.put]
   refine tk_ (i := 6) (v := .pointer (some ⟨g', o' + k * 4, none⟩)) rfl (Or.inl ⟨by rfl, fun w' hw' => by clear hw' ; go_simp⟩) hH ?_
   simp only [Act.put]
   refine tk_ (i := 7) (v := .agg X.toArray) rfl (yieldsIf_load_mid rfl 82 (.tmp 23) rfl g' (o' + k * 4) rfl X _ (fun W hW => HRG'.out W hW) Tryz.underlying82 rfl (by rw [HC4.out]; exact HZ.out)) hH ?_
   simp only [Act.put]
   refine rd1 (i := 8) (by kernel_rfl) rfl (fun K hK => ?_)
   go_simp
   refine hK.out _ _ (hH) (fun hH => ?_)
   clear hK K
   try simp only [Act.put]
   refine wpAnyH_done (by kernel_rfl) ?_ _
   try simp only [Act.put]
   go_wp2_with fail
   exact ⟨⟨k + 1, by omega, by go_num, hH⟩, by simp [intOf]; omega⟩
  ·
   obtain rfl : k = n := by omega
   go_wp2_with fail
   go_ret
   exact ⟨rfl, HBE.out⟩
end Go.Proofs.YtgednnjmcjhfmaaGreatDoor
