/-
  The walks of MarkOf, package entry's and the document's.
-/
import Derived.Test.YtdimlfjepliflaaGreatDoorD19
import Derived.Test.YtdimlfjepliflaaGreatDoorD20
import Derived.Test.YtdimlfjepliflaaGreatDoorD16
import Derived.Test.YtdimlfjepliflaaGreatDoorD17
import Derived.Test.YtdimlfjepliflaaGreatDoorD10
import Derived.Test.YtdimlfjepliflaaGreatDoorD11
import Derived.BigQuiet
import Derived.Deep.RegionHeld
import Derived.Test.YtdimlfjepliflaaGreatDoorD03
import Derived.Test.YtdimlfjepliflaaGreatDoorD18
namespace Go.Proofs.YtdimlfjepliflaaGreatDoor
open Go.RowKit
set_option maxRecDepth 10000

/-- what MarkOf answers -/
def markE (e : En) : Mk := if (packE e).2 = 0 then ⟨e.opn, e.view, (chainOf (BitVec.ofNat 64 e.parent) (packE e).1).toNat⟩ else mk0
theorem wp_store_st9 {P : Program} {o : Oper} {a : Act} {w : World} {K : Act → World → Prop} {Q : Exit → Act → World → Prop} {T : TypeId} (x y : Operand) (ho : o.op = .store T x y) {n : Nat} (hn : (P.info? T).map (·.size) = some n)
    (g : Nat) (cs0 cs : Array Value) (hx : a.eval x = .pointer (some ⟨g, 0, none⟩)) (hy : a.eval y = .agg cs) (hrow : Row w g T cs0.toList) (h0 : cs0.size = n) (h1 : cs.size = n) (hone : cs.all (·.oneCell') = true)
    (hK : ∀ w', Row w' g T cs.toList → w.grownBy w' (some g) → K (a.put o.dst undef) w') : o.wp P a w K Q :=
  wp_store_row T x y ho g cs hx hy T cs0 hrow.arr (by rw [hn, h1]) (by simp [h0, h1]) (by simpa using hone)
    (hK _ (by
      have := setRow_heap w g cs0 cs T (0, 0) hrow.arr
      simpa [Row] using this) (grownBy_setRow w g _))
set_option maxHeartbeats 1000000 in
theorem emark_no (view opn under : Int) (parent : Nat) (client session request oper : Int) (body : ByteArray) (T : ByteArray) (f : Int) (w : World) (hf : Fd w) (h0 : (f != 0) = true)
    (HP : Hid (∀ W : World, Fd W → Calls Tryz.prog 69 #[.agg #[.int .i64 view, .int .i64 opn, .int .i64 under, .int .u64 (parent : Int), .int .i64 client, .int .i64 session, .int .i64 request, .int .i64 oper, .string body]] W fun x W' => x = .returned (.tuple #[.string T, .int .i64 f]) ∧ Below W.heap.size W W')) :
    Calls Tryz.prog 32 #[.agg #[.int .i64 view, .int .i64 opn, .int .i64 under, .int .u64 (parent : Int), .int .i64 client, .int .i64 session, .int .i64 request, .int .i64 oper, .string body]] w (VE w (.agg #[.int .i64 0, .int .i64 0, .int .u64 0])) := by
  have HZ := hid esize
  have HZM := hid msize
  have HB0 : Hid (Below w.heap.size w ((w.alloc (.cells #[.int .i64 view, .int .i64 opn, .int .i64 under, .int .u64 (parent : Int), .int .i64 client, .int .i64 session, .int .i64 request, .int .i64 oper, .string body] 31)).alloc (.cells #[.int .i64 0, .int .i64 0, .int .u64 0] 41))) := hid (((Below.refl w.heap.size w).alloc (Nat.le_refl _) _).alloc (by simp) _)
  have HE0 : Hid (Row ((w.alloc (.cells #[.int .i64 view, .int .i64 opn, .int .i64 under, .int .u64 (parent : Int), .int .i64 client, .int .i64 session, .int .i64 request, .int .i64 oper, .string body] 31)).alloc (.cells #[.int .i64 0, .int .i64 0, .int .u64 0] 41)) w.heap.size 31 (#[.int .i64 view, .int .i64 opn, .int .i64 under, .int .u64 (parent : Int), .int .i64 client, .int .i64 session, .int .i64 request, .int .i64 oper, .string body] : Array Value).toList) := hid ((Row.new _ _ _).alloc _)
  have HM0 : Hid (Row ((w.alloc (.cells #[.int .i64 view, .int .i64 opn, .int .i64 under, .int .u64 (parent : Int), .int .i64 client, .int .i64 session, .int .i64 request, .int .i64 oper, .string body] 31)).alloc (.cells #[.int .i64 0, .int .i64 0, .int .u64 0] 41)) (w.heap.size + 1) 41 (#[.int .i64 0, .int .i64 0, .int .u64 0] : Array Value).toList) := hid (by
    have := Row.new (w.alloc (.cells #[.int .i64 view, .int .i64 opn, .int .i64 under, .int .u64 (parent : Int), .int .i64 client, .int .i64 session, .int .i64 request, .int .i64 oper, .string body] 31)) 41 #[.int .i64 0, .int .i64 0, .int .u64 0]
    simpa using this)
  have HF := hid hf
  clear hf
  go_enter Tryz.func32, Tryz.ntmps32
  go_wp2_with (first
    | (go_at_call 69; refine (HP.out _ (HF.out.below HB0.out HF.out.1)).mono ?_; rintro e w1 ⟨rfl, hb1⟩; have hbb := HB0.out.trans (hb1.mono HB0.out.size); have he := HE0.out.below hb1 HE0.out.lt; have hm := HM0.out.below hb1 HM0.out.lt; clear hb1)
    | (refine wpl_store_st9 rfl (.tmp 2) (.tmp 12) rfl HZM.out (w.heap.size + 1) #[.int .i64 0, .int .i64 0, .int .u64 0] #[.int .i64 0, .int .i64 0, .int .u64 0] rfl rfl hm ?_ (hid rfl) (hid rfl) (hid (by simp [Value.oneCell'])); intro wz hrz hgz; have HBZ := hid (hbb.trans (below_grown hgz (by omega) hbb.size)); clear hgz))
  refine bodyPost_ret (v := .agg #[.int .i64 0, .int .i64 0, .int .u64 0])
    (results_cell_row rfl _ _ (w.heap.size + 1) 41 _ (0, 0) _ rfl (Row.arr (cs := #[.int .i64 0, .int .i64 0, .int .u64 0]) hrz) Tryz.underlying41 rfl HZM.out) rfl ⟨rfl, HBZ.out⟩
set_option maxHeartbeats 2000000 in
theorem emark_yes (view opn under : Int) (parent : Nat) (client session request oper : Int) (body : ByteArray) (T : ByteArray) (q : Nat) (w : World) (hf : Fd w)
    (HP : Hid (∀ W : World, Fd W → Calls Tryz.prog 69 #[.agg #[.int .i64 view, .int .i64 opn, .int .i64 under, .int .u64 (parent : Int), .int .i64 client, .int .i64 session, .int .i64 request, .int .i64 oper, .string body]] W fun x W' => x = .returned (.tuple #[.string T, .int .i64 0]) ∧ Below W.heap.size W W'))
    (HC : Hid (∀ W : World, Calls Tryz.prog 70 #[.int .u64 (parent : Int), .string T] W fun e w' => e = .returned (.int .u64 (q : Int)) ∧ Below W.heap.size W w')) :
    Calls Tryz.prog 32 #[.agg #[.int .i64 view, .int .i64 opn, .int .i64 under, .int .u64 (parent : Int), .int .i64 client, .int .i64 session, .int .i64 request, .int .i64 oper, .string body]] w (VE w (.agg #[.int .i64 opn, .int .i64 view, .int .u64 (q : Int)])) := by
  have HZ := hid esize
  have HZM := hid msize
  have HB0 : Hid (Below w.heap.size w ((w.alloc (.cells #[.int .i64 view, .int .i64 opn, .int .i64 under, .int .u64 (parent : Int), .int .i64 client, .int .i64 session, .int .i64 request, .int .i64 oper, .string body] 31)).alloc (.cells #[.int .i64 0, .int .i64 0, .int .u64 0] 41))) := hid (((Below.refl w.heap.size w).alloc (Nat.le_refl _) _).alloc (by simp) _)
  have HE0 : Hid (Row ((w.alloc (.cells #[.int .i64 view, .int .i64 opn, .int .i64 under, .int .u64 (parent : Int), .int .i64 client, .int .i64 session, .int .i64 request, .int .i64 oper, .string body] 31)).alloc (.cells #[.int .i64 0, .int .i64 0, .int .u64 0] 41)) w.heap.size 31 (#[.int .i64 view, .int .i64 opn, .int .i64 under, .int .u64 (parent : Int), .int .i64 client, .int .i64 session, .int .i64 request, .int .i64 oper, .string body] : Array Value).toList) := hid ((Row.new _ _ _).alloc _)
  have HM0 : Hid (Row ((w.alloc (.cells #[.int .i64 view, .int .i64 opn, .int .i64 under, .int .u64 (parent : Int), .int .i64 client, .int .i64 session, .int .i64 request, .int .i64 oper, .string body] 31)).alloc (.cells #[.int .i64 0, .int .i64 0, .int .u64 0] 41)) (w.heap.size + 1) 41 (#[.int .i64 0, .int .i64 0, .int .u64 0] : Array Value).toList) := hid (by
    have := Row.new (w.alloc (.cells #[.int .i64 view, .int .i64 opn, .int .i64 under, .int .u64 (parent : Int), .int .i64 client, .int .i64 session, .int .i64 request, .int .i64 oper, .string body] 31)) 41 #[.int .i64 0, .int .i64 0, .int .u64 0]
    simpa using this)
  have HF := hid hf
  clear hf
  go_enter Tryz.func32, Tryz.ntmps32
  go_wp2_with (go_at_call 69; refine (HP.out _ (HF.out.below HB0.out HF.out.1)).mono ?_; rintro e w1 ⟨rfl, hb1⟩; have hbb := HB0.out.trans (hb1.mono HB0.out.size); have he := HE0.out.below hb1 HE0.out.lt; have hm := HM0.out.below hb1 HM0.out.lt; clear hb1)
  try simp only [Act.put]
  have HBB := hid hbb
  have HEB := hid he
  have HMB := hid hm
  clear hbb he hm
  refine wp_region_held_drew (S := fun W => Below w.heap.size w W ∧ Row W w.heap.size 31 (#[.int .i64 view, .int .i64 opn, .int .i64 under, .int .u64 (parent : Int), .int .i64 client, .int .i64 session, .int .i64 request, .int .i64 oper, .string body] : Array Value).toList ∧ ∃ z : Array Value, z.size = 3 ∧ Row W (w.heap.size + 1) 41 z.toList) (by kernel_rfl) ⟨HBB.out.drew, HEB.out, #[.int .i64 0, .int .i64 0, .int .u64 0], rfl, HMB.out⟩ (fun hH => ?_)
  refine wpAnyH_take (i := 0) (v := .pointer (some ⟨w.heap.size, 1, none⟩)) rfl (by kernel_rfl) (by kernel_rfl) (by kernel_rfl) (fun _ _ _ h => h) (Or.inl ⟨by rfl, fun w' hw' => by clear hw'; go_simp⟩) hH ?_
  simp only [Act.put]
  refine wpAnyH_take (i := 1) (v := .int .i64 opn) rfl (by kernel_rfl) (by kernel_rfl) (by kernel_rfl) (fun _ _ _ h => h) (Or.inl ⟨by rfl, fun w' hw' => by have h := hw'.2.1.at_ 1 _ rfl; clear hw'; go_simp⟩) hH ?_
  simp only [Act.put]
  refine wpAnyH_take (i := 2) (v := .pointer (some ⟨w.heap.size, 0, none⟩)) rfl (by kernel_rfl) (by kernel_rfl) (by kernel_rfl) (fun _ _ _ h => h) (Or.inl ⟨by rfl, fun w' hw' => by clear hw'; go_simp⟩) hH ?_
  simp only [Act.put]
  refine wpAnyH_take (i := 3) (v := .int .i64 view) rfl (by kernel_rfl) (by kernel_rfl) (by kernel_rfl) (fun _ _ _ h => h) (Or.inl ⟨by rfl, fun w' hw' => by have h := hw'.2.1.at_ 0 _ rfl; clear hw'; go_simp⟩) hH ?_
  simp only [Act.put]
  refine wpAnyH_take (i := 4) (v := .pointer (some ⟨w.heap.size, 3, none⟩)) rfl (by kernel_rfl) (by kernel_rfl) (by kernel_rfl) (fun _ _ _ h => h) (Or.inl ⟨by rfl, fun w' hw' => by clear hw'; go_simp⟩) hH ?_
  simp only [Act.put]
  refine wpAnyH_take (i := 5) (v := .int .u64 (parent : Int)) rfl (by kernel_rfl) (by kernel_rfl) (by kernel_rfl) (fun _ _ _ h => h) (Or.inl ⟨by rfl, fun w' hw' => by have h := hw'.2.1.at_ 3 _ rfl; clear hw'; go_simp⟩) hH ?_
  simp only [Act.put]
  refine wpAnyH_take (i := 6) (v := .string T) rfl (by kernel_rfl) (by kernel_rfl) (by kernel_rfl) (fun _ _ _ h => h) (Or.inl ⟨by rfl, fun w' hw' => by clear hw'; go_simp⟩) hH ?_
  simp only [Act.put]
  refine wpAnyH_ready (rs := [7]) (by kernel_rfl) (by simp) ?_
  refine AllReadyH.cons rfl (fun K hK => ?_) AllReadyH.nil
  go_simp
  go_at_call 70
  refine (HC.out _).mono ?_
  rintro e w2 ⟨rfl, hb2⟩
  go_wp2_with fail
  refine hK.out _ _ (⟨hH.1.trans (Below.mono hb2 hH.1.size), Row.below hH.2.1 hb2 hH.2.1.lt, hH.2.2.elim fun z h => ⟨z, h.1, Row.below h.2 hb2 h.2.lt⟩⟩) (fun hH => ?_)
  clear hK K
  try simp only [Act.put]
  refine wpAnyH_take (i := 8) (v := .agg #[.int .i64 opn, .int .i64 view, .int .u64 (q : Int)]) rfl (by kernel_rfl) (by kernel_rfl) (by kernel_rfl) (fun _ _ _ h => h) (Or.inl ⟨by rfl, fun w' hw' => by clear hw'; go_simp⟩) hH ?_
  simp only [Act.put]
  refine wpAnyH_ready (rs := [9]) (by kernel_rfl) (by simp) ?_
  refine AllReadyH.cons rfl (fun K hK => ?_) AllReadyH.nil
  obtain ⟨hb8, he8, z, hz8, hm8⟩ := hH
  rw [if_pos (by kernel_rfl)]
  refine wp_store_st9 (.tmp 2) (.tmp 21) rfl HZM.out (w.heap.size + 1) z #[.int .i64 opn, .int .i64 view, .int .u64 (q : Int)] rfl rfl hm8 hz8 rfl (by simp [Value.oneCell']) (fun w9 hr9 hg9 => ?_)
  have hb9 : Below w.heap.size w w9 := hb8.trans (below_grown hg9 (by omega) hb8.size)
  refine hK.out _ _ ⟨hb9, he8.grown hg9 (by intro e; have := Option.some.inj e; omega), _, rfl, hr9⟩ (fun hH => ?_)
  clear hK K
  try simp only [Act.put]
  refine wpAnyH_done (by kernel_rfl) ?_ _
  try simp only [Act.put]
  go_wp2_with fail
  refine bodyPost_ret (v := .agg #[.int .i64 opn, .int .i64 view, .int .u64 (q : Int)])
    (results_cell_row rfl _ _ (w.heap.size + 1) 41 _ (0, 0) _ rfl (Row.arr (cs := #[.int .i64 opn, .int .i64 view, .int .u64 (q : Int)]) hr9) Tryz.underlying41 rfl HZM.out) rfl ⟨rfl, hb9⟩
theorem emark_any (e : En) (he : e.fits) (w : World) (hf : Fd w) : Calls Tryz.prog 32 #[e.val] w (VE w (markE e).val) := by
  have HP := hid (fun W hW => epack_any e W hW)
  unfold markE
  have hp : (BitVec.ofNat 64 e.parent).toNat = e.parent := by
    rw [BitVec.toNat_ofNat]
    exact Nat.mod_eq_of_lt he.2.2
  by_cases h0 : (packE e).2 = 0
  · rw [if_pos h0]
    have hl := packE_len (e := e) (s := (packE e).1) (by rw [← h0])
    have HC := hid (fun W => chain_calls (BitVec.ofNat 64 e.parent) ⟨(packE e).1.toArray⟩ W (by rw [← sb_len, sb_mk]; omega))
    rw [hp, sb_mk] at HC
    generalize (chainOf (BitVec.ofNat 64 e.parent) (packE e).1).toNat = q at *
    clear hl
    generalize packE e = r at *
    obtain ⟨rl, rf⟩ := r
    simp only at h0
    subst h0
    obtain ⟨view, opn, under, parent, client, session, request, oper, body⟩ := e
    exact emark_yes view opn under parent client session request oper body ⟨rl.toArray⟩ q w hf HP HC
  · rw [if_neg h0]
    generalize packE e = r at *
    obtain ⟨view, opn, under, parent, client, session, request, oper, body⟩ := e
    exact emark_no view opn under parent client session request oper body ⟨r.1.toArray⟩ r.2 w hf (by simpa using h0) HP
end Go.Proofs.YtdimlfjepliflaaGreatDoor
/-
  A machine, its mark too, in plain words; answers in memory, held against each other.
-/
namespace Go.Proofs.YtdimlfjepliflaaGreatDoor
open Go.RowKit
set_option maxRecDepth 10000

/-! ### answers -/
def An.val (a : An) : Value := .agg a.cells
theorem An.one (a : An) : a.cells.all (·.oneCell') = true := by simp [An.cells, Value.oneCell']
theorem asize : (Tryz.prog.info? 33).map (·.size) = some 6 := by kernel_rfl
theorem ansFields : (Tryz.prog.fieldsOf 33).toList = [{ name := "Kind", type := 3, offset := 0, embedded := false, tag := "", pkgPath := "", byteOffset := 0 }, { name := "Client", type := 3, offset := 1, embedded := false, tag := "", pkgPath := "", byteOffset := 8 }, { name := "Session", type := 3, offset := 2, embedded := false, tag := "", pkgPath := "", byteOffset := 16 }, { name := "Request", type := 3, offset := 3, embedded := false, tag := "", pkgPath := "", byteOffset := 24 }, { name := "Op", type := 3, offset := 4, embedded := false, tag := "", pkgPath := "", byteOffset := 32 }, { name := "Body", type := 9, offset := 5, embedded := false, tag := "", pkgPath := "", byteOffset := 40 }] := by kernel_rfl
theorem eqAn (x : An) (W : World) : (Op.equalIn 10000 33 (.agg x.cells) (.agg x.cells)).run Tryz.prog W = .ok true W := by
  rw [run_equalIn_struct W 9999 33 x.cells x.cells (by kernel_rfl) (by kernel_rfl), ansFields]
  have x0 : x.cells[0]? = some (.int .i64 x.kind) := rfl
  have x1 : x.cells[1]? = some (.int .i64 x.client) := rfl
  have x2 : x.cells[2]? = some (.int .i64 x.session) := rfl
  have x3 : x.cells[3]? = some (.int .i64 x.request) := rfl
  have x4 : x.cells[4]? = some (.int .i64 x.opn) := rfl
  have x5 : x.cells[5]? = some (.string x.body) := rfl
  generalize x.cells = X at *
  rw [eqF_int9 (P := Tryz.prog) (W := W) 9998 X X { name := "Kind", type := 3, offset := 0, embedded := false, tag := "", pkgPath := "", byteOffset := 0 } _ .i64 x.kind x.kind (by simp) (part_int9 3 X 0 _ .i64 Tryz.underlying3 sizeInt x0) (part_int9 3 X 0 _ .i64 Tryz.underlying3 sizeInt x0) Tryz.underlying3, if_pos rfl]
  rw [eqF_int9 (P := Tryz.prog) (W := W) 9998 X X { name := "Client", type := 3, offset := 1, embedded := false, tag := "", pkgPath := "", byteOffset := 8 } _ .i64 x.client x.client (by simp) (part_int9 3 X 1 _ .i64 Tryz.underlying3 sizeInt x1) (part_int9 3 X 1 _ .i64 Tryz.underlying3 sizeInt x1) Tryz.underlying3, if_pos rfl]
  rw [eqF_int9 (P := Tryz.prog) (W := W) 9998 X X { name := "Session", type := 3, offset := 2, embedded := false, tag := "", pkgPath := "", byteOffset := 16 } _ .i64 x.session x.session (by simp) (part_int9 3 X 2 _ .i64 Tryz.underlying3 sizeInt x2) (part_int9 3 X 2 _ .i64 Tryz.underlying3 sizeInt x2) Tryz.underlying3, if_pos rfl]
  rw [eqF_int9 (P := Tryz.prog) (W := W) 9998 X X { name := "Request", type := 3, offset := 3, embedded := false, tag := "", pkgPath := "", byteOffset := 24 } _ .i64 x.request x.request (by simp) (part_int9 3 X 3 _ .i64 Tryz.underlying3 sizeInt x3) (part_int9 3 X 3 _ .i64 Tryz.underlying3 sizeInt x3) Tryz.underlying3, if_pos rfl]
  rw [eqF_int9 (P := Tryz.prog) (W := W) 9998 X X { name := "Op", type := 3, offset := 4, embedded := false, tag := "", pkgPath := "", byteOffset := 32 } _ .i64 x.opn x.opn (by simp) (part_int9 3 X 4 _ .i64 Tryz.underlying3 sizeInt x4) (part_int9 3 X 4 _ .i64 Tryz.underlying3 sizeInt x4) Tryz.underlying3, if_pos rfl]
  rw [eqF_strs (P := Tryz.prog) (W := W) 9998 X X { name := "Body", type := 9, offset := 5, embedded := false, tag := "", pkgPath := "", byteOffset := 40 } _ x.body x.body (by simp) (part_str9 9 X 5 _ Tryz.underlying9 sizeStr x5) (part_str9 9 X 5 _ Tryz.underlying9 sizeStr x5) Tryz.underlying9, if_pos rfl]
  rw [eqF_nil]
theorem egAn : Tryz.prog.eqGuardType Tryz.prog.depth 33 = false := by kernel_rfl
section
variable {ops : Array Oper} {rest : List Oper} {o : Oper} {a : Act} {w : World} {Q : Exit → Act → World → Prop}
theorem wpl_eqa (hw : Region.wanted o (yielded ops a.tmps) = true) (s : An) (x y : Operand) (ty : TypeId) (ho : o.op = .binOp .eql 33 x y ty)
    (hx : a.eval x = .agg s.cells) (hy : a.eval y = .agg s.cells) (h : wpList Tryz.prog ops Q rest (a.put o.dst (.bool true)) w) : wpList Tryz.prog ops Q (o :: rest) a w := by
  refine BigFrame.wpList_want hw fun K hK => ?_
  have hEQ := eqAn s w
  have hEG := egAn
  generalize s.cells = Z at *
  unfold Oper.wp execOp
  simp [ho, hx, hy, eqGuard, hEG, binOp, Op.equal, Op.maxDepth, hEQ, Result.andThen]
  exact hK _ _ h
/-- x == x, answers, in a region that draws its order -/
theorem yields_eqa {S : World → Prop} (hw : Region.wanted o (yielded ops a.tmps) = true) (s : An) (x y : Operand) (ty : TypeId) (ho : o.op = .binOp .eql 33 x y ty) 
    (hx : a.eval x = .agg s.cells) (hy : a.eval y = .agg s.cells) : YieldsIf Tryz.prog ops S o (.bool true) a :=
  .inl ⟨hw, fun w _ => by
    have hEG := egAn
    have hE := eqAn s w
    generalize s.cells = Z at *
    unfold execOp
    simp [ho, hx, hy, eqGuard, hEG, binOp, Op.equal, Op.maxDepth, hE, Result.andThen]⟩
end

/-! ### a machine with its mark -/
structure Ma where
  m : Mk
  w : Mw
def ma0 : Ma := ⟨mk0, mw0⟩
/-- behind an entry that is done -/
def Ma.run (S : Ma) (e : En) : Ma := ⟨markE e, (S.w.does e.client e.session e.request e.oper e.opn e.body).1⟩
def Ma.ans (S : Ma) (e : En) : An := (S.w.does e.client e.session e.request e.oper e.opn e.body).2
def Ma.appE (S : Ma) (e : En) : Int := if ¬ Rt e then 4 else if ¬ Fol S.m e then 12 else 0
def Ma.app (S : Ma) (e : En) : Ma := if S.appE e = 0 then S.run e else S
def Ma.appA (S : Ma) (e : En) : An := if S.appE e = 0 then S.ans e else an0
theorem appE_form {S : Ma} {e : En} (h : ¬ Rt e) : S.appE e = 4 := if_pos h
theorem appE_order {S : Ma} {e : En} (h : Rt e) (hf : ¬ Fol S.m e) : S.appE e = 12 := by unfold Ma.appE; rw [if_neg (fun q => q h), if_pos hf]
theorem appE_ok {S : Ma} {e : En} (hf : Fol S.m e) : S.appE e = 0 := by unfold Ma.appE; rw [if_neg (fun q => q hf.1), if_neg (fun q => q hf)]
theorem appE_iff {S : Ma} {e : En} : S.appE e = 0 ↔ Fol S.m e := by
  constructor
  · intro h
    by_cases h1 : Rt e
    · by_cases h2 : Fol S.m e
      · exact h2
      · rw [appE_order h1 h2] at h; exact absurd h (by decide)
    · rw [appE_form h1] at h; exact absurd h (by decide)
  · exact appE_ok
/-- what is told of a client -/
def Ma.told (S : Ma) (c : Int) : An := Go.Proofs.YtdimlfjepliflaaGreatDoor.told (look S.w.T c)
/-- a mark that may be -/
structure Mk.ok (m : Mk) : Prop where
  o : 0 ≤ m.opn ∧ m.opn ≤ 72057594037927935
  v : 0 ≤ m.view ∧ m.view ≤ 72057594037927935
  s : m.sum < 18446744073709551616
structure Ma.WF (S : Ma) : Prop where
  m : S.m.ok
  w : S.w.WF
theorem mk0_ok : mk0.ok := ⟨⟨by decide, by decide⟩, ⟨by decide, by decide⟩, by decide⟩
theorem ma0_wf : ma0.WF := ⟨mk0_ok, mw0_wf⟩
theorem packE_zero {e : En} (he : e.fits) (h : Rt e) : (packE e).2 = 0 := by
  have h1 := (packS_rt he h).1
  have h2 : ¬ 3968 < (sb e.body).length := by
    obtain ⟨_, _, _, _, _, _, _, _, h9⟩ := h
    rw [sb_len]
    omega
  unfold packE packS
  rw [if_pos h, if_neg (fun q => q h1), if_neg h2]
theorem markE_rt {e : En} (he : e.fits) (h : Rt e) : (markE e).opn = e.opn ∧ (markE e).view = e.view ∧ (markE e).sum < 18446744073709551616 := by
  unfold markE
  rw [if_pos (packE_zero he h)]
  exact ⟨rfl, rfl, BitVec.isLt _⟩
theorem Ma.app_wf {S : Ma} (h : S.WF) {e : En} (he : e.fits) : (S.app e).WF := by
  unfold Ma.app
  by_cases h0 : S.appE e = 0
  · rw [if_pos h0]
    have hf := appE_iff.1 h0
    obtain ⟨h1, h2, h3⟩ := markE_rt he hf.1
    obtain ⟨⟨r1, r2⟩, _, ⟨r3, r4⟩, _⟩ := id hf.1
    exact ⟨⟨by show 0 ≤ (markE e).opn ∧ (markE e).opn ≤ 72057594037927935; omega, by show 0 ≤ (markE e).view ∧ (markE e).view ≤ 72057594037927935; omega, h3⟩, Mw.does_wf h.w _ _ _ _ _ _⟩
  · rw [if_neg h0]; exact h
/-- its bytes -/
def Ma.pack (S : Ma) : List UInt8 := packM S.m.opn.toNat S.m.view.toNat S.m.sum S.w
/-- its own cells -/
def mcs (m : Mk) (ps pb : Nat) : List Value := [.int .i64 m.opn, .int .i64 m.view, .int .u64 (m.sum : Int), .pointer (some ⟨ps, 0, none⟩), .pointer (some ⟨pb, 0, none⟩)]
/-- what a client is told behind its opening, and behind its request -/
theorem look_opn {T : List Ss} {c o : Int} (h : opnE T c o = 0) : look (opn T c o) c = fresh c o := by
  have hT : opn T c o = room T ++ [fresh c o] := by unfold opn; rw [if_pos h]
  obtain ⟨_, _, h3⟩ := opnE_zero h
  have hno := pl_no h3
  have hlen : (room T).length < (room T ++ [fresh c o]).length := by simp
  have hpl : pl (room T ++ [fresh c o]) c = (room T).length := by
    refine pl_this ?_ hlen (by simp [fresh])
    rcases Nat.lt_or_ge (pl (room T ++ [fresh c o]) c) (room T).length with hlt | hge
    · have := pl_here (T := room T ++ [fresh c o]) (c := c) (by omega)
      rw [List.getElem_append_left hlt] at this
      exact absurd this (hno _ (room_sub (List.getElem_mem hlt)))
    · exact hge
  unfold look
  rw [hT, hpl, if_pos hlen, at_get hlen]
  simp
theorem look_note {T : List Ss} {c r o : Int} {t : ByteArray} (h : notE T c r o t = 0) : look (note T c r o t) c = noted (at_8 T (pl T c)) r o t := by
  obtain ⟨h1, _⟩ := notE_zero h
  have hT : note T c r o t = T.set (pl T c) (noted (at_8 T (pl T c)) r o t) := by unfold note; rw [if_pos h]
  have hl : pl T c < (T.set (pl T c) (noted (at_8 T (pl T c)) r o t)).length := by simpa using h1
  have hpl : pl (T.set (pl T c) (noted (at_8 T (pl T c)) r o t)) c = pl T c := by
    refine pl_this ?_ hl (by rw [List.getElem_set_self]; show (at_8 T (pl T c)).c = c; rw [at_get h1]; exact pl_here h1)
    rcases Nat.lt_or_ge (pl (T.set (pl T c) (noted (at_8 T (pl T c)) r o t)) c) (pl T c) with hlt | hge
    · have h2 := pl_here (T := T.set (pl T c) (noted (at_8 T (pl T c)) r o t)) (c := c) (by omega)
      rw [List.getElem_set_ne (by omega)] at h2
      exact absurd h2 (pl_before hlt (by omega))
    · exact hge
  unfold look
  rw [hT, hpl, if_pos hl, at_get hl, List.getElem_set_self]
theorem look_here {T : List Ss} {c : Int} (h : pl T c < T.length) : look T c = at_8 T (pl T c) := if_pos h
theorem his_here {M : Mw} {c : Int} (h : pl M.T c < M.T.length) : (M.his c).c = c := by
  unfold Mw.his
  rw [at_get h]
  exact pl_here h
end Go.Proofs.YtdimlfjepliflaaGreatDoor
/-
  A machine with its mark in memory, of either make: what a call of it leaves alone; a law's own, and two of them apart.
-/
namespace Go.Proofs.YtdimlfjepliflaaGreatDoor
open Go.RowKit
set_option maxRecDepth 10000

/-- the types of a machine, its table, its ledger -/
abbrev K3 := Nat × Nat × Nat
/-- package machine's -/
def KP : K3 := (81, 121, 123)
/-- the machine S lies at p, in the blocks fp -/
def Hm (X : K3) (p : Nat) (S : Ma) (fp : List Nat) (w : World) : Prop := ∃ ps pb, Gm X.1 X.2.1 X.2.2 p ps pb (mcs S.m ps pb) S.w fp w
/-- since w, where it lay in fp, the machine is so now -/
def Hmw (X : K3) (p : Nat) (w : World) (fp : List Nat) (S : Ma) (wr : World) : Prop := ∃ fq, Hm X p S fq wr ∧ Fr w wr fp ∧ ∀ g ∈ fq, g ∈ fp ∨ w.heap.size ≤ g
section
variable {X Y : K3} {p q : Nat} {S S' T T' : Ma} {fp fq : List Nat} {w w' w'' : World} {P : Program} {f : FuncId} {args : Array Value} {v : Ending}
theorem Hm.lt (h : Hm X p S fp w) : ∀ b ∈ fp, b < w.heap.size := by obtain ⟨_, _, h⟩ := h; exact h.lt
theorem Hm.fr (h : Hm X p S fp w) (hf : Fr w w' fq) (hd : ∀ b ∈ fp, b ∉ fq) : Hm X p S fp w' := by obtain ⟨_, _, h⟩ := h; exact ⟨_, _, h.fr hf hd⟩
theorem Hm.below (h : Hm X p S fp w) (hb : Below w.heap.size w w') : Hm X p S fp w' := h.fr (Fr.of_below hb) (by simp)
theorem Hmw.of {ps pb : Nat} (h : Gmw X.1 X.2.1 X.2.2 p ps pb w fp (mcs S.m ps pb) S.w w') : Hmw X p w fp S w' := by
  obtain ⟨fq, h1, h2, h3⟩ := h
  exact ⟨fq, ⟨_, _, h1⟩, h2, h3⟩
theorem Hmw.start (h : Hm X p S fp w) : Hmw X p w fp S w := ⟨fp, h, Fr.refl _ _, fun _ hg => .inl hg⟩
theorem Hmw.frame (h : Hmw X p w fp S w') : Fr w w' fp := by obtain ⟨_, _, h, _⟩ := h; exact h
theorem Hmw.below (h : Hmw X p w fp S w') (hb : Below w'.heap.size w' w'') : Hmw X p w fp S w'' := by
  obtain ⟨fq, h1, h2, h3⟩ := h
  exact ⟨fq, h1.below hb, h2.trans (Fr.of_below hb) (by simp), h3⟩
end

/-- these blocks are as they were -/
def Kg (G : List Nat) (w w' : World) : Prop := ∀ g ∈ G, w'.heap[g]? = w.heap[g]?
theorem Kg.row {G : List Nat} {w w' : World} {g : Nat} {e : TypeId} {cs : List Value} (h : Kg G w w') (hr : Row w g e cs) (hg : g ∈ G) : Row w' g e cs := (h g hg).trans hr
theorem Kg.rd {G : List Nat} {w w' : World} {g o : Nat} {xs : List Value} (h : Kg G w w') (hs : w.heap.size ≤ w'.heap.size) (hr : Rd w w.heap.size (some ⟨g, o, none⟩) xs) (hg : xs ≠ [] → g ∈ G) : Rd w' w'.heap.size (some ⟨g, o, none⟩) xs := fun hn => by
  obtain ⟨g', o', e, hlt, hc⟩ := hr hn
  cases e
  refine ⟨g, o, rfl, by omega, fun j u hu => ?_⟩
  have h1 := hc j u hu
  have h2 := h g (hg hn)
  unfold World.cell? at h1 ⊢
  simp only [h2] at h1 ⊢
  exact h1
/-- a law's own machine, and blocks of its own apart from it -/
def Sg (w0 : World) (X : K3) (p : Nat) (S : Ma) (G : List Nat) (w : World) : Prop := ∃ fp, Hm X p S fp w ∧ (∀ b ∈ fp, w0.heap.size ≤ b) ∧ (∀ g ∈ G, g < w.heap.size ∧ g ∉ fp) ∧ Below w0.heap.size w0 w
/-- two machines, apart -/
def Tg (w0 : World) (X : K3) (p : Nat) (S : Ma) (Y : K3) (q : Nat) (T : Ma) (G : List Nat) (w : World) : Prop :=
  ∃ fp fq, Hm X p S fp w ∧ Hm Y q T fq w ∧ (∀ b ∈ fp, b ∉ fq) ∧ (∀ b ∈ fp, w0.heap.size ≤ b) ∧ (∀ b ∈ fq, w0.heap.size ≤ b) ∧ (∀ g ∈ G, g < w.heap.size ∧ g ∉ fp ∧ g ∉ fq) ∧ Below w0.heap.size w0 w
section
variable {w0 w w' : World} {X Y : K3} {p q g : Nat} {S S' T T' : Ma} {G G' : List Nat} {P : Program} {f : FuncId} {args : Array Value} {v : Ending}
theorem Sg.frame (h : Sg w0 X p S G w) : Below w0.heap.size w0 w := by obtain ⟨_, _, _, _, h⟩ := h; exact h
theorem Sg.below (h : Sg w0 X p S G w) (hb : Below w.heap.size w w') : Sg w0 X p S G w' := by
  obtain ⟨fp, h1, h2, h3, h4⟩ := h
  exact ⟨fp, h1.below hb, h2, fun g hg => ⟨Nat.lt_of_lt_of_le (h3 g hg).1 hb.size, (h3 g hg).2⟩, h4.trans (hb.mono h4.size)⟩
theorem Sg.drewN (h : Sg w0 X p S G w) (n : Nat) : Sg w0 X p S G (w.drewN n) := h.below ⟨rfl, rfl, rfl, Nat.le_refl _, fun _ _ => rfl⟩
theorem Sg.alloc (h : Sg w0 X p S G w) (o : Obj) : Sg w0 X p S G (w.alloc o) := h.below ((Below.refl _ _).alloc (Nat.le_refl _) o)
theorem Sg.sub (h : Sg w0 X p S G w) (hG : ∀ g ∈ G', g ∈ G) : Sg w0 X p S G' w := by
  obtain ⟨fp, h1, h2, h3, h4⟩ := h
  exact ⟨fp, h1, h2, fun g hg => h3 g (hG g hg), h4⟩
theorem Sg.add (h : Sg w0 X p S G w) (hb : Below w.heap.size w w') (hg : w.heap.size ≤ g) (hlt : g < w'.heap.size) : Sg w0 X p S (g :: G) w' := by
  obtain ⟨fp, h1, h2, h3, h4⟩ := h.below hb
  obtain ⟨fp0, k1, k2, k3, k4⟩ := h
  refine ⟨fp0, k1.below hb, k2, fun b hm => ?_, h4⟩
  rcases List.mem_cons.1 hm with rfl | hm
  · exact ⟨hlt, fun q => by have := k1.lt _ q; omega⟩
  · exact ⟨Nat.lt_of_lt_of_le (k3 b hm).1 hb.size, (k3 b hm).2⟩
theorem Sg.write (h : Sg w0 X p S G w) (hw : w.grownBy w' (some g)) (hg : g ∈ G) (h0 : w0.heap.size ≤ g) : Sg w0 X p S G w' := by
  obtain ⟨fp, h1, h2, h3, h4⟩ := h
  have hf : Fr w w' [g] := (Fr.refl w [g]).grown hw (fun k hk => .inl (by cases hk; simp))
  exact ⟨fp, h1.fr hf (fun b hb hn => by rw [List.mem_singleton.1 hn] at hb; exact (h3 g hg).2 hb), h2, fun b hb => ⟨Nat.lt_of_lt_of_le (h3 b hb).1 hw.size, (h3 b hb).2⟩, h4.trans (below_grown hw h0 h4.size)⟩
theorem Sg.call (h : Sg w0 X p S G w) (H : ∀ fp, Hm X p S fp w → Calls P f args w fun e w' => e = v ∧ Hmw X p w fp S' w') : Calls P f args w fun e w' => e = v ∧ Sg w0 X p S' G w' ∧ Kg G w w' := by
  obtain ⟨fp, h1, h2, h3, h4⟩ := h
  refine (H fp h1).mono fun e w' hh => ⟨hh.1, ?_, ?_⟩
  · obtain ⟨fq, k1, k2, k3⟩ := hh.2
    refine ⟨fq, k1, fun b hb => ?_, fun g hg => ⟨Nat.lt_of_lt_of_le (h3 g hg).1 k2.size, fun hq => ?_⟩, h4.trans (k2.below h2 h4.size)⟩
    · rcases k3 b hb with h | h
      · exact h2 b h
      · exact Nat.le_trans h4.size h
    · rcases k3 g hq with h | h
      · exact (h3 g hg).2 h
      · have := (h3 g hg).1; omega
  · intro g hg
    exact hh.2.frame.block g (h3 g hg).1 (h3 g hg).2
theorem Sg.look {Q : Ending → World → Prop} (h : Sg w0 X p S G w) (H : ∀ fp, Hm X p S fp w → Calls P f args w Q) : Calls P f args w Q := by
  obtain ⟨_, h1, _⟩ := h
  exact H _ h1
theorem Tg.frame (h : Tg w0 X p S Y q T G w) : Below w0.heap.size w0 w := by obtain ⟨_, _, _, _, _, _, _, _, h⟩ := h; exact h
theorem Tg.fst (h : Tg w0 X p S Y q T G w) : Sg w0 X p S G w := by obtain ⟨fp, fq, h1, h2, h3, h4, h5, h6, h7⟩ := h; exact ⟨fp, h1, h4, fun g hg => ⟨(h6 g hg).1, (h6 g hg).2.1⟩, h7⟩
theorem Tg.snd (h : Tg w0 X p S Y q T G w) : Sg w0 Y q T G w := by obtain ⟨fp, fq, h1, h2, h3, h4, h5, h6, h7⟩ := h; exact ⟨fq, h2, h5, fun g hg => ⟨(h6 g hg).1, (h6 g hg).2.2⟩, h7⟩
theorem Tg.below (h : Tg w0 X p S Y q T G w) (hb : Below w.heap.size w w') : Tg w0 X p S Y q T G w' := by
  obtain ⟨fp, fq, h1, h2, h3, h4, h5, h6, h7⟩ := h
  exact ⟨fp, fq, h1.below hb, h2.below hb, h3, h4, h5, fun g hg => ⟨Nat.lt_of_lt_of_le (h6 g hg).1 hb.size, (h6 g hg).2⟩, h7.trans (hb.mono h7.size)⟩
theorem Tg.drewN (h : Tg w0 X p S Y q T G w) (n : Nat) : Tg w0 X p S Y q T G (w.drewN n) := h.below ⟨rfl, rfl, rfl, Nat.le_refl _, fun _ _ => rfl⟩
theorem Tg.alloc (h : Tg w0 X p S Y q T G w) (o : Obj) : Tg w0 X p S Y q T G (w.alloc o) := h.below ((Below.refl _ _).alloc (Nat.le_refl _) o)
theorem Tg.sub (h : Tg w0 X p S Y q T G w) (hG : ∀ g ∈ G', g ∈ G) : Tg w0 X p S Y q T G' w := by
  obtain ⟨fp, fq, h1, h2, h3, h4, h5, h6, h7⟩ := h
  exact ⟨fp, fq, h1, h2, h3, h4, h5, fun g hg => h6 g (hG g hg), h7⟩
theorem Tg.add (h : Tg w0 X p S Y q T G w) (hb : Below w.heap.size w w') (hg : w.heap.size ≤ g) (hlt : g < w'.heap.size) : Tg w0 X p S Y q T (g :: G) w' := by
  have hfr := (h.below hb).frame
  obtain ⟨fp, fq, h1, h2, h3, h4, h5, h6, h7⟩ := h
  refine ⟨fp, fq, h1.below hb, h2.below hb, h3, h4, h5, fun b hm => ?_, hfr⟩
  rcases List.mem_cons.1 hm with rfl | hm
  · exact ⟨hlt, fun q => by have := h1.lt _ q; omega, fun q => by have := h2.lt _ q; omega⟩
  · exact ⟨Nat.lt_of_lt_of_le (h6 b hm).1 hb.size, (h6 b hm).2⟩
/-- a second one is made -/
theorem Sg.two {fq : List Nat} (h : Sg w0 X p S G w) (hb : Below w.heap.size w w') (hk : Hm Y q T fq w') (hn : ∀ b ∈ fq, w.heap.size ≤ b) : Tg w0 X p S Y q T G w' := by
  obtain ⟨fp, h1, h2, h3, h4⟩ := h
  refine ⟨fp, fq, h1.below hb, hk, fun b hb hm => ?_, h2, fun b hb => Nat.le_trans h4.size (hn b hb), fun g hg => ⟨Nat.lt_of_lt_of_le (h3 g hg).1 hb.size, (h3 g hg).2, fun hq => ?_⟩, h4.trans (hb.mono h4.size)⟩
  · have := h1.lt b hb
    have := hn b hm
    omega
  · have := (h3 g hg).1
    have := hn g hq
    omega
theorem Sg.mk' {fp : List Nat} (hb : Below w0.heap.size w0 w) (hk : Hm X p S fp w') (hf : ∀ b ∈ fp, w.heap.size ≤ b) (hx : Below w.heap.size w w') : Sg w0 X p S [] w' := ⟨fp, hk, fun b h => Nat.le_trans hb.size (hf b h), by simp, hb.trans (hx.mono hb.size)⟩
end
/-- a new machine, all of it in new memory -/
def NH (X : K3) (w : World) (S : Ma) (v : Nat → Value) (e : Ending) (w' : World) : Prop := ∃ p fp, e = .returned (v p) ∧ Hm X p S fp w' ∧ (∀ b ∈ fp, w.heap.size ≤ b) ∧ Below w.heap.size w w'
/-! ### cells of a row: a struct at its beginning -/
theorem Row.pre {w : World} {g : Nat} {e : TypeId} {xs ys : List Value} (h : Row w g e (xs ++ ys)) : w.rangeAt g 0 xs := fun j v hv => by
  have hj : j < xs.length := (List.getElem?_eq_some_iff.1 hv).1
  rw [Nat.zero_add, h.cell, List.getElem?_append_left hj, hv]
/-- a store of a struct into the beginning of a row -/
theorem wpl_store_pre {P : Program} {ops : Array Oper} {rest : List Oper} {o : Oper} {a : Act} {w : World} {Q : Exit → Act → World → Prop} (hgd : o.guard = none) {T T' : TypeId} (x y : Operand) (ho : o.op = .store T x y) {m : Nat} (hm : (P.info? T).map (·.size) = some m)
    (g : Nat) (cs ds post : List Value) (hx : a.eval x = .pointer (some ⟨g, 0, none⟩)) (hy : a.eval y = .agg ds.toArray) (hrow : Row w g T' (cs ++ post))
    (hK : ∀ w', Row w' g T' (ds ++ post) → w.grownBy w' (some g) → wpList P ops Q rest (a.put o.dst undef) w')
    (hc : Hid (cs.length = m)) (hd : Hid (ds.length = m)) (hone : Hid (ds.all (·.oneCell') = true)) : wpList P ops Q (o :: rest) a w := by
  have hl : cs.length = ds.length := by rw [hc.out, hd.out]
  obtain ⟨h1, h2⟩ := hrow.setCells ds 0 (by simp; omega)
  have e : splice (cs ++ post) 0 ds = ds ++ post := by
    unfold splice
    rw [List.take_zero, List.nil_append, Nat.zero_add, List.drop_append_of_le_length (by omega), ← hl, List.drop_length, List.nil_append]
  rw [e] at h1
  exact wpList_store_mid hgd T x y ho g 0 ds.toArray hx hy (by rw [List.size_toArray]; exact hrow.there _ _ (by simp; omega)) (by rw [List.size_toArray, hd.out]; exact hm) (by simpa using hone.out) (hK _ h1 h2)
theorem Gmw.callG {XM XS XB p ps pb : Nat} {C C' : List Value} {M M' : Mw} {fp : List Nat} {w w' : World} {P : Program} {f : FuncId} {args : Array Value} {v : Ending} (h : Gmw XM XS XB p ps pb w fp C M w')
    (H : ∀ fq, Gm XM XS XB p ps pb C M fq w' → Calls P f args w' fun e w'' => e = v ∧ Gmw XM XS XB p ps pb w' fq C' M' w'') : Calls P f args w' fun e w'' => e = v ∧ Gmw XM XS XB p ps pb w fp C' M' w'' := by
  obtain ⟨fq, h1, h2, h3⟩ := h
  refine (H fq h1).mono fun e w'' hh => ⟨hh.1, ?_⟩
  obtain ⟨fs, k1, k2, k3⟩ := hh.2
  have hs := h2.size
  refine ⟨fs, k1, h2.trans k2 (fun b hb hlt => ?_), fun g hg => ?_⟩
  · rcases h3 b hb with h | h
    · exact h
    · omega
  · rcases k3 g hg with h | h
    · exact h3 g h
    · exact .inr (by omega)
end Go.Proofs.YtdimlfjepliflaaGreatDoor
/-
  The walks of package machine's New, Verdict, noted, Cached, Mark, Sessions, Accounts, Transfers.
-/
namespace Go.Proofs.YtdimlfjepliflaaGreatDoor
open Go.RowKit
set_option maxRecDepth 10000

set_option maxHeartbeats 1000000 in
theorem mnew_any (w : World) : Calls Tryz.prog 10 #[] w (NH KP w ma0 (fun p => .pointer (some ⟨p, 0, none⟩))) := by
  have HS := hid (fun W => new_any8 W)
  have HB := hid (fun W => new_any W)
  go_enter Tryz.func10, Tryz.ntmps10
  go_wp2_with (first
    | (go_at_call 33; refine (HS.out _).mono ?_; rintro e w1 ⟨ps, fs, rfl, hk1, hf1, hx1⟩; have HK1 := hid hk1; have HF1 := hid hf1; have HX1 := hid hx1; clear hk1 hf1 hx1)
    | (go_at_call 34; refine (HB.out _).mono ?_; rintro e w2 ⟨pb, fb, rfl, hk2, hf2, hx2⟩; have HK2 := hid hk2; have HF2 := hid hf2; have HX2 := hid hx2; clear hk2 hf2 hx2))
  go_ret
  have hs1 := HX1.out.size
  have hs2 := HX2.out.size
  have hb3 := (Below.refl w2.heap.size w2).alloc (Nat.le_refl _) (.cells #[.int .i64 0, .int .i64 0, .int .u64 0, .pointer (some ⟨ps, 0, none⟩), .pointer (some ⟨pb, 0, none⟩)] 81)
  refine ⟨w2.heap.size, w2.heap.size :: (fs ++ fb), rfl, ⟨ps, pb, fs, fb, rfl, Row.new w2 _ _, (HK1.out.below HX2.out).below hb3, HK2.out.below hb3, fun h => ?_, fun h => ?_, fun b hb hn => ?_⟩, fun b hb => ?_, (HX1.out.trans (HX2.out.mono hs1)).trans (hb3.mono (by omega))⟩
  · have := HK1.out.lt _ h; omega
  · have := HK2.out.lt _ h; omega
  · have := HK1.out.lt _ hb
    have := HF2.out _ hn
    omega
  · rcases List.mem_cons.1 hb with rfl | hb
    · omega
    · rcases List.mem_append.1 hb with hb | hb
      · exact HF1.out _ hb
      · have := HF2.out _ hb; omega
/-! ### questions -/
section
variable {ps pb p : Nat} {S : Ma} {fp : List Nat} {w w' : World}
theorem KPrw (h : Gm KP.1 KP.2.1 KP.2.2 p ps pb (mcs S.m ps pb) S.w fp w) : Row w p 81 (mcs S.m ps pb) := h.row
end
set_option maxHeartbeats 1000000 in
theorem mver_nil (c s r : Int) (w : World) : Calls Tryz.prog 16 #[.pointer none, .int .i64 c, .int .i64 s, .int .i64 r] w (VE w (.int .i64 5)) := by
  go_enter Tryz.func16, Tryz.ntmps16
  go_wp2_with fail
  go_ret
  exact ⟨rfl, Below.refl _ _⟩
set_option maxHeartbeats 1000000 in
theorem mnoted_any (p : Nat) (S : Ma) (fp : List Nat) (c : Int) (w : World) (h : Hm KP p S fp w) : Calls Tryz.prog 41 #[.pointer (some ⟨p, 0, none⟩), .int .i64 c] w (VE w (S.told c).val) := by
  obtain ⟨ps, pb, h⟩ := h
  obtain ⟨fs, hs⟩ := h.s
  have HV := hid (fun W (hW : Below w.heap.size w W) => look_any ps fs S.w.T c W (hs.below hW))
  have HB0 : Hid (Below w.heap.size w (w.alloc (.cells an0.cells 33))) := hid ((Below.refl _ _).alloc (Nat.le_refl _) _)
  have HR0 := hid (show Row (w.alloc (.cells an0.cells 33)) w.heap.size 33 an0.cells.toList from Row.new _ _ _)
  have c1 : (w.alloc (.cells #[.int .i64 0, .int .i64 0, .int .i64 0, .int .i64 0, .int .i64 0, .string ⟨#[]⟩] 33)).cell? ⟨p, 3, none⟩ = some (.pointer (some ⟨ps, 0, none⟩)) := ((KPrw h).below HB0.out (KPrw h).lt).at_ 3 _ rfl
  have HZ := hid asize
  have HZ5 := hid ssSize
  unfold Ma.told told An.val An.cells
  generalize look S.w.T c = x at *
  generalize looks S.w.T c = b at *
  obtain ⟨xc, xs, xr, xo, xt⟩ := x
  clear h hs
  go_enter Tryz.func41, Tryz.ntmps41
  go_wp2_with (first
    | (go_at_call 78; refine (HV.out _ HB0.out).mono ?_; rintro e w2 ⟨rfl, hb2⟩; have HB2 := hid (HB0.out.trans (hb2.mono HB0.out.size)); have HR2 := hid (HR0.out.below hb2 HR0.out.lt); clear hb2)
    | (refine wpl_store_st rfl (.tmp 4) (.tmp 26) rfl HZ.out w.heap.size an0.cells.toList [.int .i64 1, .int .i64 xc, .int .i64 xs, .int .i64 xr, .int .i64 xo, .string xt] rfl rfl HR4.out ?_ (hid rfl) (hid rfl) (hid rfl); intro w5 hr5 hg5)
    | (refine wpl_store_st rfl (.tmp 5) (.tmp 14) rfl HZ5.out w2.heap.size ss0.cells [.int .i64 xc, .int .i64 xs, .int .i64 xr, .int .i64 xo, .string xt] rfl rfl (Row.new _ _ _) ?_ (hid rfl) (hid rfl) (hid rfl); intro w4 hr4 hg4; have HB4 := hid (HB2.out.trans (((Below.refl w2.heap.size w2).alloc (Nat.le_refl _) (.cells #[.int .i64 0, .int .i64 0, .int .i64 0, .int .i64 0, .string ⟨#[]⟩] 65)).mono HB2.out.size)); have HR4 := hid ((HR2.out.alloc _).grown hg4 (by have := HR2.out.lt; intro e; have := Option.some.inj e; omega)); have HB5 := hid (HB4.out.trans (below_grown hg4 (by have := HB2.out.size; omega) HB4.out.size)); have d0 := hr4.at_ 0 _ rfl; have d1 := hr4.at_ 1 _ rfl; have d2 := hr4.at_ 2 _ rfl; have d3 := hr4.at_ 3 _ rfl; have d4 := hr4.at_ 4 _ rfl; clear hr4 hg4))
  refine bodyPost_ret (v := .agg #[.int .i64 1, .int .i64 xc, .int .i64 xs, .int .i64 xr, .int .i64 xo, .string xt])
    (results_cell_row rfl _ _ w.heap.size 33 _ (0, 0) _ rfl hr5.arr' Tryz.underlying33 rfl HZ.out) rfl ⟨rfl, HB5.out.trans (below_grown hg5 (Nat.le_refl _) HB5.out.size)⟩
/-- an answer, and a yes or no -/
def ANB (w : World) (x : An) (b : Bool) (e : Ending) (w' : World) : Prop := e = .returned (.tuple #[x.val, .bool b]) ∧ Below w.heap.size w w'
set_option maxHeartbeats 1000000 in
theorem mcac_no (P : Value) (n : Int) (c s r : Int) (w : World) (hn : (n != 2) = true) (HV : Hid (∀ W, Below w.heap.size w W → Calls Tryz.prog 16 #[P, .int .i64 c, .int .i64 s, .int .i64 r] W (VE W (.int .i64 n)))) :
    Calls Tryz.prog 14 #[P, .int .i64 c, .int .i64 s, .int .i64 r] w (ANB w an0 false) := by
  have HB0 : Hid (Below w.heap.size w (w.alloc (.cells an0.cells 33))) := hid ((Below.refl _ _).alloc (Nat.le_refl _) _)
  have HR0 := hid (show Row (w.alloc (.cells an0.cells 33)) w.heap.size 33 an0.cells.toList from Row.new _ _ _)
  have HZ := hid asize
  unfold ANB
  go_enter Tryz.func14, Tryz.ntmps14
  go_wp2_with (first
    | (go_at_call 16; refine (HV.out _ HB0.out).mono ?_; rintro e w2 ⟨rfl, hb2⟩; have HB2 := hid (HB0.out.trans (hb2.mono HB0.out.size)); have HR2 := hid (HR0.out.below hb2 HR0.out.lt); clear hb2)
    | (refine wpl_store_st rfl (.tmp 8) (.tmp 16) rfl HZ.out w.heap.size an0.cells.toList an0.cells.toList rfl rfl HR2.out ?_ (hid rfl) (hid rfl) (hid rfl); intro w5 hr5 hg5))
  refine bodyPost_ret (v := .tuple #[an0.val, .bool false])
    (results_cell1 rfl _ _ w.heap.size 33 an0.cells (0, 0) _ (.bool false) rfl rfl hr5.arr' Tryz.underlying33 rfl HZ.out) rfl ⟨rfl, HB2.out.trans (below_grown hg5 (Nat.le_refl _) HB2.out.size)⟩
theorem mcac_nil (c s r : Int) (w : World) : Calls Tryz.prog 14 #[.pointer none, .int .i64 c, .int .i64 s, .int .i64 r] w (ANB w an0 false) :=
  mcac_no _ 5 c s r w (by decide) (hid fun W _ => mver_nil c s r W)
set_option maxHeartbeats 1000000 in
theorem mmark_nil (w : World) : Calls Tryz.prog 18 #[.pointer none] w (VE w mk0.val) := by
  have HR0 := hid (show Row (w.alloc (.cells mk0.cells 41)) w.heap.size 41 mk0.cells.toList from Row.new _ _ _)
  have HZ := hid msize
  go_enter Tryz.func18, Tryz.ntmps18
  go_wp2_with (refine wpl_store_st rfl (.tmp 2) (.tmp 5) rfl HZ.out w.heap.size mk0.cells.toList mk0.cells.toList rfl rfl HR0.out ?_ (hid rfl) (hid rfl) (hid rfl); intro w5 hr5 hg5)
  refine bodyPost_ret (v := mk0.val)
    (results_cell_row rfl _ _ w.heap.size 41 _ (0, 0) _ rfl hr5.arr' Tryz.underlying41 rfl HZ.out) rfl ⟨rfl, ((Below.refl _ _).alloc (Nat.le_refl _) _).trans (below_grown hg5 (Nat.le_refl _) (by simp))⟩
set_option maxHeartbeats 1000000 in
theorem mmark_any (p : Nat) (S : Ma) (fp : List Nat) (w : World) (h : Hm KP p S fp w) : Calls Tryz.prog 18 #[.pointer (some ⟨p, 0, none⟩)] w (VE w S.m.val) := by
  obtain ⟨ps, pb, h⟩ := h
  have HR0 := hid (show Row (w.alloc (.cells mk0.cells 41)) w.heap.size 41 mk0.cells.toList from Row.new _ _ _)
  have HZ := hid msize
  have HR := hid ((KPrw h).alloc (.cells mk0.cells 41))
  unfold Mk.val Mk.cells
  unfold mcs at HR
  obtain ⟨⟨mo, mv, ms⟩, M⟩ := S
  simp only at *
  have HG := hid (Row.pre (xs := [.int .i64 mo, .int .i64 mv, .int .u64 (ms : Int)]) (ys := [.pointer (some ⟨ps, 0, none⟩), .pointer (some ⟨pb, 0, none⟩)]) HR.out)
  clear h
  go_enter Tryz.func18, Tryz.ntmps18
  go_wp2_with (first
    | (refine wpList_load_mid rfl 41 (.tmp 8) rfl p 0 rfl [.int .i64 mo, .int .i64 mv, .int .u64 (ms : Int)] _ HG.out Tryz.underlying41 rfl HZ.out ?_)
    | (refine wpl_store_st rfl (.tmp 2) (.tmp 9) rfl HZ.out w.heap.size mk0.cells.toList [.int .i64 mo, .int .i64 mv, .int .u64 (ms : Int)] rfl rfl HR0.out ?_ (hid rfl) (hid rfl) (hid rfl); intro w5 hr5 hg5))
  refine bodyPost_ret (v := .agg #[.int .i64 mo, .int .i64 mv, .int .u64 (ms : Int)])
    (results_cell_row rfl _ _ w.heap.size 41 _ (0, 0) _ rfl hr5.arr' Tryz.underlying41 rfl HZ.out) rfl ⟨rfl, ((Below.refl _ _).alloc (Nat.le_refl _) _).trans (below_grown hg5 (Nat.le_refl _) (by simp))⟩
theorem mses_nil (w : World) : Calls Tryz.prog 20 #[.pointer none] w (VE w (.slice none 0 0)) := by
  go_enter Tryz.func20, Tryz.ntmps20
  go_wp2_with fail
  go_ret
  exact ⟨rfl, Below.refl _ _⟩
theorem macc_nil (w : World) : Calls Tryz.prog 22 #[.pointer none] w (VE w (.slice none 0 0)) := by
  go_enter Tryz.func22, Tryz.ntmps22
  go_wp2_with fail
  go_ret
  exact ⟨rfl, Below.refl _ _⟩
theorem mtra_nil (w : World) : Calls Tryz.prog 24 #[.pointer none] w (VE w (.slice none 0 0)) := by
  go_enter Tryz.func24, Tryz.ntmps24
  go_wp2_with fail
  go_ret
  exact ⟨rfl, Below.refl _ _⟩
set_option maxHeartbeats 1000000 in
theorem mses_any (p : Nat) (S : Ma) (fp : List Nat) (w : World) (h : Hm KP p S fp w) : Calls Tryz.prog 20 #[.pointer (some ⟨p, 0, none⟩)] w (LS Ss.cells w S.w.T) := by
  obtain ⟨ps, pb, h⟩ := h
  obtain ⟨fs, hs⟩ := h.s
  have HV := hid (list_any ps fs S.w.T w hs)
  have c1 := (KPrw h).at_ 3 _ rfl
  generalize S.w.T = l at *
  clear h hs
  go_enter Tryz.func20, Tryz.ntmps20
  go_wp2_with (go_at_call 45; refine HV.out.mono ?_; rintro e w2 ⟨A, c, rfl, hc, hr, hb, hn⟩; have HC := hid hc; clear hc)
  go_ret
  exact ⟨A, c, rfl, HC.out, hr, hb, hn⟩
set_option maxHeartbeats 1000000 in
theorem macc_any (p : Nat) (S : Ma) (fp : List Nat) (w : World) (h : Hm KP p S fp w) : Calls Tryz.prog 22 #[.pointer (some ⟨p, 0, none⟩)] w (LS Ac.cells w S.w.B.A) := by
  obtain ⟨ps, pb, h⟩ := h
  obtain ⟨fs, hs⟩ := h.b
  obtain ⟨va, vt, -, hv⟩ := hs
  have HV := hid (alla_any pb va vt S.w.B w hv)
  have c1 := (KPrw h).at_ 4 _ rfl
  generalize S.w.B.A = l at *
  clear h hv
  go_enter Tryz.func22, Tryz.ntmps22
  go_wp2_with (go_at_call 46; refine HV.out.mono ?_; rintro e w2 ⟨A, c, rfl, hc, hr, hb, hn⟩; have HC := hid hc; clear hc)
  go_ret
  exact ⟨A, c, rfl, HC.out, hr, hb, hn⟩
set_option maxHeartbeats 1000000 in
theorem mtra_any (p : Nat) (S : Ma) (fp : List Nat) (w : World) (h : Hm KP p S fp w) : Calls Tryz.prog 24 #[.pointer (some ⟨p, 0, none⟩)] w (LS Tr.cells w S.w.B.T) := by
  obtain ⟨ps, pb, h⟩ := h
  obtain ⟨fs, hs⟩ := h.b
  obtain ⟨va, vt, -, hv⟩ := hs
  have HV := hid (allt_any pb va vt S.w.B w hv)
  have c1 := (KPrw h).at_ 4 _ rfl
  generalize S.w.B.T = l at *
  clear h hv
  go_enter Tryz.func24, Tryz.ntmps24
  go_wp2_with (go_at_call 47; refine HV.out.mono ?_; rintro e w2 ⟨A, c, rfl, hc, hr, hb, hn⟩; have HC := hid hc; clear hc)
  go_ret
  exact ⟨A, c, rfl, HC.out, hr, hb, hn⟩
end Go.Proofs.YtdimlfjepliflaaGreatDoor
/-
  The walks of package machine's register and request.
-/
namespace Go.Proofs.YtdimlfjepliflaaGreatDoor
open Go.RowKit
set_option maxRecDepth 10000

section
variable {XM XS XB p ps pb g : Nat} {C C' : List Value} {M M' : Mw} {fp : List Nat} {w W w' w'' : World}
/-- what was reached since a later world was reached since this one, too -/
theorem Gmw.pre (hB : Below w.heap.size w W) (h2 : Gmw XM XS XB p ps pb W fp C' M' w') : Gmw XM XS XB p ps pb w fp C' M' w' := by
  obtain ⟨fq, k1, k2, k3⟩ := h2
  have hs := hB.size
  refine ⟨fq, k1, (Fr.mono (Fr.of_below hB) (by simp)).trans k2 (fun b hb _ => hb), fun b hb => ?_⟩
  rcases k3 b hb with h | h
  · exact .inl h
  · exact .inr (by omega)
/-- a row of the call's own, made ahead of W, is written at the end -/
theorem Gmw.leave (h : Gm XM XS XB p ps pb C M fp w) (hB : Below w.heap.size w W) (h2 : Gmw XM XS XB p ps pb W fp C' M' w') (hg : w'.grownBy w'' (some g)) (hge : w.heap.size ≤ g) (hlt : g < W.heap.size) : Gmw XM XS XB p ps pb w fp C' M' w'' := by
  obtain ⟨fq, k1, k2, k3⟩ := h2
  have hs := hB.size
  have hf : Fr w' w'' [g] := (Fr.refl w' [g]).grown hg (fun k hk => .inl (by cases hk; simp))
  refine ⟨fq, k1.fr hf (fun b hb hn => ?_), ((Fr.mono (Fr.of_below hB) (by simp)).trans k2 (fun b hb _ => hb)).trans hf (fun b hb hl => ?_), fun b hb => ?_⟩
  · rw [List.mem_singleton.1 hn] at hb
    rcases k3 g hb with h1 | h1
    · have := h.lt g h1; omega
    · omega
  · rw [List.mem_singleton.1 hb] at hl; omega
  · rcases k3 b hb with h | h
    · exact .inl h
    · exact .inr (by omega)
end

set_option maxHeartbeats 2000000 in
theorem reg_told (view opn under : Int) (parent : Nat) (client session request oper : Int) (body : ByteArray) (p ps pb : Nat) (C : List Value) (M M' : Mw) (fp : List Nat) (w : World) (h : Gm KP.1 KP.2.1 KP.2.2 p ps pb C M fp w) (hc3 : C[3]? = some (.pointer (some ⟨ps, 0, none⟩))) (hc4 : C[4]? = some (.pointer (some ⟨pb, 0, none⟩))) (l er xc xs xr xo : Int) (xt : ByteArray) (hx : (xr == 0) = true)
    (HO : Hid (∀ (W : World) fq, Gm KP.1 KP.2.1 KP.2.2 p ps pb C M fq W → Calls Tryz.prog 71 #[.pointer (some ⟨ps, 0, none⟩), .int .i64 client, .int .i64 opn] W fun e w' => e = .returned (.tuple #[.int .i64 l, .int .i64 er]) ∧ Gmw KP.1 KP.2.1 KP.2.2 p ps pb W fq C M' w'))
    (HN : Hid (∀ (W : World) fq, Gm KP.1 KP.2.1 KP.2.2 p ps pb C M' fq W → Calls Tryz.prog 41 #[.pointer (some ⟨p, 0, none⟩), .int .i64 client] W (VE W (.agg #[.int .i64 1, .int .i64 xc, .int .i64 xs, .int .i64 xr, .int .i64 xo, .string xt])))) :
    Calls Tryz.prog 36 #[.pointer (some ⟨p, 0, none⟩), .agg #[.int .i64 view, .int .i64 opn, .int .i64 under, .int .u64 (parent : Int), .int .i64 client, .int .i64 session, .int .i64 request, .int .i64 oper, .string body]] w fun e w' => e = .returned (.agg #[.int .i64 1, .int .i64 xc, .int .i64 xs, .int .i64 xr, .int .i64 xo, .string xt]) ∧ Gmw KP.1 KP.2.1 KP.2.2 p ps pb w fp C M' w' := by
  have HB0 : Hid (Below w.heap.size w ((w.alloc (.cells #[.int .i64 view, .int .i64 opn, .int .i64 under, .int .u64 (parent : Int), .int .i64 client, .int .i64 session, .int .i64 request, .int .i64 oper, .string body] 31)).alloc (.cells #[.int .i64 0, .int .i64 0, .int .i64 0, .int .i64 0, .int .i64 0, .string ⟨#[]⟩] 33))) := hid (((Below.refl w.heap.size w).alloc (Nat.le_refl _) _).alloc (by simp) _)
  have HE : Hid (Row ((w.alloc (.cells #[.int .i64 view, .int .i64 opn, .int .i64 under, .int .u64 (parent : Int), .int .i64 client, .int .i64 session, .int .i64 request, .int .i64 oper, .string body] 31)).alloc (.cells #[.int .i64 0, .int .i64 0, .int .i64 0, .int .i64 0, .int .i64 0, .string ⟨#[]⟩] 33)) w.heap.size 31 (#[.int .i64 view, .int .i64 opn, .int .i64 under, .int .u64 (parent : Int), .int .i64 client, .int .i64 session, .int .i64 request, .int .i64 oper, .string body] : Array Value).toList) := hid ((Row.new _ _ _).alloc _)
  have HA : Hid (Row ((w.alloc (.cells #[.int .i64 view, .int .i64 opn, .int .i64 under, .int .u64 (parent : Int), .int .i64 client, .int .i64 session, .int .i64 request, .int .i64 oper, .string body] 31)).alloc (.cells #[.int .i64 0, .int .i64 0, .int .i64 0, .int .i64 0, .int .i64 0, .string ⟨#[]⟩] 33)) (w.heap.size + 1) 33 (#[.int .i64 0, .int .i64 0, .int .i64 0, .int .i64 0, .int .i64 0, .string ⟨#[]⟩] : Array Value).toList) := hid (by
    have := Row.new (w.alloc (.cells #[.int .i64 view, .int .i64 opn, .int .i64 under, .int .u64 (parent : Int), .int .i64 client, .int .i64 session, .int .i64 request, .int .i64 oper, .string body] 31)) 33 #[.int .i64 0, .int .i64 0, .int .i64 0, .int .i64 0, .int .i64 0, .string ⟨#[]⟩]
    simpa using this)
  have HSZ : Hid (((w.alloc (.cells #[.int .i64 view, .int .i64 opn, .int .i64 under, .int .u64 (parent : Int), .int .i64 client, .int .i64 session, .int .i64 request, .int .i64 oper, .string body] 31)).alloc (.cells #[.int .i64 0, .int .i64 0, .int .i64 0, .int .i64 0, .int .i64 0, .string ⟨#[]⟩] 33)).heap.size = w.heap.size + 2) := hid (by simp)
  have HG := hid (h.below HB0.out)
  have HC := hid HG.out.row
  have C3 := hid hc3
  have C4 := hid hc4
  have HZ := hid asize
  have HH := hid h
  have HLT := hid (show w.heap.size ∉ fp from fun q => by have := h.lt _ q; omega)
  have HLT1 := hid (show (w.heap.size + 1) ∉ fp from fun q => by have := h.lt _ q; omega)
  clear h hc3 hc4
  go_enter Tryz.func36, Tryz.ntmps36
  go_wp2_with fail
  try simp only [Act.put]
  refine wp_region_held_drew (S := fun W => Row W p 81 C ∧ Row W w.heap.size 31 (#[.int .i64 view, .int .i64 opn, .int .i64 under, .int .u64 (parent : Int), .int .i64 client, .int .i64 session, .int .i64 request, .int .i64 oper, .string body] : Array Value).toList) (by kernel_rfl) ⟨HC.out, HE.out⟩ (fun hH => ?_)
  refine wpAnyH_take (i := 0) (v := .pointer (some ⟨p, 0, none⟩)) rfl (by kernel_rfl) (by kernel_rfl) (by kernel_rfl) (fun _ _ _ h => h) (Or.inl ⟨by kernel_rfl, fun w' hw' => by clear hw'; go_simp⟩) hH ?_
  simp only [Act.put]
  refine wpAnyH_take (i := 1) (v := .pointer (some ⟨p, 0, none⟩)) rfl (by kernel_rfl) (by kernel_rfl) (by kernel_rfl) (fun _ _ _ h => h) (Or.inl ⟨by kernel_rfl, fun w' hw' => by clear hw'; go_simp⟩) hH ?_
  simp only [Act.put]
  refine wpAnyH_take (i := 2) (v := .pointer (some ⟨p, 3, none⟩)) rfl (by kernel_rfl) (by kernel_rfl) (by kernel_rfl) (fun _ _ _ h => h) (Or.inl ⟨by kernel_rfl, fun w' hw' => by clear hw'; go_simp⟩) hH ?_
  simp only [Act.put]
  refine wpAnyH_take (i := 3) (v := .pointer (some ⟨ps, 0, none⟩)) rfl (by kernel_rfl) (by kernel_rfl) (by kernel_rfl) (fun _ _ _ h => h) (Or.inl ⟨by kernel_rfl, fun w' hw' => by have h := hw'.1.at_ 3 _ C3.out; clear hw'; go_simp⟩) hH ?_
  simp only [Act.put]
  refine wpAnyH_take (i := 4) (v := .pointer (some ⟨w.heap.size, 4, none⟩)) rfl (by kernel_rfl) (by kernel_rfl) (by kernel_rfl) (fun _ _ _ h => h) (Or.inl ⟨by kernel_rfl, fun w' hw' => by clear hw'; go_simp⟩) hH ?_
  simp only [Act.put]
  refine wpAnyH_take (i := 5) (v := .int .i64 client) rfl (by kernel_rfl) (by kernel_rfl) (by kernel_rfl) (fun _ _ _ h => h) (Or.inl ⟨by kernel_rfl, fun w' hw' => by have h := hw'.2.at_ 4 _ rfl; clear hw'; go_simp⟩) hH ?_
  simp only [Act.put]
  refine wpAnyH_take (i := 6) (v := .pointer (some ⟨w.heap.size, 1, none⟩)) rfl (by kernel_rfl) (by kernel_rfl) (by kernel_rfl) (fun _ _ _ h => h) (Or.inl ⟨by kernel_rfl, fun w' hw' => by clear hw'; go_simp⟩) hH ?_
  simp only [Act.put]
  refine wpAnyH_take (i := 7) (v := .int .i64 opn) rfl (by kernel_rfl) (by kernel_rfl) (by kernel_rfl) (fun _ _ _ h => h) (Or.inl ⟨by kernel_rfl, fun w' hw' => by have h := hw'.2.at_ 1 _ rfl; clear hw'; go_simp⟩) hH ?_
  simp only [Act.put]
  refine wpAnyH_ready (rs := [8]) (by kernel_rfl) (by simp) ?_
  refine AllReadyH.cons rfl (fun K hK => ?_) AllReadyH.nil
  rw [if_pos (by kernel_rfl)]
  go_simp
  go_at_call 71
  refine (HO.out _ _ (HG.out.below (below_drewN (Below.refl _ _) 1))).mono ?_
  rintro e w2 ⟨rfl, hg2⟩
  have HG2 := hid hg2
  have HE2 := hid (hg2.frame.row HE.out.drew HLT.out)
  have HA2 := hid (hg2.frame.row HA.out.drew HLT1.out)
  clear hg2
  go_wp2_with fail
  refine hK.out _ _ (⟨HG2.out.row, HE2.out⟩) (fun hH => ?_)
  clear hK K
  try simp only [Act.put]
  refine wpAnyH_done (by kernel_rfl) ?_ _
  try simp only [Act.put]
  have e4 := HE2.out.at_ 4 _ rfl
  go_wp2_with (first
    | (go_at_call 41; obtain ⟨fq, hq, -⟩ := HG2.out; refine (HN.out _ fq hq).mono ?_; rintro e w3 ⟨rfl, hb3⟩; have HG3 := hid (HG2.out.below hb3); have HA3 := hid (HA2.out.below hb3 HA2.out.lt); clear hb3 hq)
    | (refine wpl_store_st rfl (.tmp 5) (.tmp 18) rfl HZ.out w3.heap.size an0.cells.toList (#[.int .i64 1, .int .i64 xc, .int .i64 xs, .int .i64 xr, .int .i64 xo, .string xt] : Array Value).toList rfl rfl (Row.new _ _ _) ?_ (hid rfl) (hid rfl) (hid rfl); intro w4 hr4 hg4; have HA4 := hid ((HA3.out.alloc (.cells an0.cells 33)).grown hg4 (by have := HA3.out.lt; intro e; have := Option.some.inj e; omega)); have HG4 := hid (HG3.out.below (((Below.refl w3.heap.size w3).alloc (Nat.le_refl _) (.cells an0.cells 33)).trans (below_grown hg4 (Nat.le_refl _) (by simp)))); have d3 := hr4.at_ 3 _ rfl; have HR4 := hid hr4; clear hr4 hg4)
    | (refine wpList_load_row rfl 33 (.tmp 5) rfl w3.heap.size rfl 33 #[.int .i64 1, .int .i64 xc, .int .i64 xs, .int .i64 xr, .int .i64 xo, .string xt] (0, 0) _ HR4.out.arr Tryz.underlying33 rfl HZ.out ?_)
    | (refine wpl_store_st rfl (.tmp 4) (.tmp 22) rfl HZ.out (w.heap.size + 1) an0.cells.toList (#[.int .i64 1, .int .i64 xc, .int .i64 xs, .int .i64 xr, .int .i64 xo, .string xt] : Array Value).toList rfl rfl HA4.out ?_ (hid rfl) (hid rfl) (hid rfl); intro w5 hr5 hg5))
  refine bodyPost_ret (v := .agg #[.int .i64 1, .int .i64 xc, .int .i64 xs, .int .i64 xr, .int .i64 xo, .string xt])
    (results_cell_row rfl _ _ (w.heap.size + 1) 33 _ (0, 0) _ rfl hr5.arr' Tryz.underlying33 rfl HZ.out) rfl ⟨rfl, Gmw.leave HH.out (below_drewN HB0.out 1) HG4.out hg5 (by omega) (by have := HSZ.out; show _ < (World.drewN _ _).heap.size; simp)⟩
set_option maxHeartbeats 2000000 in
theorem reg_none (view opn under : Int) (parent : Nat) (client session request oper : Int) (body : ByteArray) (p ps pb : Nat) (C : List Value) (M M' : Mw) (fp : List Nat) (w : World) (h : Gm KP.1 KP.2.1 KP.2.2 p ps pb C M fp w) (hc3 : C[3]? = some (.pointer (some ⟨ps, 0, none⟩))) (hc4 : C[4]? = some (.pointer (some ⟨pb, 0, none⟩))) (l er xc xs xr xo : Int) (xt : ByteArray) (hx : (xr == 0) = false)
    (HO : Hid (∀ (W : World) fq, Gm KP.1 KP.2.1 KP.2.2 p ps pb C M fq W → Calls Tryz.prog 71 #[.pointer (some ⟨ps, 0, none⟩), .int .i64 client, .int .i64 opn] W fun e w' => e = .returned (.tuple #[.int .i64 l, .int .i64 er]) ∧ Gmw KP.1 KP.2.1 KP.2.2 p ps pb W fq C M' w'))
    (HN : Hid (∀ (W : World) fq, Gm KP.1 KP.2.1 KP.2.2 p ps pb C M' fq W → Calls Tryz.prog 41 #[.pointer (some ⟨p, 0, none⟩), .int .i64 client] W (VE W (.agg #[.int .i64 1, .int .i64 xc, .int .i64 xs, .int .i64 xr, .int .i64 xo, .string xt])))) :
    Calls Tryz.prog 36 #[.pointer (some ⟨p, 0, none⟩), .agg #[.int .i64 view, .int .i64 opn, .int .i64 under, .int .u64 (parent : Int), .int .i64 client, .int .i64 session, .int .i64 request, .int .i64 oper, .string body]] w fun e w' => e = .returned (.agg #[.int .i64 0, .int .i64 0, .int .i64 0, .int .i64 0, .int .i64 0, .string ⟨#[]⟩]) ∧ Gmw KP.1 KP.2.1 KP.2.2 p ps pb w fp C M' w' := by
  have HB0 : Hid (Below w.heap.size w ((w.alloc (.cells #[.int .i64 view, .int .i64 opn, .int .i64 under, .int .u64 (parent : Int), .int .i64 client, .int .i64 session, .int .i64 request, .int .i64 oper, .string body] 31)).alloc (.cells #[.int .i64 0, .int .i64 0, .int .i64 0, .int .i64 0, .int .i64 0, .string ⟨#[]⟩] 33))) := hid (((Below.refl w.heap.size w).alloc (Nat.le_refl _) _).alloc (by simp) _)
  have HE : Hid (Row ((w.alloc (.cells #[.int .i64 view, .int .i64 opn, .int .i64 under, .int .u64 (parent : Int), .int .i64 client, .int .i64 session, .int .i64 request, .int .i64 oper, .string body] 31)).alloc (.cells #[.int .i64 0, .int .i64 0, .int .i64 0, .int .i64 0, .int .i64 0, .string ⟨#[]⟩] 33)) w.heap.size 31 (#[.int .i64 view, .int .i64 opn, .int .i64 under, .int .u64 (parent : Int), .int .i64 client, .int .i64 session, .int .i64 request, .int .i64 oper, .string body] : Array Value).toList) := hid ((Row.new _ _ _).alloc _)
  have HA : Hid (Row ((w.alloc (.cells #[.int .i64 view, .int .i64 opn, .int .i64 under, .int .u64 (parent : Int), .int .i64 client, .int .i64 session, .int .i64 request, .int .i64 oper, .string body] 31)).alloc (.cells #[.int .i64 0, .int .i64 0, .int .i64 0, .int .i64 0, .int .i64 0, .string ⟨#[]⟩] 33)) (w.heap.size + 1) 33 (#[.int .i64 0, .int .i64 0, .int .i64 0, .int .i64 0, .int .i64 0, .string ⟨#[]⟩] : Array Value).toList) := hid (by
    have := Row.new (w.alloc (.cells #[.int .i64 view, .int .i64 opn, .int .i64 under, .int .u64 (parent : Int), .int .i64 client, .int .i64 session, .int .i64 request, .int .i64 oper, .string body] 31)) 33 #[.int .i64 0, .int .i64 0, .int .i64 0, .int .i64 0, .int .i64 0, .string ⟨#[]⟩]
    simpa using this)
  have HSZ : Hid (((w.alloc (.cells #[.int .i64 view, .int .i64 opn, .int .i64 under, .int .u64 (parent : Int), .int .i64 client, .int .i64 session, .int .i64 request, .int .i64 oper, .string body] 31)).alloc (.cells #[.int .i64 0, .int .i64 0, .int .i64 0, .int .i64 0, .int .i64 0, .string ⟨#[]⟩] 33)).heap.size = w.heap.size + 2) := hid (by simp)
  have HG := hid (h.below HB0.out)
  have HC := hid HG.out.row
  have C3 := hid hc3
  have C4 := hid hc4
  have HZ := hid asize
  have HH := hid h
  have HLT := hid (show w.heap.size ∉ fp from fun q => by have := h.lt _ q; omega)
  have HLT1 := hid (show (w.heap.size + 1) ∉ fp from fun q => by have := h.lt _ q; omega)
  clear h hc3 hc4
  go_enter Tryz.func36, Tryz.ntmps36
  go_wp2_with fail
  try simp only [Act.put]
  refine wp_region_held_drew (S := fun W => Row W p 81 C ∧ Row W w.heap.size 31 (#[.int .i64 view, .int .i64 opn, .int .i64 under, .int .u64 (parent : Int), .int .i64 client, .int .i64 session, .int .i64 request, .int .i64 oper, .string body] : Array Value).toList) (by kernel_rfl) ⟨HC.out, HE.out⟩ (fun hH => ?_)
  refine wpAnyH_take (i := 0) (v := .pointer (some ⟨p, 0, none⟩)) rfl (by kernel_rfl) (by kernel_rfl) (by kernel_rfl) (fun _ _ _ h => h) (Or.inl ⟨by kernel_rfl, fun w' hw' => by clear hw'; go_simp⟩) hH ?_
  simp only [Act.put]
  refine wpAnyH_take (i := 1) (v := .pointer (some ⟨p, 0, none⟩)) rfl (by kernel_rfl) (by kernel_rfl) (by kernel_rfl) (fun _ _ _ h => h) (Or.inl ⟨by kernel_rfl, fun w' hw' => by clear hw'; go_simp⟩) hH ?_
  simp only [Act.put]
  refine wpAnyH_take (i := 2) (v := .pointer (some ⟨p, 3, none⟩)) rfl (by kernel_rfl) (by kernel_rfl) (by kernel_rfl) (fun _ _ _ h => h) (Or.inl ⟨by kernel_rfl, fun w' hw' => by clear hw'; go_simp⟩) hH ?_
  simp only [Act.put]
  refine wpAnyH_take (i := 3) (v := .pointer (some ⟨ps, 0, none⟩)) rfl (by kernel_rfl) (by kernel_rfl) (by kernel_rfl) (fun _ _ _ h => h) (Or.inl ⟨by kernel_rfl, fun w' hw' => by have h := hw'.1.at_ 3 _ C3.out; clear hw'; go_simp⟩) hH ?_
  simp only [Act.put]
  refine wpAnyH_take (i := 4) (v := .pointer (some ⟨w.heap.size, 4, none⟩)) rfl (by kernel_rfl) (by kernel_rfl) (by kernel_rfl) (fun _ _ _ h => h) (Or.inl ⟨by kernel_rfl, fun w' hw' => by clear hw'; go_simp⟩) hH ?_
  simp only [Act.put]
  refine wpAnyH_take (i := 5) (v := .int .i64 client) rfl (by kernel_rfl) (by kernel_rfl) (by kernel_rfl) (fun _ _ _ h => h) (Or.inl ⟨by kernel_rfl, fun w' hw' => by have h := hw'.2.at_ 4 _ rfl; clear hw'; go_simp⟩) hH ?_
  simp only [Act.put]
  refine wpAnyH_take (i := 6) (v := .pointer (some ⟨w.heap.size, 1, none⟩)) rfl (by kernel_rfl) (by kernel_rfl) (by kernel_rfl) (fun _ _ _ h => h) (Or.inl ⟨by kernel_rfl, fun w' hw' => by clear hw'; go_simp⟩) hH ?_
  simp only [Act.put]
  refine wpAnyH_take (i := 7) (v := .int .i64 opn) rfl (by kernel_rfl) (by kernel_rfl) (by kernel_rfl) (fun _ _ _ h => h) (Or.inl ⟨by kernel_rfl, fun w' hw' => by have h := hw'.2.at_ 1 _ rfl; clear hw'; go_simp⟩) hH ?_
  simp only [Act.put]
  refine wpAnyH_ready (rs := [8]) (by kernel_rfl) (by simp) ?_
  refine AllReadyH.cons rfl (fun K hK => ?_) AllReadyH.nil
  rw [if_pos (by kernel_rfl)]
  go_simp
  go_at_call 71
  refine (HO.out _ _ (HG.out.below (below_drewN (Below.refl _ _) 1))).mono ?_
  rintro e w2 ⟨rfl, hg2⟩
  have HG2 := hid hg2
  have HE2 := hid (hg2.frame.row HE.out.drew HLT.out)
  have HA2 := hid (hg2.frame.row HA.out.drew HLT1.out)
  clear hg2
  go_wp2_with fail
  refine hK.out _ _ (⟨HG2.out.row, HE2.out⟩) (fun hH => ?_)
  clear hK K
  try simp only [Act.put]
  refine wpAnyH_done (by kernel_rfl) ?_ _
  try simp only [Act.put]
  have e4 := HE2.out.at_ 4 _ rfl
  go_wp2_with (first
    | (go_at_call 41; obtain ⟨fq, hq, -⟩ := HG2.out; refine (HN.out _ fq hq).mono ?_; rintro e w3 ⟨rfl, hb3⟩; have HG3 := hid (HG2.out.below hb3); have HA3 := hid (HA2.out.below hb3 HA2.out.lt); clear hb3 hq)
    | (refine wpl_store_st rfl (.tmp 5) (.tmp 18) rfl HZ.out w3.heap.size an0.cells.toList (#[.int .i64 1, .int .i64 xc, .int .i64 xs, .int .i64 xr, .int .i64 xo, .string xt] : Array Value).toList rfl rfl (Row.new _ _ _) ?_ (hid rfl) (hid rfl) (hid rfl); intro w4 hr4 hg4; have HA4 := hid ((HA3.out.alloc (.cells an0.cells 33)).grown hg4 (by have := HA3.out.lt; intro e; have := Option.some.inj e; omega)); have HG4 := hid (HG3.out.below (((Below.refl w3.heap.size w3).alloc (Nat.le_refl _) (.cells an0.cells 33)).trans (below_grown hg4 (Nat.le_refl _) (by simp)))); have d3 := hr4.at_ 3 _ rfl; have HR4 := hid hr4; clear hr4 hg4)
    | (refine wpList_load_row rfl 33 (.tmp 5) rfl w3.heap.size rfl 33 #[.int .i64 1, .int .i64 xc, .int .i64 xs, .int .i64 xr, .int .i64 xo, .string xt] (0, 0) _ HR4.out.arr Tryz.underlying33 rfl HZ.out ?_)
    | (refine wpl_store_st rfl (.tmp 4) (.tmp 23) rfl HZ.out (w.heap.size + 1) an0.cells.toList (#[.int .i64 0, .int .i64 0, .int .i64 0, .int .i64 0, .int .i64 0, .string ⟨#[]⟩] : Array Value).toList rfl rfl HA4.out ?_ (hid rfl) (hid rfl) (hid rfl); intro w5 hr5 hg5))
  refine bodyPost_ret (v := .agg #[.int .i64 0, .int .i64 0, .int .i64 0, .int .i64 0, .int .i64 0, .string ⟨#[]⟩])
    (results_cell_row rfl _ _ (w.heap.size + 1) 33 _ (0, 0) _ rfl hr5.arr' Tryz.underlying33 rfl HZ.out) rfl ⟨rfl, Gmw.leave HH.out (below_drewN HB0.out 1) HG4.out hg5 (by omega) (by have := HSZ.out; show _ < (World.drewN _ _).heap.size; simp)⟩
end Go.Proofs.YtdimlfjepliflaaGreatDoor
/-
  The walks of package machine's lay, layMark, layText, Pack.
-/
namespace Go.Proofs.YtdimlfjepliflaaGreatDoor
open Go.RowKit
set_option maxRecDepth 10000

/-- the first k of s bytes of n, noughts behind -/
def lws (n k s : Nat) : List Value := bvs (le n k) ++ List.replicate (s - k) (.int .u8 0)
theorem lws_len (n k s : Nat) (h : k ≤ s) : (lws n k s).length = s := by simp [lws, bvs, le_len]; omega
theorem lws_at (n k s : Nat) (h : k < s) : (lws n k s)[k]? = some (.int .u8 0) := by
  have h1 : (bvs (le n k)).length = k := by simp [bvs, le_len]
  rw [lws, List.getElem?_append_right (by omega), h1]
  simp [show 0 < s - k by omega]
theorem lws_set (n k s : Nat) (h : k < s) : (lws n k s).set k (.int .u8 ((n : Int) / 2 ^ (8 * k) % 256)) = lws n (k + 1) s := by
  have h1 : ∀ m, (bvs (le n m)).length = m := fun m => by simp [bvs, le_len]
  apply List.ext_getElem?
  intro j
  by_cases hj : j = k
  · subst hj
    rw [List.getElem?_set_self (by rw [lws_len n j s (by omega)]; omega)]
    rw [lws, List.getElem?_append_left (by rw [h1]; omega), bvs, List.getElem?_map, le_get _ _ _ (by omega)]
    simp only [Option.map_some, bv_ofNat]
    simp
  · rw [List.getElem?_set_ne (by omega)]
    by_cases hlt : j < k
    · rw [lws, lws, List.getElem?_append_left (by rw [h1]; omega), List.getElem?_append_left (by rw [h1]; omega), bvs, bvs, List.getElem?_map, List.getElem?_map, le_get _ _ _ hlt, le_get _ _ _ (by omega)]
    · rw [lws, lws, List.getElem?_append_right (by rw [h1]; omega), List.getElem?_append_right (by rw [h1]; omega), h1, h1]
      simp [List.getElem?_replicate]
      by_cases h8 : j < s
      · rw [if_pos (by omega), if_pos (by omega)]
      · rw [if_neg (by omega), if_neg (by omega)]
theorem lws_zero (n s : Nat) : lws n 0 s = List.replicate s (.int .u8 0) := by simp [lws, le, bvs]
theorem lws_full (n s : Nat) : lws n s s = bvs (le n s) := by simp [lws]
set_option maxHeartbeats 1000000 in
theorem mlay_any (n size : Nat) (w : World) (h0 : size ≤ 8) : Calls Tryz.prog 85 #[.int .u64 n, .int .i64 size] w (SE w (le n size)) := by
  obtain ⟨i0, hi, hz0, hz1, hz2⟩ := info_parts u8info
  go_enter Tryz.func85, Tryz.ntmps85
  go_wp2_with (with_reducible refine wpl_make rfl _ _ _ rfl 5 i0 _ Tryz.underlying93 hi hz0 hz1 rfl _ _ _ _ size rfl rfl ?_ ?_ ?_ ?_ ?_; intro g w1 HG HR1 HB1)
  rotate_left
  · exact hid trivial
  · exact hid trivial
  · exact hid (by rw [hz2]; omega)
  · exact hid (by simp only [maxLen]; omega)
  have HR := hid HR1
  have HB := hid HB1
  clear HR1 HB1
  go_loopw [11] (fun i wr => ∃ k : Nat, k ≤ size ∧ i = .int .i64 k ∧ Row wr g 5 (lws n k size) ∧ Below w.heap.size w wr) (fun i _ => size - (intOf i).toNat)
  case atStart => exact ⟨0, by omega, rfl, by rw [lws_zero]; exact HR.out, HB.out.mono (by have := HG.out; omega)⟩
  case round =>
    obtain ⟨k, hk, rfl, hb, hbe⟩ := hrel
    have HG' := HG.out
    by_cases hlt : k < size
    · have hc := (hb.cell k).trans (lws_at n k size hlt)
      have hf := hb.frozen k
      have hst := hb.set_ k (.int .u8 ((n : Int) / 2 ^ (8 * k) % 256))
      rw [lws_set n k size hlt] at hst
      have HS := hid hst
      have HBE := hid (hbe.setCell (p := ⟨g, k, none⟩) (by show w.heap.size ≤ g; omega) (.int .u8 ((n : Int) / 2 ^ (8 * k) % 256)))
      have hlti : (k : Int) < (size : Int) := by omega
      clear hst hb hbe HG'
      go_wp2_with fail
      exact ⟨⟨k + 1, by omega, by go_num, HS.out, HBE.out⟩, by simp [intOf]; omega⟩
    · obtain rfl : k = size := by omega
      rw [lws_full] at hb
      have HBE := hid hbe
      have HRD := hid (hb.rd hb.lt)
      have HLN := hid (le_len k n)
      clear HG' hb hbe
      go_wp2_with (refine wpl_str rfl (.tmp 23) 93 9 rfl 5 Tryz.underlying93 Tryz.underlying5 Tryz.underlying9 (some ⟨g, 0, none⟩) k k rfl wr.heap.size (le n k) ?_ (hid HRD.out) (hid HLN.out.symm))
      go_ret
      exact ⟨rfl, HBE.out⟩
set_option maxHeartbeats 2000000 in
theorem mlmark_go (x0 x1 ms : Nat) (w : World) (hu0 : IntKind.u64.wrap (x0 : Int) = (x0 : Int)) (hu1 : IntKind.u64.wrap (x1 : Int) = (x1 : Int)) : Calls Tryz.prog 48 #[.agg #[.int .i64 (x0 : Int), .int .i64 (x1 : Int), .int .u64 (ms : Int)]] w (SE w (le x0 8 ++ le x1 8 ++ le ms 8)) := by
  have HU0 := hid hu0
  have HU1 := hid hu1
  have HRM := hid (Row.new w 41 #[.int .i64 (x0 : Int), .int .i64 (x1 : Int), .int .u64 (ms : Int)])
  have HB0 := hid ((Below.refl w.heap.size w).alloc (Nat.le_refl _) (.cells #[.int .i64 (x0 : Int), .int .i64 (x1 : Int), .int .u64 (ms : Int)] 41))
  have HL0 := hid (fun W => mlay_any x0 8 W (Nat.le_refl _))
  have HL1 := hid (fun W => mlay_any x1 8 W (Nat.le_refl _))
  have HL2 := hid (fun W => mlay_any ms 8 W (Nat.le_refl _))
  have h80 := le_len 8 x0
  have h81 := le_len 8 x1
  have h82 := le_len 8 ms
  unfold SE
  rw [← cat_mk, ← cat_mk]
  generalize le x0 8 = E0 at *
  generalize le x1 8 = E1 at *
  generalize le ms 8 = E2 at *
  have hq2 : ¬ (9223372036854775807 < E0.length + E1.length) := by omega
  have hq3 : ¬ (9223372036854775807 < E0.length + E1.length + E2.length) := by omega
  have hq3' : ¬ (9223372036854775807 < E0.length + (E1.length + E2.length)) := by omega
  clear h80 h81 h82 hu0 hu1
  go_enter Tryz.func48, Tryz.ntmps48
  go_wp2_with fail
  try simp only [Act.put]
  refine wp_region_held_drew (S := fun W => Below (w.alloc (.cells #[.int .i64 (x0 : Int), .int .i64 (x1 : Int), .int .u64 (ms : Int)] 41)).heap.size (w.alloc (.cells #[.int .i64 (x0 : Int), .int .i64 (x1 : Int), .int .u64 (ms : Int)] 41)) W) (by kernel_rfl) ((Below.refl _ _).drew) (fun hH => ?_)
  refine wpAnyH_take (i := 0) (v := .pointer (some ⟨w.heap.size, 0, none⟩)) rfl (by kernel_rfl) (by kernel_rfl) (by kernel_rfl) (fun _ _ _ h => h) (Or.inl ⟨by kernel_rfl, fun w' hw' => by clear hw'; go_simp⟩) hH ?_
  simp only [Act.put]
  refine wpAnyH_take (i := 1) (v := .int .i64 (x0 : Int)) rfl (by kernel_rfl) (by kernel_rfl) (by kernel_rfl) (fun _ _ _ h => h) (Or.inl ⟨by kernel_rfl, fun w' hw' => by have h := (HRM.out.below hw' HRM.out.lt).at_ 0 _ rfl; clear hw'; go_simp⟩) hH ?_
  simp only [Act.put]
  refine wpAnyH_take (i := 2) (v := .int .u64 (x0 : Int)) rfl (by kernel_rfl) (by kernel_rfl) (by kernel_rfl) (fun _ _ _ h => h) (Or.inl ⟨by kernel_rfl, fun w' hw' => by have h := HU0.out; clear hw'; go_simp⟩) hH ?_
  simp only [Act.put]
  refine wpAnyH_take (i := 4) (v := .pointer (some ⟨w.heap.size, 1, none⟩)) rfl (by kernel_rfl) (by kernel_rfl) (by kernel_rfl) (fun _ _ _ h => h) (Or.inl ⟨by kernel_rfl, fun w' hw' => by clear hw'; go_simp⟩) hH ?_
  simp only [Act.put]
  refine wpAnyH_take (i := 5) (v := .int .i64 (x1 : Int)) rfl (by kernel_rfl) (by kernel_rfl) (by kernel_rfl) (fun _ _ _ h => h) (Or.inl ⟨by kernel_rfl, fun w' hw' => by have h := (HRM.out.below hw' HRM.out.lt).at_ 1 _ rfl; clear hw'; go_simp⟩) hH ?_
  simp only [Act.put]
  refine wpAnyH_take (i := 6) (v := .int .u64 (x1 : Int)) rfl (by kernel_rfl) (by kernel_rfl) (by kernel_rfl) (fun _ _ _ h => h) (Or.inl ⟨by kernel_rfl, fun w' hw' => by have h := HU1.out; clear hw'; go_simp⟩) hH ?_
  simp only [Act.put]
  refine wpAnyH_take (i := 9) (v := .pointer (some ⟨w.heap.size, 2, none⟩)) rfl (by kernel_rfl) (by kernel_rfl) (by kernel_rfl) (fun _ _ _ h => h) (Or.inl ⟨by kernel_rfl, fun w' hw' => by clear hw'; go_simp⟩) hH ?_
  simp only [Act.put]
  refine wpAnyH_take (i := 10) (v := .int .u64 (ms : Int)) rfl (by kernel_rfl) (by kernel_rfl) (by kernel_rfl) (fun _ _ _ h => h) (Or.inl ⟨by kernel_rfl, fun w' hw' => by have h := (HRM.out.below hw' HRM.out.lt).at_ 2 _ rfl; clear hw'; go_simp⟩) hH ?_
  simp only [Act.put]
  refine wpAnyH_ready (rs := [3]) (by kernel_rfl) (by simp) ?_
  refine AllReadyH.cons rfl (fun K hK => ?_) AllReadyH.nil
  rw [if_pos (by kernel_rfl)]
  go_simp
  go_at_call 85
  refine (HL0.out _).mono ?_
  rintro e w2 ⟨rfl, hb2⟩
  go_wp2_with fail
  refine hK.out _ _ (hH.trans (Below.mono hb2 hH.size)) (fun hH => ?_)
  clear hK K
  try simp only [Act.put]
  refine wpAnyH_ready (rs := [7]) (by kernel_rfl) (by simp) ?_
  refine AllReadyH.cons rfl (fun K hK => ?_) AllReadyH.nil
  rw [if_pos (by kernel_rfl)]
  go_simp
  go_at_call 85
  refine (HL1.out _).mono ?_
  rintro e w3 ⟨rfl, hb3⟩
  go_wp2_with fail
  refine hK.out _ _ (hH.trans (Below.mono hb3 hH.size)) (fun hH => ?_)
  clear hK K
  try simp only [Act.put]
  refine wpAnyH_take (i := 8) (v := .string (⟨E0.toArray⟩ ++ ⟨E1.toArray⟩)) rfl (by kernel_rfl) (by kernel_rfl) (by kernel_rfl) (fun _ _ _ h => h) (Or.inl ⟨by kernel_rfl, fun w' hw' => by clear hw'; go_simp⟩) hH ?_
  simp only [Act.put]
  refine wpAnyH_ready (rs := [11]) (by kernel_rfl) (by simp) ?_
  refine AllReadyH.cons rfl (fun K hK => ?_) AllReadyH.nil
  rw [if_pos (by kernel_rfl)]
  go_simp
  go_at_call 85
  refine (HL2.out _).mono ?_
  rintro e w4 ⟨rfl, hb4⟩
  go_wp2_with fail
  refine hK.out _ _ (hH.trans (Below.mono hb4 hH.size)) (fun hH => ?_)
  clear hK K
  try simp only [Act.put]
  refine wpAnyH_take (i := 12) (v := .string (⟨E0.toArray⟩ ++ ⟨E1.toArray⟩ ++ ⟨E2.toArray⟩)) rfl (by kernel_rfl) (by kernel_rfl) (by kernel_rfl) (fun _ _ _ h => h) (Or.inl ⟨by kernel_rfl, fun w' hw' => by clear hw'; go_simp⟩) hH ?_
  simp only [Act.put]
  refine wpAnyH_ready (rs := [13]) (by kernel_rfl) (by simp) ?_
  refine AllReadyH.cons rfl (fun K hK => ?_) AllReadyH.nil
  rw [if_pos (by kernel_rfl)]
  go_simp
  refine hK.out _ _ hH (fun hH => ?_)
  clear hK K
  try simp only [Act.put]
  refine wpAnyH_done (by kernel_rfl) ?_ _
  try simp only [Act.put]
  go_wp2_with fail
  go_ret
  exact ⟨rfl, HB0.out.trans (hH.mono HB0.out.size)⟩
theorem mlmark_any (m : Mk) (hm : m.ok) (w : World) : Calls Tryz.prog 48 #[m.val] w (SE w (le m.opn.toNat 8 ++ le m.view.toNat 8 ++ le m.sum 8)) := by
  obtain ⟨x0, e0, b0⟩ := nat_of (z := m.opn) hm.o
  obtain ⟨x1, e1, b1⟩ := nat_of (z := m.view) hm.v
  obtain ⟨mo, mv, ms⟩ := m
  simp only at e0 e1
  subst e0 e1
  exact mlmark_go x0 x1 ms w (u64_fit x0 b0) (u64_fit x1 b1)
set_option maxHeartbeats 1000000 in
theorem mltext_any (s : ByteArray) (w : World) (h : s.size ≤ 65535) : Calls Tryz.prog 49 #[.string s] w (SE w (txt (sb s))) := by
  have HL := hid (fun W => mlay_any s.size 2 W (by omega))
  have hu : IntKind.u64.wrap (s.size : Int) = (s.size : Int) := u64_fit _ (by omega)
  have h2 := le_len 2 s.size
  have htx : txt (sb s) = le s.size 2 ++ sb s := by unfold txt; rw [sb_len]
  have hcat : (⟨(le s.size 2 ++ sb s).toArray⟩ : ByteArray) = ⟨(le s.size 2).toArray⟩ ++ s := by rw [← cat_mk, mk_sb]
  unfold SE
  rw [htx, hcat]
  clear htx hcat
  generalize le s.size 2 = E0 at *
  have hq2 : ¬ (9223372036854775807 < E0.length + s.size) := by omega
  clear h2
  go_enter Tryz.func49, Tryz.ntmps49
  go_wp2_with (go_at_call 85; refine (HL.out _).mono ?_; rintro e w2 ⟨rfl, hb2⟩; have HB2 := hid hb2; clear hb2)
  go_ret
  exact ⟨rfl, HB2.out⟩
set_option maxHeartbeats 4000000 in
theorem mpack_go (p ps pb : Nat) (mo mv : Int) (ms : Nat) (P1 P2 : ByteArray) (E0 E1 E2 : List UInt8) (w : World) (hr : Row w p 81 [.int .i64 mo, .int .i64 mv, .int .u64 (ms : Int), .pointer (some ⟨ps, 0, none⟩), .pointer (some ⟨pb, 0, none⟩)])
    (HM : Hid (∀ W : World, Calls Tryz.prog 48 #[.agg #[.int .i64 mo, .int .i64 mv, .int .u64 (ms : Int)]] W (SE W E0)))
    (HP : Hid (∀ W : World, Below w.heap.size w W → Calls Tryz.prog 50 #[.pointer (some ⟨ps, 0, none⟩)] W (VE W (.string P1))))
    (HT : Hid (∀ W : World, Calls Tryz.prog 49 #[.string P1] W (SE W E1)))
    (HQ : Hid (∀ W : World, Below w.heap.size w W → Calls Tryz.prog 51 #[.pointer (some ⟨pb, 0, none⟩)] W (VE W (.string P2))))
    (HU : Hid (∀ W : World, Calls Tryz.prog 49 #[.string P2] W (SE W E2))) (hl : E0.length + E1.length + E2.length ≤ 1000000) :
    Calls Tryz.prog 25 #[.pointer (some ⟨p, 0, none⟩)] w (SE w (E0 ++ E1 ++ E2)) := by
  have HR := hid hr
  have HZM := hid msize
  unfold SE
  rw [← cat_mk, ← cat_mk]
  have hq2 : ¬ (9223372036854775807 < E0.length + E1.length) := by omega
  have hq3 : ¬ (9223372036854775807 < E0.length + E1.length + E2.length) := by omega
  have hq3' : ¬ (9223372036854775807 < E0.length + (E1.length + E2.length)) := by omega
  clear hr hl
  go_enter Tryz.func25, Tryz.ntmps25
  go_wp2_with fail
  try simp only [Act.put]
  refine wp_region_held_drew (S := fun W => Below (w).heap.size (w) W) (by kernel_rfl) ((Below.refl _ _).drew) (fun hH => ?_)
  refine wpAnyH_take (i := 0) (v := .pointer (some ⟨p, 0, none⟩)) rfl (by kernel_rfl) (by kernel_rfl) (by kernel_rfl) (fun _ _ _ h => h) (Or.inl ⟨by kernel_rfl, fun w' hw' => by clear hw'; go_simp⟩) hH ?_
  simp only [Act.put]
  refine wpAnyH_take (i := 1) (v := .pointer (some ⟨p, 0, none⟩)) rfl (by kernel_rfl) (by kernel_rfl) (by kernel_rfl) (fun _ _ _ h => h) (Or.inl ⟨by kernel_rfl, fun w' hw' => by clear hw'; go_simp⟩) hH ?_
  simp only [Act.put]
  refine wpAnyH_take (i := 2) (v := .pointer (some ⟨p, 0, none⟩)) rfl (by kernel_rfl) (by kernel_rfl) (by kernel_rfl) (fun _ _ _ h => h) (Or.inl ⟨by kernel_rfl, fun w' hw' => by clear hw'; go_simp⟩) hH ?_
  simp only [Act.put]
  refine wpAnyH_take (i := 3) (v := .agg #[.int .i64 mo, .int .i64 mv, .int .u64 (ms : Int)]) rfl (by kernel_rfl) (by kernel_rfl) (by kernel_rfl) (fun _ _ _ h => h) ?_ hH ?_
  · refine yieldsIf_load_mid ?_ 41 (.tmp 8) ?_ p 0 ?_ [.int .i64 mo, .int .i64 mv, .int .u64 (ms : Int)] _ (fun W hW => Row.pre (xs := [.int .i64 mo, .int .i64 mv, .int .u64 (ms : Int)]) (ys := [.pointer (some ⟨ps, 0, none⟩), .pointer (some ⟨pb, 0, none⟩)]) (HR.out.below hW HR.out.lt)) Tryz.underlying41 rfl HZM.out
    all_goals kernel_rfl
  simp only [Act.put]
  refine wpAnyH_take (i := 5) (v := .pointer (some ⟨p, 0, none⟩)) rfl (by kernel_rfl) (by kernel_rfl) (by kernel_rfl) (fun _ _ _ h => h) (Or.inl ⟨by kernel_rfl, fun w' hw' => by clear hw'; go_simp⟩) hH ?_
  simp only [Act.put]
  refine wpAnyH_take (i := 6) (v := .pointer (some ⟨p, 0, none⟩)) rfl (by kernel_rfl) (by kernel_rfl) (by kernel_rfl) (fun _ _ _ h => h) (Or.inl ⟨by kernel_rfl, fun w' hw' => by clear hw'; go_simp⟩) hH ?_
  simp only [Act.put]
  refine wpAnyH_take (i := 7) (v := .pointer (some ⟨p, 3, none⟩)) rfl (by kernel_rfl) (by kernel_rfl) (by kernel_rfl) (fun _ _ _ h => h) (Or.inl ⟨by kernel_rfl, fun w' hw' => by clear hw'; go_simp⟩) hH ?_
  simp only [Act.put]
  refine wpAnyH_take (i := 8) (v := .pointer (some ⟨ps, 0, none⟩)) rfl (by kernel_rfl) (by kernel_rfl) (by kernel_rfl) (fun _ _ _ h => h) (Or.inl ⟨by kernel_rfl, fun w' hw' => by have h := (HR.out.below hw' HR.out.lt).at_ 3 _ rfl; clear hw'; go_simp⟩) hH ?_
  simp only [Act.put]
  refine wpAnyH_take (i := 12) (v := .pointer (some ⟨p, 0, none⟩)) rfl (by kernel_rfl) (by kernel_rfl) (by kernel_rfl) (fun _ _ _ h => h) (Or.inl ⟨by kernel_rfl, fun w' hw' => by clear hw'; go_simp⟩) hH ?_
  simp only [Act.put]
  refine wpAnyH_take (i := 13) (v := .pointer (some ⟨p, 0, none⟩)) rfl (by kernel_rfl) (by kernel_rfl) (by kernel_rfl) (fun _ _ _ h => h) (Or.inl ⟨by kernel_rfl, fun w' hw' => by clear hw'; go_simp⟩) hH ?_
  simp only [Act.put]
  refine wpAnyH_take (i := 14) (v := .pointer (some ⟨p, 4, none⟩)) rfl (by kernel_rfl) (by kernel_rfl) (by kernel_rfl) (fun _ _ _ h => h) (Or.inl ⟨by kernel_rfl, fun w' hw' => by clear hw'; go_simp⟩) hH ?_
  simp only [Act.put]
  refine wpAnyH_take (i := 15) (v := .pointer (some ⟨pb, 0, none⟩)) rfl (by kernel_rfl) (by kernel_rfl) (by kernel_rfl) (fun _ _ _ h => h) (Or.inl ⟨by kernel_rfl, fun w' hw' => by have h := (HR.out.below hw' HR.out.lt).at_ 4 _ rfl; clear hw'; go_simp⟩) hH ?_
  simp only [Act.put]
  refine wpAnyH_ready (rs := [4]) (by kernel_rfl) (by simp) ?_
  refine AllReadyH.cons rfl (fun K hK => ?_) AllReadyH.nil
  rw [if_pos (by kernel_rfl)]
  go_simp
  go_at_call 48
  refine (HM.out _).mono ?_
  rintro e w2 ⟨rfl, hb2⟩
  go_wp2_with fail
  refine hK.out _ _ (hH.trans (Below.mono hb2 hH.size)) (fun hH => ?_)
  clear hK K
  try simp only [Act.put]
  refine wpAnyH_ready (rs := [9]) (by kernel_rfl) (by simp) ?_
  refine AllReadyH.cons rfl (fun K hK => ?_) AllReadyH.nil
  rw [if_pos (by kernel_rfl)]
  go_simp
  go_at_call 50
  refine (HP.out _ hH).mono ?_
  rintro e w3 ⟨rfl, hb3⟩
  go_wp2_with fail
  refine hK.out _ _ (hH.trans (Below.mono hb3 hH.size)) (fun hH => ?_)
  clear hK K
  try simp only [Act.put]
  refine wpAnyH_ready (rs := [10]) (by kernel_rfl) (by simp) ?_
  refine AllReadyH.cons rfl (fun K hK => ?_) AllReadyH.nil
  rw [if_pos (by kernel_rfl)]
  go_simp
  go_at_call 49
  refine (HT.out _).mono ?_
  rintro e w4 ⟨rfl, hb4⟩
  go_wp2_with fail
  refine hK.out _ _ (hH.trans (Below.mono hb4 hH.size)) (fun hH => ?_)
  clear hK K
  try simp only [Act.put]
  refine wpAnyH_take (i := 11) (v := .string (⟨E0.toArray⟩ ++ ⟨E1.toArray⟩)) rfl (by kernel_rfl) (by kernel_rfl) (by kernel_rfl) (fun _ _ _ h => h) (Or.inl ⟨by kernel_rfl, fun w' hw' => by clear hw'; go_simp⟩) hH ?_
  simp only [Act.put]
  refine wpAnyH_ready (rs := [16]) (by kernel_rfl) (by simp) ?_
  refine AllReadyH.cons rfl (fun K hK => ?_) AllReadyH.nil
  rw [if_pos (by kernel_rfl)]
  go_simp
  go_at_call 51
  refine (HQ.out _ hH).mono ?_
  rintro e w5 ⟨rfl, hb5⟩
  go_wp2_with fail
  refine hK.out _ _ (hH.trans (Below.mono hb5 hH.size)) (fun hH => ?_)
  clear hK K
  try simp only [Act.put]
  refine wpAnyH_ready (rs := [17]) (by kernel_rfl) (by simp) ?_
  refine AllReadyH.cons rfl (fun K hK => ?_) AllReadyH.nil
  rw [if_pos (by kernel_rfl)]
  go_simp
  go_at_call 49
  refine (HU.out _).mono ?_
  rintro e w6 ⟨rfl, hb6⟩
  go_wp2_with fail
  refine hK.out _ _ (hH.trans (Below.mono hb6 hH.size)) (fun hH => ?_)
  clear hK K
  try simp only [Act.put]
  refine wpAnyH_take (i := 18) (v := .string (⟨E0.toArray⟩ ++ ⟨E1.toArray⟩ ++ ⟨E2.toArray⟩)) rfl (by kernel_rfl) (by kernel_rfl) (by kernel_rfl) (fun _ _ _ h => h) (Or.inl ⟨by kernel_rfl, fun w' hw' => by clear hw'; go_simp⟩) hH ?_
  simp only [Act.put]
  refine wpAnyH_ready (rs := [19]) (by kernel_rfl) (by simp) ?_
  refine AllReadyH.cons rfl (fun K hK => ?_) AllReadyH.nil
  rw [if_pos (by kernel_rfl)]
  go_simp
  refine hK.out _ _ hH (fun hH => ?_)
  clear hK K
  try simp only [Act.put]
  refine wpAnyH_done (by kernel_rfl) ?_ _
  try simp only [Act.put]
  go_wp2_with fail
  go_ret
  exact ⟨rfl, hH⟩
theorem mpack_any (p : Nat) (S : Ma) (fp : List Nat) (w : World) (hS : S.WF) (h : Hm KP p S fp w) : Calls Tryz.prog 25 #[.pointer (some ⟨p, 0, none⟩)] w (SE w S.pack) := by
  obtain ⟨ps, pb, h⟩ := h
  obtain ⟨fs, hs⟩ := h.s
  obtain ⟨fb, hb⟩ := h.b
  have hp1 := pack8_le hS.w.t
  have hp2 := pack_len S.w.B hS.w.b
  have h3 := hS.w.b.la
  have h4 := hS.w.b.lt
  have HM := hid (fun W => mlmark_any S.m hS.m W)
  have hl0 : (le S.m.opn.toNat 8 ++ le S.m.view.toNat 8 ++ le S.m.sum 8).length = 24 := by simp [le_len]
  have HP := hid (fun W (hW : Below w.heap.size w W) => show Calls Tryz.prog 50 #[.pointer (some ⟨ps, 0, none⟩)] W (VE W (.string ⟨(pack S.w.T).toArray⟩)) from pack_any8 ps fs S.w.T W (hs.below hW))
  have HQ := hid (fun W (hW : Below w.heap.size w W) => show Calls Tryz.prog 51 #[.pointer (some ⟨pb, 0, none⟩)] W (VE W (.string ⟨S.w.B.pack.toArray⟩)) from pack_gk (p := pb) (fp := fb) (S := S.w.B) (w := W) (hb.below hW))
  have HT := hid (fun W => mltext_any ⟨(pack S.w.T).toArray⟩ W (by rw [← sb_len, sb_mk]; omega))
  have HU := hid (fun W => mltext_any ⟨S.w.B.pack.toArray⟩ W (by rw [← sb_len, sb_mk]; omega))
  rw [sb_mk] at HT HU
  obtain ⟨⟨mo, mv, ms⟩, M⟩ := S
  exact mpack_go p ps pb mo mv ms _ _ _ _ _ w h.row HM HP HT HQ HU (by rw [hl0]; unfold txt; simp only [List.length_append, le_len]; simp only at hp1 hp2 h3 h4; omega)
set_option maxHeartbeats 4000000 in
theorem mpack_nil (w : World) : Calls Tryz.prog 25 #[.pointer none] w (SE w ma0.pack) := by
  have HNW := hid (fun W => mnew_any W)
  have HZM := hid msize
  have hl0 : (le 0 8 ++ le 0 8 ++ le 0 8).length = 24 := rfl
  have HM : Hid (∀ W : World, Calls Tryz.prog 48 #[.agg #[.int .i64 0, .int .i64 0, .int .u64 ((0 : Nat) : Int)]] W (SE W (le 0 8 ++ le 0 8 ++ le 0 8))) := hid (fun W => mlmark_any mk0 mk0_ok W)
  have HT := hid (fun W => mltext_any ⟨(pack []).toArray⟩ W (by rw [← sb_len, sb_mk]; show 1 ≤ 65535; omega))
  have HU := hid (fun W => mltext_any ⟨Lg.nil.pack.toArray⟩ W (by rw [← sb_len, sb_mk, pack_len _ Lg.nil_wf]; show 2 ≤ 65535; omega))
  rw [sb_mk] at HT HU
  have hlt1 : (txt (pack [])).length = 3 := rfl
  have hlt2 : (txt Lg.nil.pack).length = 4 := by unfold txt; rw [List.length_append, le_len, pack_len _ Lg.nil_wf]; rfl
  unfold SE
  show Calls _ _ _ _ fun e w' => e = .returned (.string ⟨(le 0 8 ++ le 0 8 ++ le 0 8 ++ txt (pack []) ++ txt Lg.nil.pack).toArray⟩) ∧ _
  rw [← cat_mk, ← cat_mk]
  generalize hE0 : le 0 8 ++ le 0 8 ++ le 0 8 = E0 at *
  generalize hE1 : txt (pack []) = E1 at *
  generalize hE2 : txt Lg.nil.pack = E2 at *
  have hq2 : ¬ (9223372036854775807 < E0.length + E1.length) := by omega
  have hq3 : ¬ (9223372036854775807 < E0.length + E1.length + E2.length) := by omega
  have hq3' : ¬ (9223372036854775807 < E0.length + (E1.length + E2.length)) := by omega
  clear hl0 hlt1 hlt2 hE0 hE1 hE2
  go_enter Tryz.func25, Tryz.ntmps25
  go_wp2_with (go_at_call 10; refine (HNW.out _).mono ?_; rintro e w1 ⟨p, fp, rfl, hk, hf, hx⟩; have HK := hid hk; have HX := hid hx; clear hk hf hx)
  obtain ⟨ps, pb, hg⟩ := HK.out
  obtain ⟨fs, hs⟩ := hg.s
  obtain ⟨fb, hb⟩ := hg.b
  have HP := hid (fun W (hW : Below w1.heap.size w1 W) => show Calls Tryz.prog 50 #[.pointer (some ⟨ps, 0, none⟩)] W (VE W (.string ⟨(pack []).toArray⟩)) from pack_any8 ps fs [] W (hs.below hW))
  have HQ := hid (fun W (hW : Below w1.heap.size w1 W) => show Calls Tryz.prog 51 #[.pointer (some ⟨pb, 0, none⟩)] W (VE W (.string ⟨Lg.nil.pack.toArray⟩)) from pack_gk (p := pb) (fp := fb) (S := Lg.nil) (w := W) (hb.below hW))
  have HR : Hid (Row w1 p 81 [.int .i64 0, .int .i64 0, .int .u64 ((0 : Nat) : Int), .pointer (some ⟨ps, 0, none⟩), .pointer (some ⟨pb, 0, none⟩)]) := hid hg.row
  clear hg hs hb
  try simp only [Act.put]
  refine wp_region_held_drew (S := fun W => Below (w1).heap.size (w1) W) (by kernel_rfl) ((Below.refl _ _).drew) (fun hH => ?_)
  refine wpAnyH_take (i := 0) (v := .pointer (some ⟨p, 0, none⟩)) rfl (by kernel_rfl) (by kernel_rfl) (by kernel_rfl) (fun _ _ _ h => h) (Or.inl ⟨by kernel_rfl, fun w' hw' => by clear hw'; go_simp⟩) hH ?_
  simp only [Act.put]
  refine wpAnyH_take (i := 1) (v := .pointer (some ⟨p, 0, none⟩)) rfl (by kernel_rfl) (by kernel_rfl) (by kernel_rfl) (fun _ _ _ h => h) (Or.inl ⟨by kernel_rfl, fun w' hw' => by clear hw'; go_simp⟩) hH ?_
  simp only [Act.put]
  refine wpAnyH_take (i := 2) (v := .pointer (some ⟨p, 0, none⟩)) rfl (by kernel_rfl) (by kernel_rfl) (by kernel_rfl) (fun _ _ _ h => h) (Or.inl ⟨by kernel_rfl, fun w' hw' => by clear hw'; go_simp⟩) hH ?_
  simp only [Act.put]
  refine wpAnyH_take (i := 3) (v := .agg #[.int .i64 0, .int .i64 0, .int .u64 ((0 : Nat) : Int)]) rfl (by kernel_rfl) (by kernel_rfl) (by kernel_rfl) (fun _ _ _ h => h) ?_ hH ?_
  · refine yieldsIf_load_mid ?_ 41 (.tmp 8) ?_ p 0 ?_ [.int .i64 0, .int .i64 0, .int .u64 ((0 : Nat) : Int)] _ (fun W hW => Row.pre (xs := [.int .i64 0, .int .i64 0, .int .u64 ((0 : Nat) : Int)]) (ys := [.pointer (some ⟨ps, 0, none⟩), .pointer (some ⟨pb, 0, none⟩)]) (HR.out.below hW HR.out.lt)) Tryz.underlying41 rfl HZM.out
    all_goals kernel_rfl
  simp only [Act.put]
  refine wpAnyH_take (i := 5) (v := .pointer (some ⟨p, 0, none⟩)) rfl (by kernel_rfl) (by kernel_rfl) (by kernel_rfl) (fun _ _ _ h => h) (Or.inl ⟨by kernel_rfl, fun w' hw' => by clear hw'; go_simp⟩) hH ?_
  simp only [Act.put]
  refine wpAnyH_take (i := 6) (v := .pointer (some ⟨p, 0, none⟩)) rfl (by kernel_rfl) (by kernel_rfl) (by kernel_rfl) (fun _ _ _ h => h) (Or.inl ⟨by kernel_rfl, fun w' hw' => by clear hw'; go_simp⟩) hH ?_
  simp only [Act.put]
  refine wpAnyH_take (i := 7) (v := .pointer (some ⟨p, 3, none⟩)) rfl (by kernel_rfl) (by kernel_rfl) (by kernel_rfl) (fun _ _ _ h => h) (Or.inl ⟨by kernel_rfl, fun w' hw' => by clear hw'; go_simp⟩) hH ?_
  simp only [Act.put]
  refine wpAnyH_take (i := 8) (v := .pointer (some ⟨ps, 0, none⟩)) rfl (by kernel_rfl) (by kernel_rfl) (by kernel_rfl) (fun _ _ _ h => h) (Or.inl ⟨by kernel_rfl, fun w' hw' => by have h := (HR.out.below hw' HR.out.lt).at_ 3 _ rfl; clear hw'; go_simp⟩) hH ?_
  simp only [Act.put]
  refine wpAnyH_take (i := 12) (v := .pointer (some ⟨p, 0, none⟩)) rfl (by kernel_rfl) (by kernel_rfl) (by kernel_rfl) (fun _ _ _ h => h) (Or.inl ⟨by kernel_rfl, fun w' hw' => by clear hw'; go_simp⟩) hH ?_
  simp only [Act.put]
  refine wpAnyH_take (i := 13) (v := .pointer (some ⟨p, 0, none⟩)) rfl (by kernel_rfl) (by kernel_rfl) (by kernel_rfl) (fun _ _ _ h => h) (Or.inl ⟨by kernel_rfl, fun w' hw' => by clear hw'; go_simp⟩) hH ?_
  simp only [Act.put]
  refine wpAnyH_take (i := 14) (v := .pointer (some ⟨p, 4, none⟩)) rfl (by kernel_rfl) (by kernel_rfl) (by kernel_rfl) (fun _ _ _ h => h) (Or.inl ⟨by kernel_rfl, fun w' hw' => by clear hw'; go_simp⟩) hH ?_
  simp only [Act.put]
  refine wpAnyH_take (i := 15) (v := .pointer (some ⟨pb, 0, none⟩)) rfl (by kernel_rfl) (by kernel_rfl) (by kernel_rfl) (fun _ _ _ h => h) (Or.inl ⟨by kernel_rfl, fun w' hw' => by have h := (HR.out.below hw' HR.out.lt).at_ 4 _ rfl; clear hw'; go_simp⟩) hH ?_
  simp only [Act.put]
  refine wpAnyH_ready (rs := [4]) (by kernel_rfl) (by simp) ?_
  refine AllReadyH.cons rfl (fun K hK => ?_) AllReadyH.nil
  rw [if_pos (by kernel_rfl)]
  go_simp
  go_at_call 48
  refine (HM.out _).mono ?_
  rintro e w2 ⟨rfl, hb2⟩
  go_wp2_with fail
  refine hK.out _ _ (hH.trans (Below.mono hb2 hH.size)) (fun hH => ?_)
  clear hK K
  try simp only [Act.put]
  refine wpAnyH_ready (rs := [9]) (by kernel_rfl) (by simp) ?_
  refine AllReadyH.cons rfl (fun K hK => ?_) AllReadyH.nil
  rw [if_pos (by kernel_rfl)]
  go_simp
  go_at_call 50
  refine (HP.out _ hH).mono ?_
  rintro e w3 ⟨rfl, hb3⟩
  go_wp2_with fail
  refine hK.out _ _ (hH.trans (Below.mono hb3 hH.size)) (fun hH => ?_)
  clear hK K
  try simp only [Act.put]
  refine wpAnyH_ready (rs := [10]) (by kernel_rfl) (by simp) ?_
  refine AllReadyH.cons rfl (fun K hK => ?_) AllReadyH.nil
  rw [if_pos (by kernel_rfl)]
  go_simp
  go_at_call 49
  refine (HT.out _).mono ?_
  rintro e w4 ⟨rfl, hb4⟩
  go_wp2_with fail
  refine hK.out _ _ (hH.trans (Below.mono hb4 hH.size)) (fun hH => ?_)
  clear hK K
  try simp only [Act.put]
  refine wpAnyH_take (i := 11) (v := .string (⟨E0.toArray⟩ ++ ⟨E1.toArray⟩)) rfl (by kernel_rfl) (by kernel_rfl) (by kernel_rfl) (fun _ _ _ h => h) (Or.inl ⟨by kernel_rfl, fun w' hw' => by clear hw'; go_simp⟩) hH ?_
  simp only [Act.put]
  refine wpAnyH_ready (rs := [16]) (by kernel_rfl) (by simp) ?_
  refine AllReadyH.cons rfl (fun K hK => ?_) AllReadyH.nil
  rw [if_pos (by kernel_rfl)]
  go_simp
  go_at_call 51
  refine (HQ.out _ hH).mono ?_
  rintro e w5 ⟨rfl, hb5⟩
  go_wp2_with fail
  refine hK.out _ _ (hH.trans (Below.mono hb5 hH.size)) (fun hH => ?_)
  clear hK K
  try simp only [Act.put]
  refine wpAnyH_ready (rs := [17]) (by kernel_rfl) (by simp) ?_
  refine AllReadyH.cons rfl (fun K hK => ?_) AllReadyH.nil
  rw [if_pos (by kernel_rfl)]
  go_simp
  go_at_call 49
  refine (HU.out _).mono ?_
  rintro e w6 ⟨rfl, hb6⟩
  go_wp2_with fail
  refine hK.out _ _ (hH.trans (Below.mono hb6 hH.size)) (fun hH => ?_)
  clear hK K
  try simp only [Act.put]
  refine wpAnyH_take (i := 18) (v := .string (⟨E0.toArray⟩ ++ ⟨E1.toArray⟩ ++ ⟨E2.toArray⟩)) rfl (by kernel_rfl) (by kernel_rfl) (by kernel_rfl) (fun _ _ _ h => h) (Or.inl ⟨by kernel_rfl, fun w' hw' => by clear hw'; go_simp⟩) hH ?_
  simp only [Act.put]
  refine wpAnyH_ready (rs := [19]) (by kernel_rfl) (by simp) ?_
  refine AllReadyH.cons rfl (fun K hK => ?_) AllReadyH.nil
  rw [if_pos (by kernel_rfl)]
  go_simp
  refine hK.out _ _ hH (fun hH => ?_)
  clear hK K
  try simp only [Act.put]
  refine wpAnyH_done (by kernel_rfl) ?_ _
  try simp only [Act.put]
  go_wp2_with fail
  go_ret
  exact ⟨rfl, HX.out.trans (hH.mono HX.out.size)⟩
end Go.Proofs.YtdimlfjepliflaaGreatDoor
/-
  Entries put as a log, in plain words.
-/
namespace Go.Proofs.YtdimlfjepliflaaGreatDoor
open Go.RowKit
set_option maxRecDepth 10000

def Mk.cl (m : Mk) : List Value := m.cells.toList
theorem En.cl_ones (e : En) : ∀ u ∈ e.cl, u.oneCell' = true := by
  intro u hu
  simp only [En.cl, En.cells, List.mem_cons, List.not_mem_nil, or_false] at hu
  rcases hu with rfl | rfl | rfl | rfl | rfl | rfl | rfl | rfl | rfl <;> rfl
theorem En.cl_all (e : En) : e.cl.all (·.oneCell') = true := by rw [List.all_eq_true]; exact e.cl_ones
/-- one more behind the mark -/
def putF (s : Mk × List En) (x : En) : Mk × List En := if Rt (nextS s.1 x) then (markE (nextS s.1 x), s.2 ++ [nextS s.1 x]) else (s.1, s.2 ++ [x])
/-- behind the first k -/
def pst (l : List En) (k : Nat) : Mk × List En := (l.take k).foldl putF (mk0, [])
/-- what Put answers -/
def put (l : List En) : List En := (pst l 60).2
theorem pst_zero (l : List En) : pst l 0 = (mk0, []) := rfl
theorem pst_succ (l : List En) (k : Nat) (h : k < l.length) : pst l (k + 1) = putF (pst l k) l[k] := by
  unfold pst
  rw [List.take_succ_eq_append_getElem h, List.foldl_append]
  rfl
theorem pst_end (l : List En) (k : Nat) (h : l.length ≤ k) : pst l k = pst l l.length := by
  unfold pst
  rw [List.take_of_length_le h, List.take_length]
/-- an entry of the machine's, its body too -/
def En.good (e : En) : Prop := e.fits ∧ e.body.size ≤ 140737488355328
theorem nextS_good {m : Mk} {e : En} (hm : m.ok) (he : e.good) : (nextS m e).good := by
  obtain ⟨⟨⟨a1, a2, a3, a4⟩, b, c⟩, d⟩ := he
  obtain ⟨h1, h2, h3⟩ := hm
  refine ⟨⟨⟨a1, ?_, ?_, a4⟩, b, h3⟩, d⟩
  · show In64 (if 0 ≤ m.opn ∧ m.opn ≤ 72057594037927934 then m.opn + 1 else e.opn)
    split
    · exact ⟨by omega, by omega⟩
    · exact a2
  · exact ⟨by show (-9223372036854775808 : Int) ≤ m.view; omega, by show m.view ≤ 9223372036854775807; omega⟩
theorem markE_ok {e : En} (he : e.fits) (h : Rt e) : (markE e).ok := by
  obtain ⟨h1, h2, h3⟩ := markE_rt he h
  obtain ⟨⟨r1, r2⟩, _, ⟨r3, r4⟩, _⟩ := id h
  exact ⟨by omega, by omega, h3⟩
theorem pst_good (l : List En) (hl : ∀ e ∈ l, e.good) : ∀ k, k ≤ l.length → k ≤ 60 → (pst l k).1.ok ∧ (∀ e ∈ (pst l k).2, e.good) ∧ (pst l k).2.length = k ∧ (pst l k).1.opn ≤ k
  | 0, _, _ => ⟨mk0_ok, by simp [pst_zero], by simp [pst_zero], by rw [pst_zero]; show (0 : Int) ≤ 0; omega⟩
  | k + 1, h, hk => by
    obtain ⟨h1, h2, h3, h4⟩ := pst_good l hl k (by omega) (by omega)
    rw [pst_succ l k h]
    have hg := nextS_good h1 (hl _ (List.getElem_mem h))
    unfold putF
    by_cases hr : Rt (nextS (pst l k).1 l[k])
    · rw [if_pos hr]
      refine ⟨markE_ok hg.1 hr, fun e he => ?_, by simp [h3], ?_⟩
      · rcases List.mem_append.1 he with he | he
        · exact h2 e he
        · rw [List.mem_singleton.1 he]; exact hg
      · show (markE (nextS (pst l k).1 l[k])).opn ≤ _
        rw [(markE_rt hg.1 hr).1]
        have h1o := h1.o
        show (if 0 ≤ (pst l k).1.opn ∧ (pst l k).1.opn ≤ 72057594037927934 then (pst l k).1.opn + 1 else l[k].opn) ≤ _
        rw [if_pos ⟨h1o.1, by omega⟩]
        omega
    · rw [if_neg hr]
      refine ⟨h1, fun e he => ?_, by simp [h3], by simp; omega⟩
      rcases List.mem_append.1 he with he | he
      · exact h2 e he
      · rw [List.mem_singleton.1 he]; exact hl _ (List.getElem_mem h)
end Go.Proofs.YtdimlfjepliflaaGreatDoor
/-
  All accounts, all transfers, as rows of the caller's own.
-/
namespace Go.Proofs.YtdimlfjepliflaaGreatDoor
open Go.RowKit
set_option maxRecDepth 10000

/-- a list, a row of one's own -/
def LW {α : Type} (C : α → List Value) (e : TypeId) (m : Nat) (w : World) (l : List α) (x : Ending) (w' : World) : Prop :=
  ∃ A c, x = .returned (.slice A l.length c) ∧ l.length ≤ c ∧ w'.ownsRow w.heap.size e m (.slice A l.length c) l.length (rows C l) ∧ Below w.heap.size w w'
set_option maxHeartbeats 1000000 in
theorem cloneWa_nil (w : World) : Calls Tryz.prog 83 #[.slice none 0 0] w (LW Ac.cells 88 4 w []) := by
  have he : (binOp .eql 53 (.slice none 0 0) (.slice none 0 0)).run Tryz.prog w = .ok (.bool true) w := Lib.run_eql_slice_nil w _ _ none 0 0 0 0 Tryz.underlying53
  go_enter Tryz.func83, Tryz.ntmps83
  go_wp2_with fail
  go_ret
  exact ⟨none, 0, rfl, Nat.le_refl _, World.ownsRow_nil _ _ _ _, Below.refl _ _⟩
set_option maxHeartbeats 1000000 in
theorem cloneWa_some (g o : Nat) (l : List Ac) (n c B : Nat) (w : World) (hr : Rd w B (some ⟨g, o, none⟩) (rows Ac.cells l)) (hn : n = l.length) (hB : B ≤ w.heap.size) (hbig : n ≤ 100) :
    Calls Tryz.prog 83 #[.slice (some ⟨g, o, none⟩) n c] w (LW Ac.cells 88 4 w l) := by
  obtain ⟨i0, hi, hz0, hz1, hz2⟩ := info_parts acInfo
  have HR := hid (fun W (hW : Below w.heap.size w W) => hr.below hW hB)
  have HL := hid (rows_len (C := Ac.cells) Ac.len l)
  have H1 := hid (rows_one (C := Ac.cells) (l := l) (fun x u hu => by
    simp only [Ac.cells, List.mem_cons, List.not_mem_nil, or_false] at hu
    rcases hu with rfl | rfl | rfl | rfl <;> rfl))
  have HN := hid hn
  have HE : Hid (∀ W : World, (W.alloc (.cells #[] 88)).ownsRow W.heap.size 88 4 (.slice (some ⟨W.heap.size, 0, none⟩) 0 0) 0 []) := hid fun W => own_empty (Row.new _ _ #[]) (Nat.le_refl _)
  have he : (binOp .eql 53 (.slice (some ⟨g, o, none⟩) n c) (.slice none 0 0)).run Tryz.prog w = .ok (.bool false) w := Lib.run_eql_slice_nil w _ _ (some ⟨g, o, none⟩) n c 0 0 Tryz.underlying53
  clear hr hn
  go_enter Tryz.func83, Tryz.ntmps83
  go_wp2_with (refine wpl_append rfl (.tmp 5) (.tmp 6) 53 rfl w.heap.size 88 i0 _ 4 32 Tryz.underlying53 hi hz0 hz1 hz2 rfl (by omega) (.slice (some ⟨w.heap.size, 0, none⟩) 0 0) 0 _ rfl (HE.out w) B (some ⟨g, o, none⟩) n c (rows Ac.cells l) rfl ?_ ?_ ?_ ?_ ?_ ?_ ?_; intro v' w2 hown2 hb2 hg2; have HO2 := hid hown2; have HB2 := hid hb2; clear hown2 hb2 hg2)
  rotate_left
  · exact hid (HR.out _ ((Below.refl _ _).alloc (Nat.le_refl _) _))
  · exact hid (by rw [HL.out, HN.out])
  · exact hid H1.out
  · exact hid (le_maxLen (by omega))
  · exact hid (by omega)
  · exact hid (by simp)
  go_ret
  have ho := HO2.out
  rw [Nat.zero_add, List.nil_append] at ho
  obtain ⟨A', c', rfl, hc', hrd⟩ := own_rd ho
  refine ⟨A', c', by rw [← HN.out]; rfl, by rw [← HN.out]; exact hc', ?_, ((Below.refl _ _).alloc (Nat.le_refl _) _).trans HB2.out⟩
  rw [← HN.out]
  exact ho
set_option maxHeartbeats 1000000 in
theorem allWa_any (p : Nat) (va vt : Value) (S : Lg) (w : World) (h : HasG w 123 p va vt S) : Calls Tryz.prog 46 #[.pointer (some ⟨p, 0, none⟩)] w (LW Ac.cells 88 4 w S.A) := by
  have hw := h.wf.la
  have hc0 := h.c0
  have HC : Hid (Calls Tryz.prog 83 #[va] w (LW Ac.cells 88 4 w S.A)) := by
    obtain ⟨A, c, e, hnc, hrd⟩ := h.va_shape
    rcases h.accs.2 with ⟨e2, h0⟩ | ⟨g, cap, cur, e2, -⟩
    · have hnil : S.A = [] := List.eq_nil_of_length_eq_zero h0
      rw [e2, hnil]
      exact hid (cloneWa_nil w)
    · rw [e2] at e
      simp only [Value.slice.injEq, true_and] at e
      obtain ⟨rfl, rfl⟩ := e
      clear hnc
      rw [e2]
      exact hid (cloneWa_some g 0 S.A S.A.length cap w.heap.size w hrd rfl (Nat.le_refl _) (by omega))
  clear h
  go_enter Tryz.func46, Tryz.ntmps46
  go_wp2_with (go_at_call 83; refine HC.out.mono ?_; rintro e w2 ⟨A, c, rfl, hc, hrd, hb⟩)
  go_ret
  exact ⟨A, c, rfl, hc, hrd, hb⟩
set_option maxHeartbeats 1000000 in
theorem mWa_any (p : Nat) (S : Ma) (fp : List Nat) (w : World) (h : Hm KP p S fp w) : Calls Tryz.prog 22 #[.pointer (some ⟨p, 0, none⟩)] w (LW Ac.cells 88 4 w S.w.B.A) := by
  obtain ⟨ps, pb, h⟩ := h
  obtain ⟨fs, hs⟩ := h.b
  obtain ⟨va, vt, -, hv⟩ := hs
  have HV := hid (allWa_any pb va vt S.w.B w hv)
  have c1 := (KPrw h).at_ 4 _ rfl
  generalize S.w.B.A = l at *
  clear h hv
  go_enter Tryz.func22, Tryz.ntmps22
  go_wp2_with (go_at_call 46; refine HV.out.mono ?_; rintro e w2 ⟨A, c, rfl, hc, hr, hb⟩; have HC := hid hc; clear hc)
  go_ret
  exact ⟨A, c, rfl, HC.out, hr, hb⟩
set_option maxHeartbeats 1000000 in
theorem cloneWt_nil (w : World) : Calls Tryz.prog 84 #[.slice none 0 0] w (LW Tr.cells 90 4 w []) := by
  have he : (binOp .eql 55 (.slice none 0 0) (.slice none 0 0)).run Tryz.prog w = .ok (.bool true) w := Lib.run_eql_slice_nil w _ _ none 0 0 0 0 Tryz.underlying55
  go_enter Tryz.func84, Tryz.ntmps84
  go_wp2_with fail
  go_ret
  exact ⟨none, 0, rfl, Nat.le_refl _, World.ownsRow_nil _ _ _ _, Below.refl _ _⟩
set_option maxHeartbeats 1000000 in
theorem cloneWt_some (g o : Nat) (l : List Tr) (n c B : Nat) (w : World) (hr : Rd w B (some ⟨g, o, none⟩) (rows Tr.cells l)) (hn : n = l.length) (hB : B ≤ w.heap.size) (hbig : n ≤ 100) :
    Calls Tryz.prog 84 #[.slice (some ⟨g, o, none⟩) n c] w (LW Tr.cells 90 4 w l) := by
  obtain ⟨i0, hi, hz0, hz1, hz2⟩ := info_parts trInfo
  have HR := hid (fun W (hW : Below w.heap.size w W) => hr.below hW hB)
  have HL := hid (rows_len (C := Tr.cells) Tr.len l)
  have H1 := hid (rows_one (C := Tr.cells) (l := l) (fun x u hu => by
    simp only [Tr.cells, List.mem_cons, List.not_mem_nil, or_false] at hu
    rcases hu with rfl | rfl | rfl | rfl <;> rfl))
  have HN := hid hn
  have HE : Hid (∀ W : World, (W.alloc (.cells #[] 90)).ownsRow W.heap.size 90 4 (.slice (some ⟨W.heap.size, 0, none⟩) 0 0) 0 []) := hid fun W => own_empty (Row.new _ _ #[]) (Nat.le_refl _)
  have he : (binOp .eql 55 (.slice (some ⟨g, o, none⟩) n c) (.slice none 0 0)).run Tryz.prog w = .ok (.bool false) w := Lib.run_eql_slice_nil w _ _ (some ⟨g, o, none⟩) n c 0 0 Tryz.underlying55
  clear hr hn
  go_enter Tryz.func84, Tryz.ntmps84
  go_wp2_with (refine wpl_append rfl (.tmp 5) (.tmp 6) 55 rfl w.heap.size 90 i0 _ 4 32 Tryz.underlying55 hi hz0 hz1 hz2 rfl (by omega) (.slice (some ⟨w.heap.size, 0, none⟩) 0 0) 0 _ rfl (HE.out w) B (some ⟨g, o, none⟩) n c (rows Tr.cells l) rfl ?_ ?_ ?_ ?_ ?_ ?_ ?_; intro v' w2 hown2 hb2 hg2; have HO2 := hid hown2; have HB2 := hid hb2; clear hown2 hb2 hg2)
  rotate_left
  · exact hid (HR.out _ ((Below.refl _ _).alloc (Nat.le_refl _) _))
  · exact hid (by rw [HL.out, HN.out])
  · exact hid H1.out
  · exact hid (le_maxLen (by omega))
  · exact hid (by omega)
  · exact hid (by simp)
  go_ret
  have ho := HO2.out
  rw [Nat.zero_add, List.nil_append] at ho
  obtain ⟨A', c', rfl, hc', hrd⟩ := own_rd ho
  refine ⟨A', c', by rw [← HN.out]; rfl, by rw [← HN.out]; exact hc', ?_, ((Below.refl _ _).alloc (Nat.le_refl _) _).trans HB2.out⟩
  rw [← HN.out]
  exact ho
set_option maxHeartbeats 1000000 in
theorem allWt_any (p : Nat) (va vt : Value) (S : Lg) (w : World) (h : HasG w 123 p va vt S) : Calls Tryz.prog 47 #[.pointer (some ⟨p, 0, none⟩)] w (LW Tr.cells 90 4 w S.T) := by
  have hw := h.wf.lt
  have hc0 := h.c1
  have HC : Hid (Calls Tryz.prog 84 #[vt] w (LW Tr.cells 90 4 w S.T)) := by
    obtain ⟨A, c, e, hnc, hrd⟩ := h.vt_shape
    rcases h.trs.2 with ⟨e2, h0⟩ | ⟨g, cap, cur, e2, -⟩
    · have hnil : S.T = [] := List.eq_nil_of_length_eq_zero h0
      rw [e2, hnil]
      exact hid (cloneWt_nil w)
    · rw [e2] at e
      simp only [Value.slice.injEq, true_and] at e
      obtain ⟨rfl, rfl⟩ := e
      clear hnc
      rw [e2]
      exact hid (cloneWt_some g 0 S.T S.T.length cap w.heap.size w hrd rfl (Nat.le_refl _) (by omega))
  clear h
  go_enter Tryz.func47, Tryz.ntmps47
  go_wp2_with (go_at_call 84; refine HC.out.mono ?_; rintro e w2 ⟨A, c, rfl, hc, hrd, hb⟩)
  go_ret
  exact ⟨A, c, rfl, hc, hrd, hb⟩
set_option maxHeartbeats 1000000 in
theorem mWt_any (p : Nat) (S : Ma) (fp : List Nat) (w : World) (h : Hm KP p S fp w) : Calls Tryz.prog 24 #[.pointer (some ⟨p, 0, none⟩)] w (LW Tr.cells 90 4 w S.w.B.T) := by
  obtain ⟨ps, pb, h⟩ := h
  obtain ⟨fs, hs⟩ := h.b
  obtain ⟨va, vt, -, hv⟩ := hs
  have HV := hid (allWt_any pb va vt S.w.B w hv)
  have c1 := (KPrw h).at_ 4 _ rfl
  generalize S.w.B.T = l at *
  clear h hv
  go_enter Tryz.func24, Tryz.ntmps24
  go_wp2_with (go_at_call 47; refine HV.out.mono ?_; rintro e w2 ⟨A, c, rfl, hc, hr, hb⟩; have HC := hid hc; clear hc)
  go_ret
  exact ⟨A, c, rfl, HC.out, hr, hb⟩
end Go.Proofs.YtdimlfjepliflaaGreatDoor
/-
  A machine played, in plain words; a question asked behind it.
-/
namespace Go.Proofs.YtdimlfjepliflaaGreatDoor
open Go.RowKit
set_option maxRecDepth 10000

theorem run_field_mark (mo mv : Int) (ms : Nat) (W : World) : (Instr.field 41 (.agg #[.int .i64 mo, .int .i64 mv, .int .u64 (ms : Int)]) 1).run Tryz.prog W = .ok (.int .i64 mv) W := by kernel_rfl
/-- behind the first k entries -/
def playA (l : List En) (k : Nat) : Ma := (l.take k).foldl Ma.app ma0
theorem playA_zero (l : List En) : playA l 0 = ma0 := rfl
theorem playA_succ (l : List En) (k : Nat) (h : k < l.length) : playA l (k + 1) = (playA l k).app l[k] := by
  unfold playA
  rw [List.take_succ_eq_append_getElem h, List.foldl_append]
  rfl
theorem app_m (S : Ma) (e : En) : (S.app e).m = S.m ∨ Fol S.m e ∧ (S.app e).m = markE e := by
  unfold Ma.app
  by_cases h : S.appE e = 0
  · rw [if_pos h]; exact .inr ⟨appE_iff.1 h, rfl⟩
  · rw [if_neg h]; exact .inl rfl
theorem playA_wf (l : List En) (hl : ∀ e ∈ l, e.good) : ∀ k, k ≤ l.length → (playA l k).WF ∧ (playA l k).m.opn ≤ k
  | 0, _ => ⟨ma0_wf, by show (0 : Int) ≤ 0; omega⟩
  | k + 1, h => by
    obtain ⟨h1, h2⟩ := playA_wf l hl k (by omega)
    have hg := hl _ (List.getElem_mem h)
    rw [playA_succ l k h]
    refine ⟨Ma.app_wf h1 hg.1, ?_⟩
    rcases app_m (playA l k) l[k] with e | ⟨hf, e⟩
    · rw [e]; simp; omega
    · rw [e, (markE_rt hg.1 hf.1).1]
      have := hf.2.1
      simp
      omega
theorem put_good (l : List En) (hl : ∀ e ∈ l, e.good) : (∀ e ∈ put l, e.good) ∧ (put l).length ≤ 60 := by
  by_cases h : 60 ≤ l.length
  · obtain ⟨_, h2, h3, _⟩ := pst_good l hl 60 h (Nat.le_refl _)
    exact ⟨h2, by unfold put; omega⟩
  · have e : pst l 60 = pst l l.length := pst_end l 60 (by omega)
    obtain ⟨_, h2, h3, _⟩ := pst_good l hl l.length (Nat.le_refl _) (by omega)
    unfold put
    rw [e]
    exact ⟨h2, by omega⟩
/-- a question, put behind the mark -/
def askE (m : Mk) (x : Ss) (op : Int) (ids : ByteArray) : En := ⟨m.view, m.opn + 1, m.view, m.sum, x.c, x.s, x.r + 1, op, ids⟩
theorem ask_next {m : Mk} (hm : m.ok) (hlt : m.opn ≤ 72057594037927934) (x : Ss) (op : Int) (ids : ByteArray) : nextS m ⟨m.view, 0, 0, 0, x.c, x.s, x.r + 1, op, ids⟩ = askE m x op ids := by
  unfold nextS askE
  simp only
  rw [if_pos ⟨hm.o.1, hlt⟩]
theorem askE_fits {m : Mk} (hm : m.ok) (hlt : m.opn ≤ 72057594037927934) {x : Ss} (hx : x.ok) {op : Int} (hop : op = 4 ∨ op = 5) (ids : ByteArray) : (askE m x op ids).fits := by
  obtain ⟨⟨a1, a2⟩, ⟨b1, b2⟩, c1⟩ := hm
  obtain ⟨⟨d1, d2⟩, ⟨e1, e2⟩, ⟨f1, f2⟩, _, _⟩ := hx
  unfold askE En.fits In64
  simp only
  omega
theorem ask_app {S : Ma} (hS : S.WF) {x : Ss} {T' : List Ss} (hT : S.w.T = x :: T') {op : Int} (hop : op = 4 ∨ op = 5) {ids : ByteArray} (hr : Rt (askE S.m x op ids)) :
    S.appE (askE S.m x op ids) = 0 ∧ (S.appA (askE S.m x op ids)).kind = 1 ∧ (S.appA (askE S.m x op ids)).body = ⟨(S.w.B.doo op (sb ids)).2.toArray⟩ ∧ (S.app (askE S.m x op ids)).w.B = S.w.B := by
  have h0 : S.appE (askE S.m x op ids) = 0 := appE_ok ⟨hr, by show S.m.opn + 1 - 1 = S.m.opn; omega, rfl, rfl⟩
  have hlt : 0 < S.w.T.length := by rw [hT]; simp
  have hx : S.w.T[0] = x := by simp [hT]
  have hpl : pl S.w.T x.c = 0 := by
    have := pl_one hS.w.one (k := 0) hlt
    rw [hx] at this
    exact this
  have hv : ver S.w.T x.c x.s (x.r + 1) = 1 := ver_fresh_iff.2 ⟨by rw [hpl]; exact hlt, by rw [hpl, at_get hlt, hx], by rw [hpl, at_get hlt, hx]⟩
  have hB : (S.w.B.doo op (sb ids)).1 = S.w.B := by
    rcases hop with rfl | rfl
    · exact doo_4 _ _
    · exact doo_5 _ _
  have h1 : op ≠ 1 := by omega
  refine ⟨h0, ?_, ?_, ?_⟩
  · unfold Ma.appA Ma.ans Mw.does
    rw [if_pos h0, if_neg (by exact h1), if_neg (by show ¬ ver S.w.T x.c x.s (x.r + 1) = 5; rw [hv]; decide), if_pos (by exact hv)]
  · unfold Ma.appA Ma.ans Mw.does
    rw [if_pos h0, if_neg (by exact h1), if_neg (by show ¬ ver S.w.T x.c x.s (x.r + 1) = 5; rw [hv]; decide), if_pos (by exact hv)]
    rfl
  · unfold Ma.app Ma.run Mw.does
    rw [if_pos h0, if_neg (by exact h1), if_neg (by show ¬ ver S.w.T x.c x.s (x.r + 1) = 5; rw [hv]; decide), if_pos (by exact hv)]
    exact hB
end Go.Proofs.YtdimlfjepliflaaGreatDoor
