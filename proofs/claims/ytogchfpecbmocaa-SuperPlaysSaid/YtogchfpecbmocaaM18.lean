/-
  Superblocks held against each other.
-/
import Derived.Test.YtogchfpecbmocaaM16
import Derived.ChangeKeysEq
import Derived.Test.YtogchfpecbmocaaM03
import Derived.Test.YtogchfpecbmocaaM05
import Derived.Test.YtogchfpecbmocaaM17
namespace Go.Proofs.Ytogchfpecbmocaa
open Go.RowKit
set_option maxRecDepth 10000

theorem eqF_any {P : Program} {W : World} (d : Nat) (xs ys : Array Value) (f : Field) (fs : List Field) (a b : Value) (r : Bool) (hn : f.name ≠ "_") (hx : (part f.type xs f.offset).run P W = .ok a W) (hy : (part f.type ys f.offset).run P W = .ok b W)
    (hr : (Op.equalIn d f.type a b).run P W = .ok r W) : (Op.eqFields d xs ys (f :: fs)).run P W = if r = true then (Op.eqFields d xs ys fs).run P W else .ok false W := by
  cases r <;> simp [Op.eqFields, hn, hx, hy, hr]
theorem eqI_any {P : Program} {W : World} (d : Nat) (e : TypeId) (n : Nat) (xs ys : Array Value) (i : Nat) (is : List Nat) (a b : Value) (r : Bool) (hx : (part e xs (i * n)).run P W = .ok a W) (hy : (part e ys (i * n)).run P W = .ok b W)
    (hr : (Op.equalIn d e a b).run P W = .ok r W) : (Op.eqItems d e n xs ys (i :: is)).run P W = if r = true then (Op.eqItems d e n xs ys is).run P W else .ok false W := by
  cases r <;> simp [Op.eqItems, hx, hy, hr]
theorem eqI_nil {P : Program} {W : World} (d : Nat) (e : TypeId) (n : Nat) (xs ys : Array Value) : (Op.eqItems d e n xs ys []).run P W = .ok true W := by simp [Op.eqItems]
theorem eqInt (W : World) (d : Nat) (t : TypeId) (k k' : IntKind) (a b : Int) (h : Try.prog.underlying t = some (.int k')) : (Op.equalIn (d + 1) t (.int k a) (.int k b)).run Try.prog W = .ok (decide (a = b)) W := by
  rw [run_equalIn_int W d t k k' a b h]
  rfl
theorem markFields : (Try.prog.fieldsOf 24).toList = [{ name := "Op", type := 3, offset := 0, embedded := false, tag := "", pkgPath := "", byteOffset := 0 }, { name := "View", type := 3, offset := 1, embedded := false, tag := "", pkgPath := "", byteOffset := 8 }, { name := "Sum", type := 22, offset := 2, embedded := false, tag := "", pkgPath := "", byteOffset := 16 }] := by kernel_rfl
theorem superFields : (Try.prog.fieldsOf 27).toList = [{ name := "Seq", type := 3, offset := 0, embedded := false, tag := "", pkgPath := "", byteOffset := 0 }, { name := "Who", type := 3, offset := 1, embedded := false, tag := "", pkgPath := "", byteOffset := 8 }, { name := "Count", type := 3, offset := 2, embedded := false, tag := "", pkgPath := "", byteOffset := 16 }, { name := "View", type := 3, offset := 3, embedded := false, tag := "", pkgPath := "", byteOffset := 24 }, { name := "LogView", type := 3, offset := 4, embedded := false, tag := "", pkgPath := "", byteOffset := 32 }, { name := "Check", type := 24, offset := 5, embedded := false, tag := "", pkgPath := "", byteOffset := 40 }, { name := "Area", type := 3, offset := 8, embedded := false, tag := "", pkgPath := "", byteOffset := 64 }, { name := "Size", type := 3, offset := 9, embedded := false, tag := "", pkgPath := "", byteOffset := 72 }, { name := "Sums", type := 25, offset := 10, embedded := false, tag := "", pkgPath := "", byteOffset := 80 }, { name := "Parent", type := 22, offset := 16, embedded := false, tag := "", pkgPath := "", byteOffset := 128 }] := by kernel_rfl
theorem eqMk9 (W : World) (a1 a2 b1 b2 : Int) (a3 b3 : Nat) : (Op.equalIn 9999 24 (.agg #[.int .i64 a1, .int .i64 a2, .int .u64 (a3 : Int)]) (.agg #[.int .i64 b1, .int .i64 b2, .int .u64 (b3 : Int)])).run Try.prog W = .ok (decide (a1 = b1 ∧ a2 = b2 ∧ a3 = b3)) W := by
  rw [run_equalIn_struct W 9998 24 _ _ (by kernel_rfl) (by kernel_rfl), markFields]
  rw [eqF_any 9998 _ _ _ _ (.int .i64 a1) (.int .i64 b1) _ (by simp) (by kernel_rfl) (by kernel_rfl) (eqInt W 9997 3 .i64 .i64 a1 b1 Try.underlying3)]
  rw [eqF_any 9998 _ _ _ _ (.int .i64 a2) (.int .i64 b2) _ (by simp) (by kernel_rfl) (by kernel_rfl) (eqInt W 9997 3 .i64 .i64 a2 b2 Try.underlying3)]
  rw [eqF_any 9998 _ _ _ _ (.int .u64 (a3 : Int)) (.int .u64 (b3 : Int)) _ (by simp) (by kernel_rfl) (by kernel_rfl) (eqInt W 9997 22 .u64 .u64 a3 b3 Try.underlying22)]
  rw [eqF_nil]
  by_cases c0 : a1 = b1
  case neg => simp [c0]
  by_cases c1 : a2 = b2
  case neg => simp [c1]
  by_cases c2 : a3 = b3
  case neg => simp [c2]; omega
  simp [*]
theorem eqSix (W : World) (a0 a1 a2 a3 a4 a5 b0 b1 b2 b3 b4 b5 : Nat) : (Op.equalIn 9999 25 (.agg #[.int .u64 (a0 : Int), .int .u64 (a1 : Int), .int .u64 (a2 : Int), .int .u64 (a3 : Int), .int .u64 (a4 : Int), .int .u64 (a5 : Int)]) (.agg #[.int .u64 (b0 : Int), .int .u64 (b1 : Int), .int .u64 (b2 : Int), .int .u64 (b3 : Int), .int .u64 (b4 : Int), .int .u64 (b5 : Int)])).run Try.prog W = .ok (decide (a0 = b0 ∧ a1 = b1 ∧ a2 = b2 ∧ a3 = b3 ∧ a4 = b4 ∧ a5 = b5)) W := by
  rw [run_equalIn_array (i := (Try.prog.info? 22).get (by kernel_rfl)) W 9998 _ _ Try.underlying25 (by kernel_rfl)]
  rw [show List.range 6 = [0, 1, 2, 3, 4, 5] by decide, show Try.prog.cellsOf 22 = 1 by kernel_rfl]
  rw [eqI_any 9998 22 1 _ _ _ _ (.int .u64 (a0 : Int)) (.int .u64 (b0 : Int)) _ (by kernel_rfl) (by kernel_rfl) (eqInt W 9997 22 .u64 .u64 a0 b0 Try.underlying22)]
  rw [eqI_any 9998 22 1 _ _ _ _ (.int .u64 (a1 : Int)) (.int .u64 (b1 : Int)) _ (by kernel_rfl) (by kernel_rfl) (eqInt W 9997 22 .u64 .u64 a1 b1 Try.underlying22)]
  rw [eqI_any 9998 22 1 _ _ _ _ (.int .u64 (a2 : Int)) (.int .u64 (b2 : Int)) _ (by kernel_rfl) (by kernel_rfl) (eqInt W 9997 22 .u64 .u64 a2 b2 Try.underlying22)]
  rw [eqI_any 9998 22 1 _ _ _ _ (.int .u64 (a3 : Int)) (.int .u64 (b3 : Int)) _ (by kernel_rfl) (by kernel_rfl) (eqInt W 9997 22 .u64 .u64 a3 b3 Try.underlying22)]
  rw [eqI_any 9998 22 1 _ _ _ _ (.int .u64 (a4 : Int)) (.int .u64 (b4 : Int)) _ (by kernel_rfl) (by kernel_rfl) (eqInt W 9997 22 .u64 .u64 a4 b4 Try.underlying22)]
  rw [eqI_any 9998 22 1 _ _ _ _ (.int .u64 (a5 : Int)) (.int .u64 (b5 : Int)) _ (by kernel_rfl) (by kernel_rfl) (eqInt W 9997 22 .u64 .u64 a5 b5 Try.underlying22)]
  rw [eqI_nil]
  by_cases c0 : a0 = b0
  case neg => simp [c0]; try omega
  by_cases c1 : a1 = b1
  case neg => simp [c1]; try omega
  by_cases c2 : a2 = b2
  case neg => simp [c2]; try omega
  by_cases c3 : a3 = b3
  case neg => simp [c3]; try omega
  by_cases c4 : a4 = b4
  case neg => simp [c4]; try omega
  by_cases c5 : a5 = b5
  case neg => simp [c5]; try omega
  simp [*]
theorem eqSu (s t : Su) (W : World) : (Op.equalIn 10000 27 (.agg s.cells) (.agg t.cells)).run Try.prog W = .ok (decide (s = t)) W := by
  rw [run_equalIn_struct W 9999 27 s.cells t.cells (by kernel_rfl) (by kernel_rfl), superFields]
  rw [eqF_any 9999 _ _ _ _ (.int .i64 s.seq) (.int .i64 t.seq) _ (by simp) (by kernel_rfl) (by kernel_rfl) (eqInt W 9998 3 .i64 .i64 s.seq t.seq Try.underlying3)]
  rw [eqF_any 9999 _ _ _ _ (.int .i64 s.who) (.int .i64 t.who) _ (by simp) (by kernel_rfl) (by kernel_rfl) (eqInt W 9998 3 .i64 .i64 s.who t.who Try.underlying3)]
  rw [eqF_any 9999 _ _ _ _ (.int .i64 s.count) (.int .i64 t.count) _ (by simp) (by kernel_rfl) (by kernel_rfl) (eqInt W 9998 3 .i64 .i64 s.count t.count Try.underlying3)]
  rw [eqF_any 9999 _ _ _ _ (.int .i64 s.view) (.int .i64 t.view) _ (by simp) (by kernel_rfl) (by kernel_rfl) (eqInt W 9998 3 .i64 .i64 s.view t.view Try.underlying3)]
  rw [eqF_any 9999 _ _ _ _ (.int .i64 s.logV) (.int .i64 t.logV) _ (by simp) (by kernel_rfl) (by kernel_rfl) (eqInt W 9998 3 .i64 .i64 s.logV t.logV Try.underlying3)]
  rw [eqF_any 9999 _ _ _ _ (.agg #[.int .i64 s.cop, .int .i64 s.cview, .int .u64 (s.csum : Int)]) (.agg #[.int .i64 t.cop, .int .i64 t.cview, .int .u64 (t.csum : Int)]) _ (by simp) (by kernel_rfl) (by kernel_rfl) (eqMk9 W _ _ _ _ _ _)]
  rw [eqF_any 9999 _ _ _ _ (.int .i64 s.area) (.int .i64 t.area) _ (by simp) (by kernel_rfl) (by kernel_rfl) (eqInt W 9998 3 .i64 .i64 s.area t.area Try.underlying3)]
  rw [eqF_any 9999 _ _ _ _ (.int .i64 s.size) (.int .i64 t.size) _ (by simp) (by kernel_rfl) (by kernel_rfl) (eqInt W 9998 3 .i64 .i64 s.size t.size Try.underlying3)]
  rw [eqF_any 9999 _ _ _ _ (.agg #[.int .u64 (s.s0 : Int), .int .u64 (s.s1 : Int), .int .u64 (s.s2 : Int), .int .u64 (s.s3 : Int), .int .u64 (s.s4 : Int), .int .u64 (s.s5 : Int)]) (.agg #[.int .u64 (t.s0 : Int), .int .u64 (t.s1 : Int), .int .u64 (t.s2 : Int), .int .u64 (t.s3 : Int), .int .u64 (t.s4 : Int), .int .u64 (t.s5 : Int)]) _ (by simp) (by kernel_rfl) (by kernel_rfl) (eqSix W _ _ _ _ _ _ _ _ _ _ _ _)]
  rw [eqF_any 9999 _ _ _ _ (.int .u64 (s.parent : Int)) (.int .u64 (t.parent : Int)) _ (by simp) (by kernel_rfl) (by kernel_rfl) (eqInt W 9998 22 .u64 .u64 s.parent t.parent Try.underlying22)]
  rw [eqF_nil]
  obtain ⟨a0, a1, a2, a3, a4, a5, a6, a7, a8, a9, a10, a11, a12, a13, a14, a15, a16⟩ := s
  obtain ⟨b0, b1, b2, b3, b4, b5, b6, b7, b8, b9, b10, b11, b12, b13, b14, b15, b16⟩ := t
  simp only [Su.mk.injEq]
  by_cases c0 : a0 = b0
  case neg => simp [c0]; try omega
  by_cases c1 : a1 = b1
  case neg => simp [c1]; try omega
  by_cases c2 : a2 = b2
  case neg => simp [c2]; try omega
  by_cases c3 : a3 = b3
  case neg => simp [c3]; try omega
  by_cases c4 : a4 = b4
  case neg => simp [c4]; try omega
  by_cases c5 : a5 = b5
  case neg => simp [c5]; try omega
  by_cases c6 : a6 = b6
  case neg => simp [c6]; try omega
  by_cases c7 : a7 = b7
  case neg => simp [c7]; try omega
  by_cases c8 : a8 = b8
  case neg => simp [c8]; try omega
  by_cases c9 : a9 = b9
  case neg => simp [c9]; try omega
  by_cases c10 : a10 = b10
  case neg => simp [c10]; try omega
  by_cases c11 : a11 = b11
  case neg => simp [c11]; try omega
  by_cases c12 : a12 = b12
  case neg => simp [c12]; try omega
  by_cases c13 : a13 = b13
  case neg => simp [c13]; try omega
  by_cases c14 : a14 = b14
  case neg => simp [c14]; try omega
  by_cases c15 : a15 = b15
  case neg => simp [c15]; try omega
  by_cases c16 : a16 = b16
  case neg => simp [c16]; try omega
  simp [*]
theorem egSu : Try.prog.eqGuardType Try.prog.depth 27 = false := by kernel_rfl
section
variable {ops : Array Oper} {rest : List Oper} {o : Oper} {a : Act} {w : World} {Q : Exit → Act → World → Prop}
/-- x == y -/
theorem wpl_eqsu (hw : Region.wanted o (yielded ops a.tmps) = true) (s t : Su) (b : Bool) (hb : decide (s = t) = b) (x y : Operand) (ty : TypeId) (ho : o.op = .binOp .eql 27 x y ty)
    (hx : a.eval x = .agg s.cells) (hy : a.eval y = .agg t.cells) (h : wpList Try.prog ops Q rest (a.put o.dst (.bool b)) w) : wpList Try.prog ops Q (o :: rest) a w := by
  refine BigFrame.wpList_want hw fun K hK => ?_
  have hEQ := eqSu s t w
  rw [hb] at hEQ
  have hEG := egSu
  generalize s.cells = Z at *
  generalize t.cells = Y at *
  unfold Oper.wp execOp
  simp [ho, hx, hy, eqGuard, hEG, binOp, Op.equal, Op.maxDepth, hEQ, Result.andThen]
  exact hK _ _ h
/-- x != y -/
theorem wpl_nesu (hw : Region.wanted o (yielded ops a.tmps) = true) (s t : Su) (b : Bool) (hb : decide (s = t) = b) (x y : Operand) (ty : TypeId) (ho : o.op = .binOp .neq 27 x y ty)
    (hx : a.eval x = .agg s.cells) (hy : a.eval y = .agg t.cells) (h : wpList Try.prog ops Q rest (a.put o.dst (.bool (!b))) w) : wpList Try.prog ops Q (o :: rest) a w := by
  refine BigFrame.wpList_want hw fun K hK => ?_
  have hEQ := eqSu s t w
  rw [hb] at hEQ
  have hEG := egSu
  generalize s.cells = Z at *
  generalize t.cells = Y at *
  unfold Oper.wp execOp
  simp [ho, hx, hy, eqGuard, hEG, binOp, Op.equal, Op.maxDepth, hEQ, Result.andThen]
  exact hK _ _ h
/-- x == y in a region that draws its order -/
theorem yields_eqsu {S : World → Prop} (hw : Region.wanted o (yielded ops a.tmps) = true) (s t : Su) (b : Bool) (hb : decide (s = t) = b) (x y : Operand) (ty : TypeId) (ho : o.op = .binOp .eql 27 x y ty)
    (hx : a.eval x = .agg s.cells) (hy : a.eval y = .agg t.cells) : YieldsIf Try.prog ops S o (.bool b) a :=
  .inl ⟨hw, fun w _ => by
    have hEG := egSu
    have hE := eqSu s t w
    rw [hb] at hE
    generalize s.cells = Z at *
    generalize t.cells = Y at *
    unfold execOp
    simp [ho, hx, hy, eqGuard, hEG, binOp, Op.equal, Op.maxDepth, hE, Result.andThen]⟩
theorem yields_nesu {S : World → Prop} (hw : Region.wanted o (yielded ops a.tmps) = true) (s t : Su) (b : Bool) (hb : decide (s = t) = b) (x y : Operand) (ty : TypeId) (ho : o.op = .binOp .neq 27 x y ty)
    (hx : a.eval x = .agg s.cells) (hy : a.eval y = .agg t.cells) : YieldsIf Try.prog ops S o (.bool (!b)) a :=
  .inl ⟨hw, fun w _ => by
    have hEG := egSu
    have hE := eqSu s t w
    rw [hb] at hE
    generalize s.cells = Z at *
    generalize t.cells = Y at *
    unfold execOp
    simp [ho, hx, hy, eqGuard, hEG, binOp, Op.equal, Op.maxDepth, hE, Result.andThen]⟩
end
end Go.Proofs.Ytogchfpecbmocaa
/-
  The walks of the document's Eight, At, Pack.
-/
namespace Go.Proofs.Ytogchfpecbmocaa
open Go.RowKit
set_option maxRecDepth 10000

theorem cat_mk (a b : List UInt8) : (⟨a.toArray⟩ : ByteArray) ++ ⟨b.toArray⟩ = ⟨(a ++ b).toArray⟩ := by
  apply ByteArray.ext
  simp
theorem rput_eight (W : World) (n B : Nat) (A : Option Addr) (c : Nat) (hn : U64 n) (hr : Rd W B A []) (hB : B ≤ W.heap.size) :
    Calls Try.prog 62 #[.slice A 0 c, .int .u64 (n : Int), .int .i64 8] W
    fun e w' => ∃ A c, e = .returned (.tuple #[.slice A 8 c, .int .i64 0]) ∧ Rd w' w'.heap.size A (bvs (le n 8)) ∧ Below W.heap.size W w' := by
  have h := rput_any A [] 0 c n B 8 W hr rfl hB (by omega) (hid hn)
  have e : putS [] n 8 = (le n 8, 0) := by
    unfold putS
    rw [if_pos ⟨by omega, by omega, Nat.div_eq_of_lt (by simpa using hn)⟩]
    rfl
  rw [e] at h
  refine h.mono fun e w' hh => ?_
  obtain ⟨A', c', e1, ho, hb⟩ := BE.len hh (le_len _ _)
  obtain ⟨A2, c2, e2, _, _, hrd⟩ := own_shape ho
  cases e2
  exact ⟨A', c', e1, hrd, hb⟩
set_option maxHeartbeats 400000 in
theorem eight_any (n : Nat) (w : World) (hn : U64 n) : Calls Try.prog 38 #[.int .u64 (n : Int)] w (SE w (le n 8)) := by
  have HP := hid (fun W A c B (h1 : Rd W B A []) h2 => rput_eight W n B A c hn h1 h2)
  have HL := hid (le_len 8 n)
  go_enter Try.func38, Try.ntmps38
  go_wp2_with (first
    | (go_at_call 62; refine (HP.out _ _ _ 0 Rd.nil (Nat.zero_le _)).mono ?_; rintro e w1 ⟨A, c, rfl, hrd, hb⟩)
    | (with_reducible refine wpl_str rfl _ 69 9 rfl 5 Try.underlying69 Try.underlying5 Try.underlying9 A 8 c rfl w1.heap.size (le n 8) ?_ (hid hrd) (hid HL.out.symm)))
  go_ret
  exact ⟨rfl, ((Below.refl _ _).alloc (Nat.le_refl _) _).trans (hb.mono (by simp))⟩
/-- the number at i -/
def at8 (bs : List UInt8) (i : Nat) : Nat := leV ((bs.drop i).take 8)
theorem takeS_eight (bs : List UInt8) (i : Nat) (h : i + 8 ≤ bs.length) : takeS bs i 8 = (at8 bs i, 0) := by
  unfold takeS
  rw [if_neg (by omega), if_neg (by omega)]
  rfl
set_option maxHeartbeats 400000 in
theorem at_any (s : ByteArray) (i : Nat) (w : World) (h : i + 8 ≤ s.size) (hs : s.size ≤ 140737488355328) :
    Calls Try.prog 45 #[.string s, .int .i64 (i : Int)] w (VE w (.int .u64 (at8 (sb s) i : Int))) := by
  have HP := hid (fun W A c B (hr : Rd W B A (bvs (sb s))) => by
    have := rtake_any A (sb s) s.size c B i 8 W hr (sb_len s).symm hs
    rw [takeS_eight (sb s) i (by rw [sb_len]; exact h)] at this
    exact this)
  generalize at8 (sb s) i = x at HP
  go_enter Try.func45, Try.ntmps45
  go_wp2_with (first
    | (with_reducible refine wpl_bytes rfl _ _ _ rfl 5 Try.underlying9 Try.underlying69 Try.underlying5 s rfl ?_; intro g c k0 w1 HG HC HR HB)
    | (go_at_call 65; refine (HP.out w1 _ c (g + 1) (by
        have := (HR.rd (B := g + 1) (by omega)).take (bvs (sb s)).length
        rwa [List.take_left] at this)).mono ?_; rintro e w2 ⟨rfl, hb2⟩))
  go_ret
  exact ⟨rfl, HB.trans (hb2.mono HB.size)⟩
theorem cat_size (a b : ByteArray) : (a ++ b).size = a.size + b.size := ByteArray.size_append
/-- the document's Eight, its text a variable -/
theorem eight_of (n : Nat) (x : Int) (hx : (n : Int) = x) (hn : U64 n) (W : World) : Calls Try.prog 38 #[.int .u64 x] W fun e w' => e = .returned (.string ⟨(le n 8).toArray⟩) ∧ Below W.heap.size W w' := by
  subst hx
  exact eight_any n W hn
set_option maxHeartbeats 4000000 in
theorem rpack_yes (seq who count view logV cop cview area size : Int) (csum s0 s1 s2 s3 s4 s5 parent : Nat) (BS : ByteArray) (w : World) (X : Nat → ByteArray) (B0 B1 B2 B3 B4 B5 B6 B7 B8 B9 B16 : ByteArray)
    (HR : Hid (∀ W, Calls Try.prog 12 #[.agg #[.int .i64 seq, .int .i64 who, .int .i64 count, .int .i64 view, .int .i64 logV, .int .i64 cop, .int .i64 cview, .int .u64 (csum : Int), .int .i64 area, .int .i64 size, .int .u64 (s0 : Int), .int .u64 (s1 : Int), .int .u64 (s2 : Int), .int .u64 (s3 : Int), .int .u64 (s4 : Int), .int .u64 (s5 : Int), .int .u64 (parent : Int)]] W (VE W (.bool true))))
    (HE0 : Hid (∀ W, Calls Try.prog 38 #[.int .u64 (IntKind.u64.wrap seq)] W fun e w' => e = .returned (.string B0) ∧ Below W.heap.size W w'))
    (HE1 : Hid (∀ W, Calls Try.prog 38 #[.int .u64 (IntKind.u64.wrap who)] W fun e w' => e = .returned (.string B1) ∧ Below W.heap.size W w'))
    (HE2 : Hid (∀ W, Calls Try.prog 38 #[.int .u64 (IntKind.u64.wrap count)] W fun e w' => e = .returned (.string B2) ∧ Below W.heap.size W w'))
    (HE3 : Hid (∀ W, Calls Try.prog 38 #[.int .u64 (IntKind.u64.wrap view)] W fun e w' => e = .returned (.string B3) ∧ Below W.heap.size W w'))
    (HE4 : Hid (∀ W, Calls Try.prog 38 #[.int .u64 (IntKind.u64.wrap logV)] W fun e w' => e = .returned (.string B4) ∧ Below W.heap.size W w'))
    (HE5 : Hid (∀ W, Calls Try.prog 38 #[.int .u64 (IntKind.u64.wrap cop)] W fun e w' => e = .returned (.string B5) ∧ Below W.heap.size W w'))
    (HE6 : Hid (∀ W, Calls Try.prog 38 #[.int .u64 (IntKind.u64.wrap cview)] W fun e w' => e = .returned (.string B6) ∧ Below W.heap.size W w'))
    (HE7 : Hid (∀ W, Calls Try.prog 38 #[.int .u64 (csum : Int)] W fun e w' => e = .returned (.string B7) ∧ Below W.heap.size W w'))
    (HE8 : Hid (∀ W, Calls Try.prog 38 #[.int .u64 (IntKind.u64.wrap area)] W fun e w' => e = .returned (.string B8) ∧ Below W.heap.size W w'))
    (HE9 : Hid (∀ W, Calls Try.prog 38 #[.int .u64 (IntKind.u64.wrap size)] W fun e w' => e = .returned (.string B9) ∧ Below W.heap.size W w'))
    (HES : Hid (∀ k, k < 6 → ∃ n : Nat, (#[.int .i64 seq, .int .i64 who, .int .i64 count, .int .i64 view, .int .i64 logV, .int .i64 cop, .int .i64 cview, .int .u64 (csum : Int), .int .i64 area, .int .i64 size, .int .u64 (s0 : Int), .int .u64 (s1 : Int), .int .u64 (s2 : Int), .int .u64 (s3 : Int), .int .u64 (s4 : Int), .int .u64 (s5 : Int), .int .u64 (parent : Int)] : Array Value)[10 + k]? = some (.int .u64 (n : Int)) ∧ ∃ Y : ByteArray, X k ++ Y = X (k + 1) ∧ Y.size = 8 ∧ ∀ W, Calls Try.prog 38 #[.int .u64 (n : Int)] W fun e w' => e = .returned (.string Y) ∧ Below W.heap.size W w'))
    (HE16 : Hid (∀ W, Calls Try.prog 38 #[.int .u64 (parent : Int)] W fun e w' => e = .returned (.string B16) ∧ Below W.heap.size W w'))
    (HX0 : Hid (B0 ++ B1 ++ B2 ++ B3 ++ B4 ++ B5 ++ B6 ++ B7 ++ B8 ++ B9 = X 0)) (HXS : Hid (∀ k, k ≤ 6 → (X k).size ≤ 1000)) (HBS : Hid (X 6 ++ B16 = BS))
    (HZ : Hid (B0.size = 8 ∧ B1.size = 8 ∧ B2.size = 8 ∧ B3.size = 8 ∧ B4.size = 8 ∧ B5.size = 8 ∧ B6.size = 8 ∧ B7.size = 8 ∧ B8.size = 8 ∧ B9.size = 8 ∧ B16.size = 8)) :
    Calls Try.prog 10 #[.agg #[.int .i64 seq, .int .i64 who, .int .i64 count, .int .i64 view, .int .i64 logV, .int .i64 cop, .int .i64 cview, .int .u64 (csum : Int), .int .i64 area, .int .i64 size, .int .u64 (s0 : Int), .int .u64 (s1 : Int), .int .u64 (s2 : Int), .int .u64 (s3 : Int), .int .u64 (s4 : Int), .int .u64 (s5 : Int), .int .u64 (parent : Int)]] w fun e w' => e = .returned (.tuple #[.string BS, .int .i64 0]) ∧ Below w.heap.size w w' := by
  have HRW : Hid (Row (w.alloc (.cells #[.int .i64 seq, .int .i64 who, .int .i64 count, .int .i64 view, .int .i64 logV, .int .i64 cop, .int .i64 cview, .int .u64 (csum : Int), .int .i64 area, .int .i64 size, .int .u64 (s0 : Int), .int .u64 (s1 : Int), .int .u64 (s2 : Int), .int .u64 (s3 : Int), .int .u64 (s4 : Int), .int .u64 (s5 : Int), .int .u64 (parent : Int)] 27)) w.heap.size 27 (#[.int .i64 seq, .int .i64 who, .int .i64 count, .int .i64 view, .int .i64 logV, .int .i64 cop, .int .i64 cview, .int .u64 (csum : Int), .int .i64 area, .int .i64 size, .int .u64 (s0 : Int), .int .u64 (s1 : Int), .int .u64 (s2 : Int), .int .u64 (s3 : Int), .int .u64 (s4 : Int), .int .u64 (s5 : Int), .int .u64 (parent : Int)] : Array Value).toList) := hid (Row.new _ _ _)
  have HB0 := hid ((Below.refl w.heap.size w).alloc (Nat.le_refl _) (.cells #[.int .i64 seq, .int .i64 who, .int .i64 count, .int .i64 view, .int .i64 logV, .int .i64 cop, .int .i64 cview, .int .u64 (csum : Int), .int .i64 area, .int .i64 size, .int .u64 (s0 : Int), .int .u64 (s1 : Int), .int .u64 (s2 : Int), .int .u64 (s3 : Int), .int .u64 (s4 : Int), .int .u64 (s5 : Int), .int .u64 (parent : Int)] 27))
  have HZS : Hid ((Try.prog.info? 27).map (·.size) = some 17) := hid (by kernel_rfl)
  go_enter Try.func10, Try.ntmps10
  go_wp2_with (first
    | (refine wpList_load_row rfl 27 (.tmp 1) rfl w.heap.size rfl 27 #[.int .i64 seq, .int .i64 who, .int .i64 count, .int .i64 view, .int .i64 logV, .int .i64 cop, .int .i64 cview, .int .u64 (csum : Int), .int .i64 area, .int .i64 size, .int .u64 (s0 : Int), .int .u64 (s1 : Int), .int .u64 (s2 : Int), .int .u64 (s3 : Int), .int .u64 (s4 : Int), .int .u64 (s5 : Int), .int .u64 (parent : Int)] (0, 0) _ (heap_alloc_new _ _) Try.underlying27 rfl HZS.out ?_)
    | (go_at_call 12; refine (HR.out _).mono ?_; rintro e w1 ⟨rfl, hb1⟩))
  have hr1 := HRW.out.below hb1 (by simp)
  have HC : Hid (∀ j v, (#[.int .i64 seq, .int .i64 who, .int .i64 count, .int .i64 view, .int .i64 logV, .int .i64 cop, .int .i64 cview, .int .u64 (csum : Int), .int .i64 area, .int .i64 size, .int .u64 (s0 : Int), .int .u64 (s1 : Int), .int .u64 (s2 : Int), .int .u64 (s3 : Int), .int .u64 (s4 : Int), .int .u64 (s5 : Int), .int .u64 (parent : Int)] : Array Value).toList[j]? = some v → ∀ W, Below w1.heap.size w1 W → W.cell? ⟨w.heap.size, j, none⟩ = some v) := hid fun j v hv W hW => by
    rw [(hr1.below hW hr1.lt).cell]
    exact hv
  have HB1 := hid (HB0.out.trans (hb1.mono (by simp)))
  clear hr1 hb1
  have HC0 := hid (HC.out 0 _ rfl)
  have HC1 := hid (HC.out 1 _ rfl)
  have HC2 := hid (HC.out 2 _ rfl)
  have HC3 := hid (HC.out 3 _ rfl)
  have HC4 := hid (HC.out 4 _ rfl)
  have HC5 := hid (HC.out 5 _ rfl)
  have HC6 := hid (HC.out 6 _ rfl)
  have HC7 := hid (HC.out 7 _ rfl)
  have HC8 := hid (HC.out 8 _ rfl)
  have HC9 := hid (HC.out 9 _ rfl)
  have HC16 := hid (HC.out 16 _ rfl)
  obtain ⟨z0, z1, z2, z3, z4, z5, z6, z7, z8, z9, z16⟩ := HZ.out
  have hq2 : ¬ (9223372036854775807 < B0.size + B1.size) := by omega
  have hq3 : ¬ (9223372036854775807 < B0.size + B1.size + B2.size) := by omega
  have hq4 : ¬ (9223372036854775807 < B0.size + B1.size + B2.size + B3.size) := by omega
  have hq5 : ¬ (9223372036854775807 < B0.size + B1.size + B2.size + B3.size + B4.size) := by omega
  have hq6 : ¬ (9223372036854775807 < B0.size + B1.size + B2.size + B3.size + B4.size + B5.size) := by omega
  have hq7 : ¬ (9223372036854775807 < B0.size + B1.size + B2.size + B3.size + B4.size + B5.size + B6.size) := by omega
  have hq8 : ¬ (9223372036854775807 < B0.size + B1.size + B2.size + B3.size + B4.size + B5.size + B6.size + B7.size) := by omega
  have hq9 : ¬ (9223372036854775807 < B0.size + B1.size + B2.size + B3.size + B4.size + B5.size + B6.size + B7.size + B8.size) := by omega
  have hq10 : ¬ (9223372036854775807 < B0.size + B1.size + B2.size + B3.size + B4.size + B5.size + B6.size + B7.size + B8.size + B9.size) := by omega
  clear z0 z1 z2 z3 z4 z5 z6 z7 z8 z9 z16
  refine wp_region_held_drew (S := fun W => Below w1.heap.size w1 W) (by kernel_rfl) ((Below.refl _ _).drew) (fun hH => ?_)
  refine wpAnyH_take (i := 0) (v := .pointer (some ⟨w.heap.size, 0, none⟩)) rfl (by kernel_rfl) (by kernel_rfl) (by kernel_rfl) (fun _ _ _ h => h) (Or.inl ⟨by rfl, fun w' hw' => by clear hw'; go_simp⟩) hH ?_
  simp only [Act.put]
  refine wpAnyH_take (i := 1) (v := .int .i64 seq) rfl (by kernel_rfl) (by kernel_rfl) (by kernel_rfl) (fun _ _ _ h => h) (Or.inl ⟨by rfl, fun w' hw' => by have h := HC0.out w' hw'; go_simp⟩) hH ?_
  simp only [Act.put]
  refine wpAnyH_take (i := 2) (v := .int .u64 (IntKind.u64.wrap seq)) rfl (by kernel_rfl) (by kernel_rfl) (by kernel_rfl) (fun _ _ _ h => h) (Or.inl ⟨by rfl, fun w' hw' => by clear hw'; go_simp⟩) hH ?_
  simp only [Act.put]
  refine wpAnyH_take (i := 4) (v := .pointer (some ⟨w.heap.size, 1, none⟩)) rfl (by kernel_rfl) (by kernel_rfl) (by kernel_rfl) (fun _ _ _ h => h) (Or.inl ⟨by rfl, fun w' hw' => by clear hw'; go_simp⟩) hH ?_
  simp only [Act.put]
  refine wpAnyH_take (i := 5) (v := .int .i64 who) rfl (by kernel_rfl) (by kernel_rfl) (by kernel_rfl) (fun _ _ _ h => h) (Or.inl ⟨by rfl, fun w' hw' => by have h := HC1.out w' hw'; go_simp⟩) hH ?_
  simp only [Act.put]
  refine wpAnyH_take (i := 6) (v := .int .u64 (IntKind.u64.wrap who)) rfl (by kernel_rfl) (by kernel_rfl) (by kernel_rfl) (fun _ _ _ h => h) (Or.inl ⟨by rfl, fun w' hw' => by clear hw'; go_simp⟩) hH ?_
  simp only [Act.put]
  refine wpAnyH_take (i := 9) (v := .pointer (some ⟨w.heap.size, 2, none⟩)) rfl (by kernel_rfl) (by kernel_rfl) (by kernel_rfl) (fun _ _ _ h => h) (Or.inl ⟨by rfl, fun w' hw' => by clear hw'; go_simp⟩) hH ?_
  simp only [Act.put]
  refine wpAnyH_take (i := 10) (v := .int .i64 count) rfl (by kernel_rfl) (by kernel_rfl) (by kernel_rfl) (fun _ _ _ h => h) (Or.inl ⟨by rfl, fun w' hw' => by have h := HC2.out w' hw'; go_simp⟩) hH ?_
  simp only [Act.put]
  refine wpAnyH_take (i := 11) (v := .int .u64 (IntKind.u64.wrap count)) rfl (by kernel_rfl) (by kernel_rfl) (by kernel_rfl) (fun _ _ _ h => h) (Or.inl ⟨by rfl, fun w' hw' => by clear hw'; go_simp⟩) hH ?_
  simp only [Act.put]
  refine wpAnyH_take (i := 14) (v := .pointer (some ⟨w.heap.size, 3, none⟩)) rfl (by kernel_rfl) (by kernel_rfl) (by kernel_rfl) (fun _ _ _ h => h) (Or.inl ⟨by rfl, fun w' hw' => by clear hw'; go_simp⟩) hH ?_
  simp only [Act.put]
  refine wpAnyH_take (i := 15) (v := .int .i64 view) rfl (by kernel_rfl) (by kernel_rfl) (by kernel_rfl) (fun _ _ _ h => h) (Or.inl ⟨by rfl, fun w' hw' => by have h := HC3.out w' hw'; go_simp⟩) hH ?_
  simp only [Act.put]
  refine wpAnyH_take (i := 16) (v := .int .u64 (IntKind.u64.wrap view)) rfl (by kernel_rfl) (by kernel_rfl) (by kernel_rfl) (fun _ _ _ h => h) (Or.inl ⟨by rfl, fun w' hw' => by clear hw'; go_simp⟩) hH ?_
  simp only [Act.put]
  refine wpAnyH_take (i := 19) (v := .pointer (some ⟨w.heap.size, 4, none⟩)) rfl (by kernel_rfl) (by kernel_rfl) (by kernel_rfl) (fun _ _ _ h => h) (Or.inl ⟨by rfl, fun w' hw' => by clear hw'; go_simp⟩) hH ?_
  simp only [Act.put]
  refine wpAnyH_take (i := 20) (v := .int .i64 logV) rfl (by kernel_rfl) (by kernel_rfl) (by kernel_rfl) (fun _ _ _ h => h) (Or.inl ⟨by rfl, fun w' hw' => by have h := HC4.out w' hw'; go_simp⟩) hH ?_
  simp only [Act.put]
  refine wpAnyH_take (i := 21) (v := .int .u64 (IntKind.u64.wrap logV)) rfl (by kernel_rfl) (by kernel_rfl) (by kernel_rfl) (fun _ _ _ h => h) (Or.inl ⟨by rfl, fun w' hw' => by clear hw'; go_simp⟩) hH ?_
  simp only [Act.put]
  refine wpAnyH_ready (rs := [3]) (by kernel_rfl) (by simp) ?_
  refine AllReadyH.cons rfl (fun K hK => ?_) AllReadyH.nil
  go_simp
  go_at_call 38
  refine (HE0.out _).mono ?_
  rintro e w2 ⟨rfl, hb2⟩
  go_wp2_with fail
  refine hK.out _ _ (hH.trans (hb2.mono hH.size)) (fun hH => ?_)
  clear hK K
  try simp only [Act.put]
  refine wpAnyH_ready (rs := [7]) (by kernel_rfl) (by simp) ?_
  refine AllReadyH.cons rfl (fun K hK => ?_) AllReadyH.nil
  go_simp
  go_at_call 38
  refine (HE1.out _).mono ?_
  rintro e w3 ⟨rfl, hb3⟩
  go_wp2_with fail
  refine hK.out _ _ (hH.trans (hb3.mono hH.size)) (fun hH => ?_)
  clear hK K
  try simp only [Act.put]
  refine wpAnyH_take (i := 8) (v := .string (B0 ++ B1)) rfl (by kernel_rfl) (by kernel_rfl) (by kernel_rfl) (fun _ _ _ h => h) (Or.inl ⟨by rfl, fun w' hw' => by clear hw'; go_simp⟩) hH ?_
  simp only [Act.put]
  refine wpAnyH_ready (rs := [12]) (by kernel_rfl) (by simp) ?_
  refine AllReadyH.cons rfl (fun K hK => ?_) AllReadyH.nil
  go_simp
  go_at_call 38
  refine (HE2.out _).mono ?_
  rintro e w4 ⟨rfl, hb4⟩
  go_wp2_with fail
  refine hK.out _ _ (hH.trans (hb4.mono hH.size)) (fun hH => ?_)
  clear hK K
  try simp only [Act.put]
  refine wpAnyH_take (i := 13) (v := .string (B0 ++ B1 ++ B2)) rfl (by kernel_rfl) (by kernel_rfl) (by kernel_rfl) (fun _ _ _ h => h) (Or.inl ⟨by rfl, fun w' hw' => by clear hw'; go_simp⟩) hH ?_
  simp only [Act.put]
  refine wpAnyH_ready (rs := [17]) (by kernel_rfl) (by simp) ?_
  refine AllReadyH.cons rfl (fun K hK => ?_) AllReadyH.nil
  go_simp
  go_at_call 38
  refine (HE3.out _).mono ?_
  rintro e w5 ⟨rfl, hb5⟩
  go_wp2_with fail
  refine hK.out _ _ (hH.trans (hb5.mono hH.size)) (fun hH => ?_)
  clear hK K
  try simp only [Act.put]
  refine wpAnyH_take (i := 18) (v := .string (B0 ++ B1 ++ B2 ++ B3)) rfl (by kernel_rfl) (by kernel_rfl) (by kernel_rfl) (fun _ _ _ h => h) (Or.inl ⟨by rfl, fun w' hw' => by clear hw'; go_simp⟩) hH ?_
  simp only [Act.put]
  refine wpAnyH_ready (rs := [22]) (by kernel_rfl) (by simp) ?_
  refine AllReadyH.cons rfl (fun K hK => ?_) AllReadyH.nil
  go_simp
  go_at_call 38
  refine (HE4.out _).mono ?_
  rintro e w6 ⟨rfl, hb6⟩
  go_wp2_with fail
  refine hK.out _ _ (hH.trans (hb6.mono hH.size)) (fun hH => ?_)
  clear hK K
  try simp only [Act.put]
  refine wpAnyH_take (i := 23) (v := .string (B0 ++ B1 ++ B2 ++ B3 ++ B4)) rfl (by kernel_rfl) (by kernel_rfl) (by kernel_rfl) (fun _ _ _ h => h) (Or.inl ⟨by rfl, fun w' hw' => by clear hw'; go_simp⟩) hH ?_
  simp only [Act.put]
  refine wpAnyH_ready (rs := [24]) (by kernel_rfl) (by simp) ?_
  refine AllReadyH.cons rfl (fun K hK => ?_) AllReadyH.nil
  go_simp
  refine hK.out _ _ (hH) (fun hH => ?_)
  clear hK K
  try simp only [Act.put]
  refine wpAnyH_done (by kernel_rfl) ?_ _
  try simp only [Act.put]
  go_wp2_with fail
  generalize hcat : (B0 ++ B1 ++ B2 ++ B3 ++ B4) = Y5 at *
  have HBM : Hid (Below w1.heap.size w1 w6) := hid hH
  clear hb2 hb3 hb4 hb5 hb6 hH
  have HCAT := hid hcat
  clear hcat
  have hs5 : Y5.size = 40 := by
    rw [← HCAT.out]
    obtain ⟨z0, z1, z2, z3, z4, z5, z6, z7, z8, z9, z16⟩ := HZ.out
    simp only [cat_size]
    omega
  obtain ⟨z0, z1, z2, z3, z4, z5, z6, z7, z8, z9, z16⟩ := HZ.out
  have hp6 : ¬ (9223372036854775807 < Y5.size + B5.size) := by omega
  have hp7 : ¬ (9223372036854775807 < Y5.size + B5.size + B6.size) := by omega
  have hp8 : ¬ (9223372036854775807 < Y5.size + B5.size + B6.size + B7.size) := by omega
  have hp9 : ¬ (9223372036854775807 < Y5.size + B5.size + B6.size + B7.size + B8.size) := by omega
  have hp10 : ¬ (9223372036854775807 < Y5.size + B5.size + B6.size + B7.size + B8.size + B9.size) := by omega
  clear hs5 z0 z1 z2 z3 z4 z5 z6 z7 z8 z9 z16
  refine wp_region_held_drew (S := fun W => Below w1.heap.size w1 W) (by kernel_rfl) (HBM.out.drew) (fun hH => ?_)
  refine wpAnyH_take (i := 0) (v := .string Y5) rfl (by kernel_rfl) (by kernel_rfl) (by kernel_rfl) (fun _ _ _ h => h) (Or.inl ⟨by rfl, fun w' hw' => by clear hw'; go_simp⟩) hH ?_
  simp only [Act.put]
  refine wpAnyH_take (i := 1) (v := .pointer (some ⟨w.heap.size, 5, none⟩)) rfl (by kernel_rfl) (by kernel_rfl) (by kernel_rfl) (fun _ _ _ h => h) (Or.inl ⟨by rfl, fun w' hw' => by clear hw'; go_simp⟩) hH ?_
  simp only [Act.put]
  refine wpAnyH_take (i := 2) (v := .pointer (some ⟨w.heap.size, 5, none⟩)) rfl (by kernel_rfl) (by kernel_rfl) (by kernel_rfl) (fun _ _ _ h => h) (Or.inl ⟨by rfl, fun w' hw' => by clear hw'; go_simp⟩) hH ?_
  simp only [Act.put]
  refine wpAnyH_take (i := 3) (v := .int .i64 cop) rfl (by kernel_rfl) (by kernel_rfl) (by kernel_rfl) (fun _ _ _ h => h) (Or.inl ⟨by rfl, fun w' hw' => by have h := HC5.out w' hw'; go_simp⟩) hH ?_
  simp only [Act.put]
  refine wpAnyH_take (i := 4) (v := .int .u64 (IntKind.u64.wrap cop)) rfl (by kernel_rfl) (by kernel_rfl) (by kernel_rfl) (fun _ _ _ h => h) (Or.inl ⟨by rfl, fun w' hw' => by clear hw'; go_simp⟩) hH ?_
  simp only [Act.put]
  refine wpAnyH_take (i := 7) (v := .pointer (some ⟨w.heap.size, 5, none⟩)) rfl (by kernel_rfl) (by kernel_rfl) (by kernel_rfl) (fun _ _ _ h => h) (Or.inl ⟨by rfl, fun w' hw' => by clear hw'; go_simp⟩) hH ?_
  simp only [Act.put]
  refine wpAnyH_take (i := 8) (v := .pointer (some ⟨w.heap.size, 6, none⟩)) rfl (by kernel_rfl) (by kernel_rfl) (by kernel_rfl) (fun _ _ _ h => h) (Or.inl ⟨by rfl, fun w' hw' => by clear hw'; go_simp⟩) hH ?_
  simp only [Act.put]
  refine wpAnyH_take (i := 9) (v := .int .i64 cview) rfl (by kernel_rfl) (by kernel_rfl) (by kernel_rfl) (fun _ _ _ h => h) (Or.inl ⟨by rfl, fun w' hw' => by have h := HC6.out w' hw'; go_simp⟩) hH ?_
  simp only [Act.put]
  refine wpAnyH_take (i := 10) (v := .int .u64 (IntKind.u64.wrap cview)) rfl (by kernel_rfl) (by kernel_rfl) (by kernel_rfl) (fun _ _ _ h => h) (Or.inl ⟨by rfl, fun w' hw' => by clear hw'; go_simp⟩) hH ?_
  simp only [Act.put]
  refine wpAnyH_take (i := 13) (v := .pointer (some ⟨w.heap.size, 5, none⟩)) rfl (by kernel_rfl) (by kernel_rfl) (by kernel_rfl) (fun _ _ _ h => h) (Or.inl ⟨by rfl, fun w' hw' => by clear hw'; go_simp⟩) hH ?_
  simp only [Act.put]
  refine wpAnyH_take (i := 14) (v := .pointer (some ⟨w.heap.size, 7, none⟩)) rfl (by kernel_rfl) (by kernel_rfl) (by kernel_rfl) (fun _ _ _ h => h) (Or.inl ⟨by rfl, fun w' hw' => by clear hw'; go_simp⟩) hH ?_
  simp only [Act.put]
  refine wpAnyH_take (i := 15) (v := .int .u64 (csum : Int)) rfl (by kernel_rfl) (by kernel_rfl) (by kernel_rfl) (fun _ _ _ h => h) (Or.inl ⟨by rfl, fun w' hw' => by have h := HC7.out w' hw'; go_simp⟩) hH ?_
  simp only [Act.put]
  refine wpAnyH_take (i := 18) (v := .pointer (some ⟨w.heap.size, 8, none⟩)) rfl (by kernel_rfl) (by kernel_rfl) (by kernel_rfl) (fun _ _ _ h => h) (Or.inl ⟨by rfl, fun w' hw' => by clear hw'; go_simp⟩) hH ?_
  simp only [Act.put]
  refine wpAnyH_take (i := 19) (v := .int .i64 area) rfl (by kernel_rfl) (by kernel_rfl) (by kernel_rfl) (fun _ _ _ h => h) (Or.inl ⟨by rfl, fun w' hw' => by have h := HC8.out w' hw'; go_simp⟩) hH ?_
  simp only [Act.put]
  refine wpAnyH_take (i := 20) (v := .int .u64 (IntKind.u64.wrap area)) rfl (by kernel_rfl) (by kernel_rfl) (by kernel_rfl) (fun _ _ _ h => h) (Or.inl ⟨by rfl, fun w' hw' => by clear hw'; go_simp⟩) hH ?_
  simp only [Act.put]
  refine wpAnyH_take (i := 23) (v := .pointer (some ⟨w.heap.size, 9, none⟩)) rfl (by kernel_rfl) (by kernel_rfl) (by kernel_rfl) (fun _ _ _ h => h) (Or.inl ⟨by rfl, fun w' hw' => by clear hw'; go_simp⟩) hH ?_
  simp only [Act.put]
  refine wpAnyH_take (i := 24) (v := .int .i64 size) rfl (by kernel_rfl) (by kernel_rfl) (by kernel_rfl) (fun _ _ _ h => h) (Or.inl ⟨by rfl, fun w' hw' => by have h := HC9.out w' hw'; go_simp⟩) hH ?_
  simp only [Act.put]
  refine wpAnyH_take (i := 25) (v := .int .u64 (IntKind.u64.wrap size)) rfl (by kernel_rfl) (by kernel_rfl) (by kernel_rfl) (fun _ _ _ h => h) (Or.inl ⟨by rfl, fun w' hw' => by clear hw'; go_simp⟩) hH ?_
  simp only [Act.put]
  refine wpAnyH_ready (rs := [5]) (by kernel_rfl) (by simp) ?_
  refine AllReadyH.cons rfl (fun K hK => ?_) AllReadyH.nil
  go_simp
  go_at_call 38
  refine (HE5.out _).mono ?_
  rintro e w7 ⟨rfl, hb7⟩
  go_wp2_with fail
  refine hK.out _ _ (hH.trans (hb7.mono hH.size)) (fun hH => ?_)
  clear hK K
  try simp only [Act.put]
  refine wpAnyH_take (i := 6) (v := .string (Y5 ++ B5)) rfl (by kernel_rfl) (by kernel_rfl) (by kernel_rfl) (fun _ _ _ h => h) (Or.inl ⟨by rfl, fun w' hw' => by clear hw'; go_simp⟩) hH ?_
  simp only [Act.put]
  refine wpAnyH_ready (rs := [11]) (by kernel_rfl) (by simp) ?_
  refine AllReadyH.cons rfl (fun K hK => ?_) AllReadyH.nil
  go_simp
  go_at_call 38
  refine (HE6.out _).mono ?_
  rintro e w8 ⟨rfl, hb8⟩
  go_wp2_with fail
  refine hK.out _ _ (hH.trans (hb8.mono hH.size)) (fun hH => ?_)
  clear hK K
  try simp only [Act.put]
  refine wpAnyH_take (i := 12) (v := .string (Y5 ++ B5 ++ B6)) rfl (by kernel_rfl) (by kernel_rfl) (by kernel_rfl) (fun _ _ _ h => h) (Or.inl ⟨by rfl, fun w' hw' => by clear hw'; go_simp⟩) hH ?_
  simp only [Act.put]
  refine wpAnyH_ready (rs := [16]) (by kernel_rfl) (by simp) ?_
  refine AllReadyH.cons rfl (fun K hK => ?_) AllReadyH.nil
  go_simp
  go_at_call 38
  refine (HE7.out _).mono ?_
  rintro e w9 ⟨rfl, hb9⟩
  go_wp2_with fail
  refine hK.out _ _ (hH.trans (hb9.mono hH.size)) (fun hH => ?_)
  clear hK K
  try simp only [Act.put]
  refine wpAnyH_take (i := 17) (v := .string (Y5 ++ B5 ++ B6 ++ B7)) rfl (by kernel_rfl) (by kernel_rfl) (by kernel_rfl) (fun _ _ _ h => h) (Or.inl ⟨by rfl, fun w' hw' => by clear hw'; go_simp⟩) hH ?_
  simp only [Act.put]
  refine wpAnyH_ready (rs := [21]) (by kernel_rfl) (by simp) ?_
  refine AllReadyH.cons rfl (fun K hK => ?_) AllReadyH.nil
  go_simp
  go_at_call 38
  refine (HE8.out _).mono ?_
  rintro e w10 ⟨rfl, hb10⟩
  go_wp2_with fail
  refine hK.out _ _ (hH.trans (hb10.mono hH.size)) (fun hH => ?_)
  clear hK K
  try simp only [Act.put]
  refine wpAnyH_take (i := 22) (v := .string (Y5 ++ B5 ++ B6 ++ B7 ++ B8)) rfl (by kernel_rfl) (by kernel_rfl) (by kernel_rfl) (fun _ _ _ h => h) (Or.inl ⟨by rfl, fun w' hw' => by clear hw'; go_simp⟩) hH ?_
  simp only [Act.put]
  refine wpAnyH_ready (rs := [26]) (by kernel_rfl) (by simp) ?_
  refine AllReadyH.cons rfl (fun K hK => ?_) AllReadyH.nil
  go_simp
  go_at_call 38
  refine (HE9.out _).mono ?_
  rintro e w11 ⟨rfl, hb11⟩
  go_wp2_with fail
  refine hK.out _ _ (hH.trans (hb11.mono hH.size)) (fun hH => ?_)
  clear hK K
  try simp only [Act.put]
  refine wpAnyH_take (i := 27) (v := .string (Y5 ++ B5 ++ B6 ++ B7 ++ B8 ++ B9)) rfl (by kernel_rfl) (by kernel_rfl) (by kernel_rfl) (fun _ _ _ h => h) (Or.inl ⟨by rfl, fun w' hw' => by clear hw'; go_simp⟩) hH ?_
  simp only [Act.put]
  refine wpAnyH_ready (rs := [28]) (by kernel_rfl) (by simp) ?_
  refine AllReadyH.cons rfl (fun K hK => ?_) AllReadyH.nil
  go_simp
  refine hK.out _ _ (hH) (fun hH => ?_)
  clear hK K
  try simp only [Act.put]
  refine wpAnyH_done (by kernel_rfl) ?_ _
  try simp only [Act.put]
  go_wp2_with fail
  have hx0 : (Y5 ++ B5 ++ B6 ++ B7 ++ B8 ++ B9) = X 0 := by rw [← HX0.out, ← HCAT.out]
  rw [hx0]
  have HBN : Hid (Below w1.heap.size w1 w11) := hid hH
  clear hx0 hb7 hb8 hb9 hb10 hb11 hH HX0 HCAT
  go_loopw [4, 5] (fun t i wr => ∃ k : Nat, k ≤ 6 ∧ i = .int .i64 k ∧ t = .string (X k) ∧ Below w1.heap.size w1 wr) (fun _ i _ => 6 - (intOf i).toNat)
  case atStart => exact ⟨0, by omega, rfl, rfl, HBN.out⟩
  case round =>
    obtain ⟨k, hk, rfl, rfl, hbe⟩ := hrel
    have HBe := hid hbe
    have hxs := HXS.out k hk
    by_cases hlt : k < 6
    · obtain ⟨n, hn, Y, hY, hYs, hE⟩ := HES.out k hlt
      have hcl := HC.out (10 + k) _ (by simpa using hn) wr hbe
      have hcl2 : wr.cell? ⟨w.heap.size, 10 + k, none⟩ = some (.int .u64 (n : Int)) := hcl
      have HE := hid hE
      have HY := hid hY
      have hsum : ¬ (9223372036854775807 < (X k).size + Y.size) := by omega
      clear hn hY hYs hE hxs hbe hcl
      generalize X k = Xk at *
      go_wp2_with (go_at_call 38; refine (HE.out _).mono ?_; rintro e w12 ⟨rfl, hb12⟩)
      exact ⟨⟨k + 1, by omega, by go_num, by rw [HY.out], HBe.out.trans (hb12.mono HBe.out.size)⟩, by simp [intOf]; omega⟩
    · obtain rfl : k = 6 := by omega
      have hcl := HC16.out wr hbe
      obtain ⟨z0, z1, z2, z3, z4, z5, z6, z7, z8, z9, z16⟩ := HZ.out
      have hsum : ¬ (9223372036854775807 < (X 6).size + B16.size) := by omega
      clear z0 z1 z2 z3 z4 z5 z6 z7 z8 z9 z16 hbe hxs
      generalize X 6 = X6 at *
      go_wp2_with (go_at_call 38; refine (HE16.out _).mono ?_; rintro e w12 ⟨rfl, hb12⟩)
      go_ret2
      exact ⟨by rw [HBS.out]; rfl, HB1.out.trans ((HBe.out.trans (hb12.mono HBe.out.size)).mono HB1.out.size)⟩
end Go.Proofs.Ytogchfpecbmocaa
/-
  The walk of the document's Pack, whole; of its Next.
-/
namespace Go.Proofs.Ytogchfpecbmocaa
open Go.RowKit
set_option maxRecDepth 10000

theorem mk_size (l : List UInt8) : (⟨l.toArray⟩ : ByteArray).size = l.length := by rw [← sb_len, sb_mk]
set_option maxHeartbeats 1000000 in
theorem rpack_any (s : Su) (hf : s.fits) (w : World) : Calls Try.prog 10 #[s.val] w (SN w (packU s)) := by
  have e0 : packU s = if SR s then (s.bytes, 0) else ([], 4) := rfl
  by_cases h : SR s
  · rw [e0, if_pos h]
    have hR : Hid (∀ W, Calls Try.prog 12 #[s.val] W (VE W (.bool true))) := hid fun W => by
      have := rright_any s W
      rwa [decide_eq_true h] at this
    have hl := nums_lt s hf
    have hnl := nums_len s
    have hX : ∀ k, k ≤ 6 → (nb (s.nums.take (10 + k))).length = 8 * (10 + k) := fun k hk => nbt_len _ _ (by omega)
    have hcat : ∀ k, k < 7 → ∀ n, s.nums[10 + k]? = some n → (⟨(nb (s.nums.take (10 + k))).toArray⟩ : ByteArray) ++ ⟨(le n 8).toArray⟩ = ⟨(nb (s.nums.take (10 + (k + 1)))).toArray⟩ := fun k hk n hn => by
      have hlt : 10 + k < s.nums.length := by omega
      rw [List.getElem?_eq_getElem hlt, Option.some.injEq] at hn
      rw [cat_mk, ← Nat.add_assoc, nb_take _ _ hlt, hn]
    have h17 : s.bytes = nb (s.nums.take (10 + 7)) := by rw [List.take_of_length_le (by omega)]; rfl
    rw [h17]
    obtain ⟨seq, who, count, view, logV, cop, cview, csum, area, size, s0, s1, s2, s3, s4, s5, parent⟩ := s
    have H : ∀ n, n ∈ Su.nums ⟨seq, who, count, view, logV, cop, cview, csum, area, size, s0, s1, s2, s3, s4, s5, parent⟩ → ∀ x : Int, (n : Int) = x → ∀ W, Calls Try.prog 38 #[.int .u64 x] W fun e w' => e = .returned (.string ⟨(le n 8).toArray⟩) ∧ Below W.heap.size W w' := fun n hn x hx W => eight_of n x hx (hl n hn) W
    have hz : ∀ n, (⟨(le n 8).toArray⟩ : ByteArray).size = 8 := fun n => by rw [mk_size, le_len]
    refine rpack_yes seq who count view logV cop cview area size csum s0 s1 s2 s3 s4 s5 parent _ w (fun k => ⟨(nb ((Su.nums ⟨seq, who, count, view, logV, cop, cview, csum, area, size, s0, s1, s2, s3, s4, s5, parent⟩).take (10 + k))).toArray⟩) ⟨(le (un seq) 8).toArray⟩ ⟨(le (un who) 8).toArray⟩ ⟨(le (un count) 8).toArray⟩ ⟨(le (un view) 8).toArray⟩ ⟨(le (un logV) 8).toArray⟩ ⟨(le (un cop) 8).toArray⟩ ⟨(le (un cview) 8).toArray⟩ ⟨(le (csum) 8).toArray⟩ ⟨(le (un area) 8).toArray⟩ ⟨(le (un size) 8).toArray⟩ ⟨(le parent 8).toArray⟩ hR
      (hid (H (un seq) (by simp [Su.nums]) _ (un_wrap seq).symm))
      (hid (H (un who) (by simp [Su.nums]) _ (un_wrap who).symm))
      (hid (H (un count) (by simp [Su.nums]) _ (un_wrap count).symm))
      (hid (H (un view) (by simp [Su.nums]) _ (un_wrap view).symm))
      (hid (H (un logV) (by simp [Su.nums]) _ (un_wrap logV).symm))
      (hid (H (un cop) (by simp [Su.nums]) _ (un_wrap cop).symm))
      (hid (H (un cview) (by simp [Su.nums]) _ (un_wrap cview).symm))
      (hid (H (csum) (by simp [Su.nums]) _ rfl))
      (hid (H (un area) (by simp [Su.nums]) _ (un_wrap area).symm))
      (hid (H (un size) (by simp [Su.nums]) _ (un_wrap size).symm))
      (hid fun k hk => ?_) (hid (H parent (by simp [Su.nums]) _ rfl)) (hid ?_) (hid fun k hk => by rw [mk_size, hX k hk]; omega) (hid (hcat 6 (by omega) parent rfl)) (hid ⟨hz _, hz _, hz _, hz _, hz _, hz _, hz _, hz _, hz _, hz _, hz _⟩)
    · have h6 : k = 0 ∨ k = 1 ∨ k = 2 ∨ k = 3 ∨ k = 4 ∨ k = 5 := by omega
      rcases h6 with rfl | rfl | rfl | rfl | rfl | rfl
      · exact ⟨s0, rfl, _, hcat 0 (by omega) s0 rfl, hz _, H s0 (by simp [Su.nums]) _ rfl⟩
      · exact ⟨s1, rfl, _, hcat 1 (by omega) s1 rfl, hz _, H s1 (by simp [Su.nums]) _ rfl⟩
      · exact ⟨s2, rfl, _, hcat 2 (by omega) s2 rfl, hz _, H s2 (by simp [Su.nums]) _ rfl⟩
      · exact ⟨s3, rfl, _, hcat 3 (by omega) s3 rfl, hz _, H s3 (by simp [Su.nums]) _ rfl⟩
      · exact ⟨s4, rfl, _, hcat 4 (by omega) s4 rfl, hz _, H s4 (by simp [Su.nums]) _ rfl⟩
      · exact ⟨s5, rfl, _, hcat 5 (by omega) s5 rfl, hz _, H s5 (by simp [Su.nums]) _ rfl⟩
    · simp only [cat_mk]
      simp [Su.nums, nb]
  · rw [e0, if_neg h]
    have HR : Hid (∀ W, Calls Try.prog 12 #[.agg s.cells] W (VE W (.bool false))) := hid fun W => by
      have := rright_any s W
      rwa [decide_eq_false h] at this
    have HZS : Hid ((Try.prog.info? 27).map (·.size) = some s.cells.size) := hid (by show _ = some 17; kernel_rfl)
    show Calls Try.prog 10 #[.agg s.cells] w _
    generalize s.cells = C at *
    clear e0 h hf
    go_enter Try.func10, Try.ntmps10
    go_wp2_with (first
      | (refine wpList_load_row rfl 27 (.tmp 1) rfl w.heap.size rfl 27 C (0, 0) _ (heap_alloc_new _ _) Try.underlying27 rfl HZS.out ?_)
      | (go_at_call 12; refine (HR.out _).mono ?_; rintro e w1 ⟨rfl, hb1⟩))
    go_ret2
    exact ⟨rfl, ((Below.refl _ _).alloc (Nat.le_refl _) _).trans (hb1.mono (by simp))⟩
theorem rchain_of (b : List UInt8) (hb : b.length = 136) (W : World) : Calls Try.prog 42 #[.int .u64 0, .string ⟨b.toArray⟩] W fun e w' => e = .returned (.int .u64 ((chainOf 0#64 b).toNat : Int)) ∧ Below W.heap.size W w' := by
  have h := rchain_calls 0#64 ⟨b.toArray⟩ W (by rw [← sb_len, sb_mk]; omega)
  rw [sb_mk] at h
  refine h.mono ?_
  rintro e w' ⟨h1, rfl⟩
  exact ⟨h1, Below.refl _ _⟩
set_option maxHeartbeats 1000000 in
theorem rnext_any (s : Su) (hf : s.fits) (w : World) : Calls Try.prog 14 #[s.val] w (VE w (nextU s).val) := by
  have HP : Hid (∀ W, Calls Try.prog 10 #[.agg s.cells] W (SN W (packU s))) := hid (fun W => rpack_any s hf W)
  have HSZ : Hid (s.cells.size = 17) := hid rfl
  have HZS : Hid ((Try.prog.info? 27).map (·.size) = some 17) := hid (by kernel_rfl)
  have HSO : Hid (s.cells.all (·.oneCell') = true) := hid (by simp [Su.cells, Value.oneCell'])
  have HC0 : Hid (s.cells.toList[0]? = some (.int .i64 s.seq)) := hid rfl
  have HCH := hid (fun W => rchain_of s.bytes (bytes_len s) W)
  show Calls Try.prog 14 #[.agg s.cells] w _
  have e0 : packU s = if SR s then (s.bytes, 0) else ([], 4) := rfl
  have hfin : ∀ (r : Su) (C : Array Value) (e : Ending) (w' : World), e = .returned (.agg C) → C = r.cells → Below w.heap.size w w' → VE w r.val e w' := fun r C e w' h1 h2 h3 => ⟨by rw [h1, h2]; rfl, h3⟩
  by_cases h : SR s
  · rw [e0, if_pos h] at HP
    by_cases h2 : s.seq = 72057594037927935
    · have en : nextU s = s := by unfold nextU; rw [if_neg (fun h => h.2 h2)]
      rw [en]
      rw [h2] at HC0
      have HF := hid (hfin s)
      clear e0 h en hfin HCH h2 hf
      generalize s.cells = C at *
      go_enter Try.func14, Try.ntmps14
      go_wp2_with (first
        | (refine wpList_load_row rfl 27 (.tmp 1) rfl w.heap.size rfl 27 C (0, 0) _ hrow1.arr Try.underlying27 rfl (by rw [HSZ.out]; exact HZS.out) ?_)
        | (refine wpList_load_row rfl 27 (.tmp 1) rfl w.heap.size rfl 27 C (0, 0) _ ((Row.new w 27 C).alloc _).arr Try.underlying27 rfl (by rw [HSZ.out]; exact HZS.out) ?_)
        | (go_at_call 10; refine (HP.out _).mono ?_; rintro e w1 ⟨rfl, hb1⟩; have hrow1 := ((Row.new w 27 C).alloc (.cells #[.int .i64 0, .int .i64 0, .int .i64 0, .int .i64 0, .int .i64 0, .int .i64 0, .int .i64 0, .int .u64 0, .int .i64 0, .int .i64 0, .int .u64 0, .int .u64 0, .int .u64 0, .int .u64 0, .int .u64 0, .int .u64 0, .int .u64 0] 27)).below hb1 (by simp; omega); have hc0 := (hrow1.cell 0).trans HC0.out; have hrow2 : Row w1 (w.heap.size + 1) 27 su0.cells.toList := Row.below (B := w.heap.size + 1 + 1) (alloc2_new _ _ _) (hb1.mono (by simp)) (by omega); have hbe := (((Below.refl w.heap.size w).alloc (Nat.le_refl _) _).alloc (by simp) _).trans (hb1.mono (by simp; omega)))
        | (refine wpl_store_st rfl (.tmp 2) (.tmp 17) rfl (n := 17) HZS.out (w.heap.size + 1) su0.cells C rfl rfl hrow2 ?_ (hid rfl) HSZ HSO; intro w6 HR6 HB6))
      exact bodyPost_ret (v := .agg C) (results_cell_row rfl _ _ (w.heap.size + 1) 27 C (0, 0) _ rfl HR6 Try.underlying27 rfl (by rw [HSZ.out]; exact HZS.out)) rfl
        (HF.out _ _ _ rfl rfl (hbe.trans (below_grown HB6 (by omega) hbe.size)))
    · have en := nextU_cells s h h2
      have HD : Hid ((nextU s).cells.toList = (s.cells.toList.set 0 (.int .i64 (s.seq + 1))).set 16 (.int .u64 ((chainOf 0#64 s.bytes).toNat : Int))) := hid en
      have HDS : Hid ((nextU s).cells.size = 17) := hid rfl
      have HDO : Hid ((nextU s).cells.all (·.oneCell') = true) := hid (by simp [Su.cells, Value.oneCell'])
      have HF := hid (hfin (nextU s))
      have hs1 : 1 ≤ s.seq := h.1.1
      have hs2 : s.seq < 72057594037927935 := by have := h.1.2; omega
      have hs3 : (s.seq == 72057594037927935) = false := by simp; omega
      generalize (chainOf 0#64 s.bytes).toNat = x at *
      generalize s.bytes = bs at *
      generalize (nextU s).cells = D at *
      generalize s.seq = seq at *
      clear e0 h en hfin hf h2
      generalize s.cells = C at *
      go_enter Try.func14, Try.ntmps14
      go_wp2_with (first
        | (refine wpList_load_row rfl 27 (.tmp 1) rfl w.heap.size rfl 27 D (0, 0) _ hrow5.arr Try.underlying27 rfl (by rw [HDS.out]; exact HZS.out) ?_)
        | (refine wpList_load_row rfl 27 (.tmp 1) rfl w.heap.size rfl 27 C (0, 0) _ ((Row.new w 27 C).alloc _).arr Try.underlying27 rfl (by rw [HSZ.out]; exact HZS.out) ?_)
        | (go_at_call 10; refine (HP.out _).mono ?_; rintro e w1 ⟨rfl, hb1⟩; have hrow1 := ((Row.new w 27 C).alloc (.cells #[.int .i64 0, .int .i64 0, .int .i64 0, .int .i64 0, .int .i64 0, .int .i64 0, .int .i64 0, .int .u64 0, .int .i64 0, .int .i64 0, .int .u64 0, .int .u64 0, .int .u64 0, .int .u64 0, .int .u64 0, .int .u64 0, .int .u64 0] 27)).below hb1 (by simp; omega); have hc0 := (hrow1.cell 0).trans HC0.out; have hrow2 : Row w1 (w.heap.size + 1) 27 su0.cells.toList := Row.below (B := w.heap.size + 1 + 1) (alloc2_new _ _ _) (hb1.mono (by simp)) (by omega); have hbe := (((Below.refl w.heap.size w).alloc (Nat.le_refl _) _).alloc (by simp) _).trans (hb1.mono (by simp; omega)))
        | (go_at_call 42; refine (HCH.out _).mono ?_; rintro e w3 ⟨rfl, hb3⟩; have hrow3 := HR2.below hb3 HR2.lt)
        | (refine wpl_store_c rfl 22 (.tmp 24) (.tmp 23) rfl w.heap.size 16 (.int .u64 (x : Int)) rfl rfl hrow3 sizeU64 ?_ (hid (by rw [List.length_set, Array.length_toList, HSZ.out]; omega)) (hid rfl); intro w4 HR4 HB4; have hrow5 : Row w4 w.heap.size 27 D.toList := (by rw [HD.out]; exact HR4))
        | (refine wpl_store_c rfl 3 (.tmp 21) (.tmp 20) rfl w.heap.size 0 (.int .i64 (seq + 1)) rfl rfl hrow1 sizeInt ?_ (hid (by rw [Array.length_toList, HSZ.out]; omega)) (hid rfl); intro w2 HR2 HB2)
        | (refine wpl_store_st rfl (.tmp 2) (.tmp 25) rfl (n := 17) HZS.out (w.heap.size + 1) su0.cells D rfl rfl (((hrow2.grown HB2 (by simp)).below hb3 (by have := hrow2.lt; have := HB2.size; omega)).grown HB4 (by simp)) ?_ (hid rfl) HDS HDO; intro w6 HR6 HB6))
      exact bodyPost_ret (v := .agg D) (results_cell_row rfl _ _ (w.heap.size + 1) 27 D (0, 0) _ rfl HR6 Try.underlying27 rfl (by rw [HDS.out]; exact HZS.out)) rfl
        (HF.out _ _ _ rfl rfl (by
          have h1 := hbe.size
          have h2 := HB2.size
          have h3 := hb3.size
          have h4 := HB4.size
          exact (((hbe.trans (below_grown HB2 (Nat.le_refl _) h1)).trans (hb3.mono (by omega))).trans (below_grown HB4 (Nat.le_refl _) (by omega))).trans (below_grown HB6 (by omega) (by omega))))
  · rw [e0, if_neg h] at HP
    have en : nextU s = s := by unfold nextU; rw [if_neg (fun h' => h h'.1)]
    rw [en]
    have HF := hid (hfin s)
    clear e0 h en hfin HCH hf
    generalize s.cells = C at *
    go_enter Try.func14, Try.ntmps14
    go_wp2_with (first
        | (refine wpList_load_row rfl 27 (.tmp 1) rfl w.heap.size rfl 27 C (0, 0) _ hrow1.arr Try.underlying27 rfl (by rw [HSZ.out]; exact HZS.out) ?_)
        | (refine wpList_load_row rfl 27 (.tmp 1) rfl w.heap.size rfl 27 C (0, 0) _ ((Row.new w 27 C).alloc _).arr Try.underlying27 rfl (by rw [HSZ.out]; exact HZS.out) ?_)
        | (go_at_call 10; refine (HP.out _).mono ?_; rintro e w1 ⟨rfl, hb1⟩; have hrow1 := ((Row.new w 27 C).alloc (.cells #[.int .i64 0, .int .i64 0, .int .i64 0, .int .i64 0, .int .i64 0, .int .i64 0, .int .i64 0, .int .u64 0, .int .i64 0, .int .i64 0, .int .u64 0, .int .u64 0, .int .u64 0, .int .u64 0, .int .u64 0, .int .u64 0, .int .u64 0] 27)).below hb1 (by simp; omega); have hc0 := (hrow1.cell 0).trans HC0.out; have hrow2 : Row w1 (w.heap.size + 1) 27 su0.cells.toList := Row.below (B := w.heap.size + 1 + 1) (alloc2_new _ _ _) (hb1.mono (by simp)) (by omega); have hbe := (((Below.refl w.heap.size w).alloc (Nat.le_refl _) _).alloc (by simp) _).trans (hb1.mono (by simp; omega)))
        | (refine wpl_store_st rfl (.tmp 2) (.tmp 17) rfl (n := 17) HZS.out (w.heap.size + 1) su0.cells C rfl rfl hrow2 ?_ (hid rfl) HSZ HSO; intro w6 HR6 HB6))
    exact bodyPost_ret (v := .agg C) (results_cell_row rfl _ _ (w.heap.size + 1) 27 C (0, 0) _ rfl HR6 Try.underlying27 rfl (by rw [HSZ.out]; exact HZS.out)) rfl
        (HF.out _ _ _ rfl rfl (hbe.trans (below_grown HB6 (by omega) hbe.size)))
end Go.Proofs.Ytogchfpecbmocaa
