/-
  The walk of the document's Right.
-/
import Derived.Test.YtogchfpecbmocaaM15
import Derived.Test.YtogchfpecbmocaaM03
namespace Go.Proofs.Ytogchfpecbmocaa
open Go.RowKit
set_option maxRecDepth 10000
section
variable (seq who count view logV cop cview area size : Int) (csum s0 s1 s2 s3 s4 s5 parent : Nat) (w : World)
include seq who count view logV cop cview area size csum s0 s1 s2 s3 s4 s5 parent w in
set_option maxHeartbeats 2000000 in
theorem rright_5_3  (k3n : (count != 3) = false) (HW1 : Hid (∀ W : World, Calls Try.prog 40 #[.int .i64 seq, .int .i64 1, .int .i64 72057594037927935] W fun e w' => e = .returned (.bool true) ∧ W = w')) (HW2 : Hid (∀ W : World, Calls Try.prog 40 #[.int .i64 view, .int .i64 0, .int .i64 72057594037927935] W fun e w' => e = .returned (.bool true) ∧ W = w')) (HW3 : Hid (∀ W : World, Calls Try.prog 40 #[.int .i64 cop, .int .i64 0, .int .i64 72057594037927935] W fun e w' => e = .returned (.bool true) ∧ W = w')) (HW4 : Hid (∀ W : World, Calls Try.prog 40 #[.int .i64 cview, .int .i64 0, .int .i64 72057594037927935] W fun e w' => e = .returned (.bool true) ∧ W = w')) (HW5 : Hid (∀ W : World, Calls Try.prog 40 #[.int .i64 who, .int .i64 1, .int .i64 count] W fun e w' => e = .returned (.bool false) ∧ W = w')) :
    Calls Try.prog 12 #[.agg #[.int .i64 seq, .int .i64 who, .int .i64 count, .int .i64 view, .int .i64 logV, .int .i64 cop, .int .i64 cview, .int .u64 (csum : Int), .int .i64 area, .int .i64 size,
    .int .u64 (s0 : Int), .int .u64 (s1 : Int), .int .u64 (s2 : Int), .int .u64 (s3 : Int), .int .u64 (s4 : Int), .int .u64 (s5 : Int), .int .u64 (parent : Int)]] w (VE w (.bool false)) := by
  go_enter Try.func12, Try.ntmps12
  go_wp2_with (first
    | (go_at_call 40; refine (HW1.out _).mono ?_; rintro e w' ⟨rfl, rfl⟩; clear HW1)
    | (go_at_call 40; refine (HW2.out _).mono ?_; rintro e w' ⟨rfl, rfl⟩; clear HW2)
    | (go_at_call 40; refine (HW3.out _).mono ?_; rintro e w' ⟨rfl, rfl⟩; clear HW3)
    | (go_at_call 40; refine (HW4.out _).mono ?_; rintro e w' ⟨rfl, rfl⟩; clear HW4)
    | (go_at_call 40; refine (HW5.out _).mono ?_; rintro e w' ⟨rfl, rfl⟩; clear HW5))
  go_ret
  refine ⟨rfl, ?_⟩
  repeat' first | exact Below.refl _ _ | refine Below.alloc ?_ (by simp <;> omega) _
include seq who count view logV cop cview area size csum s0 s1 s2 s3 s4 s5 parent w in
set_option maxHeartbeats 2000000 in
theorem rright_6_3  (k3n : (count != 3) = false) (HW1 : Hid (∀ W : World, Calls Try.prog 40 #[.int .i64 seq, .int .i64 1, .int .i64 72057594037927935] W fun e w' => e = .returned (.bool true) ∧ W = w')) (HW2 : Hid (∀ W : World, Calls Try.prog 40 #[.int .i64 view, .int .i64 0, .int .i64 72057594037927935] W fun e w' => e = .returned (.bool true) ∧ W = w')) (HW3 : Hid (∀ W : World, Calls Try.prog 40 #[.int .i64 cop, .int .i64 0, .int .i64 72057594037927935] W fun e w' => e = .returned (.bool true) ∧ W = w')) (HW4 : Hid (∀ W : World, Calls Try.prog 40 #[.int .i64 cview, .int .i64 0, .int .i64 72057594037927935] W fun e w' => e = .returned (.bool true) ∧ W = w')) (HW5 : Hid (∀ W : World, Calls Try.prog 40 #[.int .i64 who, .int .i64 1, .int .i64 count] W fun e w' => e = .returned (.bool true) ∧ W = w')) (HW6 : Hid (∀ W : World, Calls Try.prog 40 #[.int .i64 logV, .int .i64 0, .int .i64 view] W fun e w' => e = .returned (.bool false) ∧ W = w')) :
    Calls Try.prog 12 #[.agg #[.int .i64 seq, .int .i64 who, .int .i64 count, .int .i64 view, .int .i64 logV, .int .i64 cop, .int .i64 cview, .int .u64 (csum : Int), .int .i64 area, .int .i64 size,
    .int .u64 (s0 : Int), .int .u64 (s1 : Int), .int .u64 (s2 : Int), .int .u64 (s3 : Int), .int .u64 (s4 : Int), .int .u64 (s5 : Int), .int .u64 (parent : Int)]] w (VE w (.bool false)) := by
  go_enter Try.func12, Try.ntmps12
  go_wp2_with (first
    | (go_at_call 40; refine (HW1.out _).mono ?_; rintro e w' ⟨rfl, rfl⟩; clear HW1)
    | (go_at_call 40; refine (HW2.out _).mono ?_; rintro e w' ⟨rfl, rfl⟩; clear HW2)
    | (go_at_call 40; refine (HW3.out _).mono ?_; rintro e w' ⟨rfl, rfl⟩; clear HW3)
    | (go_at_call 40; refine (HW4.out _).mono ?_; rintro e w' ⟨rfl, rfl⟩; clear HW4)
    | (go_at_call 40; refine (HW5.out _).mono ?_; rintro e w' ⟨rfl, rfl⟩; clear HW5)
    | (go_at_call 40; refine (HW6.out _).mono ?_; rintro e w' ⟨rfl, rfl⟩; clear HW6))
  go_ret
  refine ⟨rfl, ?_⟩
  repeat' first | exact Below.refl _ _ | refine Below.alloc ?_ (by simp <;> omega) _
include seq who count view logV cop cview area size csum s0 s1 s2 s3 s4 s5 parent w in
set_option maxHeartbeats 2000000 in
theorem rright_7_3  (k3n : (count != 3) = false) (HW1 : Hid (∀ W : World, Calls Try.prog 40 #[.int .i64 seq, .int .i64 1, .int .i64 72057594037927935] W fun e w' => e = .returned (.bool true) ∧ W = w')) (HW2 : Hid (∀ W : World, Calls Try.prog 40 #[.int .i64 view, .int .i64 0, .int .i64 72057594037927935] W fun e w' => e = .returned (.bool true) ∧ W = w')) (HW3 : Hid (∀ W : World, Calls Try.prog 40 #[.int .i64 cop, .int .i64 0, .int .i64 72057594037927935] W fun e w' => e = .returned (.bool true) ∧ W = w')) (HW4 : Hid (∀ W : World, Calls Try.prog 40 #[.int .i64 cview, .int .i64 0, .int .i64 72057594037927935] W fun e w' => e = .returned (.bool true) ∧ W = w')) (HW5 : Hid (∀ W : World, Calls Try.prog 40 #[.int .i64 who, .int .i64 1, .int .i64 count] W fun e w' => e = .returned (.bool true) ∧ W = w')) (HW6 : Hid (∀ W : World, Calls Try.prog 40 #[.int .i64 logV, .int .i64 0, .int .i64 view] W fun e w' => e = .returned (.bool true) ∧ W = w')) (HW7 : Hid (∀ W : World, Calls Try.prog 40 #[.int .i64 area, .int .i64 0, .int .i64 1] W fun e w' => e = .returned (.bool false) ∧ W = w')) :
    Calls Try.prog 12 #[.agg #[.int .i64 seq, .int .i64 who, .int .i64 count, .int .i64 view, .int .i64 logV, .int .i64 cop, .int .i64 cview, .int .u64 (csum : Int), .int .i64 area, .int .i64 size,
    .int .u64 (s0 : Int), .int .u64 (s1 : Int), .int .u64 (s2 : Int), .int .u64 (s3 : Int), .int .u64 (s4 : Int), .int .u64 (s5 : Int), .int .u64 (parent : Int)]] w (VE w (.bool false)) := by
  go_enter Try.func12, Try.ntmps12
  go_wp2_with (first
    | (go_at_call 40; refine (HW1.out _).mono ?_; rintro e w' ⟨rfl, rfl⟩; clear HW1)
    | (go_at_call 40; refine (HW2.out _).mono ?_; rintro e w' ⟨rfl, rfl⟩; clear HW2)
    | (go_at_call 40; refine (HW3.out _).mono ?_; rintro e w' ⟨rfl, rfl⟩; clear HW3)
    | (go_at_call 40; refine (HW4.out _).mono ?_; rintro e w' ⟨rfl, rfl⟩; clear HW4)
    | (go_at_call 40; refine (HW5.out _).mono ?_; rintro e w' ⟨rfl, rfl⟩; clear HW5)
    | (go_at_call 40; refine (HW6.out _).mono ?_; rintro e w' ⟨rfl, rfl⟩; clear HW6)
    | (go_at_call 40; refine (HW7.out _).mono ?_; rintro e w' ⟨rfl, rfl⟩; clear HW7))
  go_ret
  refine ⟨rfl, ?_⟩
  repeat' first | exact Below.refl _ _ | refine Below.alloc ?_ (by simp <;> omega) _
include seq who count view logV cop cview area size csum s0 s1 s2 s3 s4 s5 parent w in
set_option maxHeartbeats 2000000 in
theorem rright_8_3  (k3n : (count != 3) = false) (HW1 : Hid (∀ W : World, Calls Try.prog 40 #[.int .i64 seq, .int .i64 1, .int .i64 72057594037927935] W fun e w' => e = .returned (.bool true) ∧ W = w')) (HW2 : Hid (∀ W : World, Calls Try.prog 40 #[.int .i64 view, .int .i64 0, .int .i64 72057594037927935] W fun e w' => e = .returned (.bool true) ∧ W = w')) (HW3 : Hid (∀ W : World, Calls Try.prog 40 #[.int .i64 cop, .int .i64 0, .int .i64 72057594037927935] W fun e w' => e = .returned (.bool true) ∧ W = w')) (HW4 : Hid (∀ W : World, Calls Try.prog 40 #[.int .i64 cview, .int .i64 0, .int .i64 72057594037927935] W fun e w' => e = .returned (.bool true) ∧ W = w')) (HW5 : Hid (∀ W : World, Calls Try.prog 40 #[.int .i64 who, .int .i64 1, .int .i64 count] W fun e w' => e = .returned (.bool true) ∧ W = w')) (HW6 : Hid (∀ W : World, Calls Try.prog 40 #[.int .i64 logV, .int .i64 0, .int .i64 view] W fun e w' => e = .returned (.bool true) ∧ W = w')) (HW7 : Hid (∀ W : World, Calls Try.prog 40 #[.int .i64 area, .int .i64 0, .int .i64 1] W fun e w' => e = .returned (.bool true) ∧ W = w')) (HW8 : Hid (∀ W : World, Calls Try.prog 40 #[.int .i64 size, .int .i64 0, .int .i64 1920] W fun e w' => e = .returned (.bool false) ∧ W = w')) :
    Calls Try.prog 12 #[.agg #[.int .i64 seq, .int .i64 who, .int .i64 count, .int .i64 view, .int .i64 logV, .int .i64 cop, .int .i64 cview, .int .u64 (csum : Int), .int .i64 area, .int .i64 size,
    .int .u64 (s0 : Int), .int .u64 (s1 : Int), .int .u64 (s2 : Int), .int .u64 (s3 : Int), .int .u64 (s4 : Int), .int .u64 (s5 : Int), .int .u64 (parent : Int)]] w (VE w (.bool false)) := by
  go_enter Try.func12, Try.ntmps12
  go_wp2_with (first
    | (go_at_call 40; refine (HW1.out _).mono ?_; rintro e w' ⟨rfl, rfl⟩; clear HW1)
    | (go_at_call 40; refine (HW2.out _).mono ?_; rintro e w' ⟨rfl, rfl⟩; clear HW2)
    | (go_at_call 40; refine (HW3.out _).mono ?_; rintro e w' ⟨rfl, rfl⟩; clear HW3)
    | (go_at_call 40; refine (HW4.out _).mono ?_; rintro e w' ⟨rfl, rfl⟩; clear HW4)
    | (go_at_call 40; refine (HW5.out _).mono ?_; rintro e w' ⟨rfl, rfl⟩; clear HW5)
    | (go_at_call 40; refine (HW6.out _).mono ?_; rintro e w' ⟨rfl, rfl⟩; clear HW6)
    | (go_at_call 40; refine (HW7.out _).mono ?_; rintro e w' ⟨rfl, rfl⟩; clear HW7)
    | (go_at_call 40; refine (HW8.out _).mono ?_; rintro e w' ⟨rfl, rfl⟩; clear HW8))
  go_ret
  refine ⟨rfl, ?_⟩
  repeat' first | exact Below.refl _ _ | refine Below.alloc ?_ (by simp <;> omega) _
include seq who count view logV cop cview area size csum s0 s1 s2 s3 s4 s5 parent w in
set_option maxHeartbeats 2000000 in
theorem rright_9_3  (k3n : (count != 3) = false) (HW1 : Hid (∀ W : World, Calls Try.prog 40 #[.int .i64 seq, .int .i64 1, .int .i64 72057594037927935] W fun e w' => e = .returned (.bool true) ∧ W = w')) (HW2 : Hid (∀ W : World, Calls Try.prog 40 #[.int .i64 view, .int .i64 0, .int .i64 72057594037927935] W fun e w' => e = .returned (.bool true) ∧ W = w')) (HW3 : Hid (∀ W : World, Calls Try.prog 40 #[.int .i64 cop, .int .i64 0, .int .i64 72057594037927935] W fun e w' => e = .returned (.bool true) ∧ W = w')) (HW4 : Hid (∀ W : World, Calls Try.prog 40 #[.int .i64 cview, .int .i64 0, .int .i64 72057594037927935] W fun e w' => e = .returned (.bool true) ∧ W = w')) (HW5 : Hid (∀ W : World, Calls Try.prog 40 #[.int .i64 who, .int .i64 1, .int .i64 count] W fun e w' => e = .returned (.bool true) ∧ W = w')) (HW6 : Hid (∀ W : World, Calls Try.prog 40 #[.int .i64 logV, .int .i64 0, .int .i64 view] W fun e w' => e = .returned (.bool true) ∧ W = w')) (HW7 : Hid (∀ W : World, Calls Try.prog 40 #[.int .i64 area, .int .i64 0, .int .i64 1] W fun e w' => e = .returned (.bool true) ∧ W = w')) (HW8 : Hid (∀ W : World, Calls Try.prog 40 #[.int .i64 size, .int .i64 0, .int .i64 1920] W fun e w' => e = .returned (.bool true) ∧ W = w')) :
    Calls Try.prog 12 #[.agg #[.int .i64 seq, .int .i64 who, .int .i64 count, .int .i64 view, .int .i64 logV, .int .i64 cop, .int .i64 cview, .int .u64 (csum : Int), .int .i64 area, .int .i64 size,
    .int .u64 (s0 : Int), .int .u64 (s1 : Int), .int .u64 (s2 : Int), .int .u64 (s3 : Int), .int .u64 (s4 : Int), .int .u64 (s5 : Int), .int .u64 (parent : Int)]] w (VE w (.bool true)) := by
  go_enter Try.func12, Try.ntmps12
  go_wp2_with (first
    | (go_at_call 40; refine (HW1.out _).mono ?_; rintro e w' ⟨rfl, rfl⟩; clear HW1)
    | (go_at_call 40; refine (HW2.out _).mono ?_; rintro e w' ⟨rfl, rfl⟩; clear HW2)
    | (go_at_call 40; refine (HW3.out _).mono ?_; rintro e w' ⟨rfl, rfl⟩; clear HW3)
    | (go_at_call 40; refine (HW4.out _).mono ?_; rintro e w' ⟨rfl, rfl⟩; clear HW4)
    | (go_at_call 40; refine (HW5.out _).mono ?_; rintro e w' ⟨rfl, rfl⟩; clear HW5)
    | (go_at_call 40; refine (HW6.out _).mono ?_; rintro e w' ⟨rfl, rfl⟩; clear HW6)
    | (go_at_call 40; refine (HW7.out _).mono ?_; rintro e w' ⟨rfl, rfl⟩; clear HW7)
    | (go_at_call 40; refine (HW8.out _).mono ?_; rintro e w' ⟨rfl, rfl⟩; clear HW8))
  go_ret
  refine ⟨rfl, ?_⟩
  repeat' first | exact Below.refl _ _ | refine Below.alloc ?_ (by simp <;> omega) _
include seq who count view logV cop cview area size csum s0 s1 s2 s3 s4 s5 parent w in
set_option maxHeartbeats 2000000 in
theorem rright_5_5  (k3n : (count != 3) = true) (k5n : (count != 5) = false) (HW1 : Hid (∀ W : World, Calls Try.prog 40 #[.int .i64 seq, .int .i64 1, .int .i64 72057594037927935] W fun e w' => e = .returned (.bool true) ∧ W = w')) (HW2 : Hid (∀ W : World, Calls Try.prog 40 #[.int .i64 view, .int .i64 0, .int .i64 72057594037927935] W fun e w' => e = .returned (.bool true) ∧ W = w')) (HW3 : Hid (∀ W : World, Calls Try.prog 40 #[.int .i64 cop, .int .i64 0, .int .i64 72057594037927935] W fun e w' => e = .returned (.bool true) ∧ W = w')) (HW4 : Hid (∀ W : World, Calls Try.prog 40 #[.int .i64 cview, .int .i64 0, .int .i64 72057594037927935] W fun e w' => e = .returned (.bool true) ∧ W = w')) (HW5 : Hid (∀ W : World, Calls Try.prog 40 #[.int .i64 who, .int .i64 1, .int .i64 count] W fun e w' => e = .returned (.bool false) ∧ W = w')) :
    Calls Try.prog 12 #[.agg #[.int .i64 seq, .int .i64 who, .int .i64 count, .int .i64 view, .int .i64 logV, .int .i64 cop, .int .i64 cview, .int .u64 (csum : Int), .int .i64 area, .int .i64 size,
    .int .u64 (s0 : Int), .int .u64 (s1 : Int), .int .u64 (s2 : Int), .int .u64 (s3 : Int), .int .u64 (s4 : Int), .int .u64 (s5 : Int), .int .u64 (parent : Int)]] w (VE w (.bool false)) := by
  go_enter Try.func12, Try.ntmps12
  go_wp2_with (first
    | (go_at_call 40; refine (HW1.out _).mono ?_; rintro e w' ⟨rfl, rfl⟩; clear HW1)
    | (go_at_call 40; refine (HW2.out _).mono ?_; rintro e w' ⟨rfl, rfl⟩; clear HW2)
    | (go_at_call 40; refine (HW3.out _).mono ?_; rintro e w' ⟨rfl, rfl⟩; clear HW3)
    | (go_at_call 40; refine (HW4.out _).mono ?_; rintro e w' ⟨rfl, rfl⟩; clear HW4)
    | (go_at_call 40; refine (HW5.out _).mono ?_; rintro e w' ⟨rfl, rfl⟩; clear HW5))
  go_ret
  refine ⟨rfl, ?_⟩
  repeat' first | exact Below.refl _ _ | refine Below.alloc ?_ (by simp <;> omega) _
include seq who count view logV cop cview area size csum s0 s1 s2 s3 s4 s5 parent w in
set_option maxHeartbeats 2000000 in
theorem rright_6_5  (k3n : (count != 3) = true) (k5n : (count != 5) = false) (HW1 : Hid (∀ W : World, Calls Try.prog 40 #[.int .i64 seq, .int .i64 1, .int .i64 72057594037927935] W fun e w' => e = .returned (.bool true) ∧ W = w')) (HW2 : Hid (∀ W : World, Calls Try.prog 40 #[.int .i64 view, .int .i64 0, .int .i64 72057594037927935] W fun e w' => e = .returned (.bool true) ∧ W = w')) (HW3 : Hid (∀ W : World, Calls Try.prog 40 #[.int .i64 cop, .int .i64 0, .int .i64 72057594037927935] W fun e w' => e = .returned (.bool true) ∧ W = w')) (HW4 : Hid (∀ W : World, Calls Try.prog 40 #[.int .i64 cview, .int .i64 0, .int .i64 72057594037927935] W fun e w' => e = .returned (.bool true) ∧ W = w')) (HW5 : Hid (∀ W : World, Calls Try.prog 40 #[.int .i64 who, .int .i64 1, .int .i64 count] W fun e w' => e = .returned (.bool true) ∧ W = w')) (HW6 : Hid (∀ W : World, Calls Try.prog 40 #[.int .i64 logV, .int .i64 0, .int .i64 view] W fun e w' => e = .returned (.bool false) ∧ W = w')) :
    Calls Try.prog 12 #[.agg #[.int .i64 seq, .int .i64 who, .int .i64 count, .int .i64 view, .int .i64 logV, .int .i64 cop, .int .i64 cview, .int .u64 (csum : Int), .int .i64 area, .int .i64 size,
    .int .u64 (s0 : Int), .int .u64 (s1 : Int), .int .u64 (s2 : Int), .int .u64 (s3 : Int), .int .u64 (s4 : Int), .int .u64 (s5 : Int), .int .u64 (parent : Int)]] w (VE w (.bool false)) := by
  go_enter Try.func12, Try.ntmps12
  go_wp2_with (first
    | (go_at_call 40; refine (HW1.out _).mono ?_; rintro e w' ⟨rfl, rfl⟩; clear HW1)
    | (go_at_call 40; refine (HW2.out _).mono ?_; rintro e w' ⟨rfl, rfl⟩; clear HW2)
    | (go_at_call 40; refine (HW3.out _).mono ?_; rintro e w' ⟨rfl, rfl⟩; clear HW3)
    | (go_at_call 40; refine (HW4.out _).mono ?_; rintro e w' ⟨rfl, rfl⟩; clear HW4)
    | (go_at_call 40; refine (HW5.out _).mono ?_; rintro e w' ⟨rfl, rfl⟩; clear HW5)
    | (go_at_call 40; refine (HW6.out _).mono ?_; rintro e w' ⟨rfl, rfl⟩; clear HW6))
  go_ret
  refine ⟨rfl, ?_⟩
  repeat' first | exact Below.refl _ _ | refine Below.alloc ?_ (by simp <;> omega) _
include seq who count view logV cop cview area size csum s0 s1 s2 s3 s4 s5 parent w in
set_option maxHeartbeats 2000000 in
theorem rright_7_5  (k3n : (count != 3) = true) (k5n : (count != 5) = false) (HW1 : Hid (∀ W : World, Calls Try.prog 40 #[.int .i64 seq, .int .i64 1, .int .i64 72057594037927935] W fun e w' => e = .returned (.bool true) ∧ W = w')) (HW2 : Hid (∀ W : World, Calls Try.prog 40 #[.int .i64 view, .int .i64 0, .int .i64 72057594037927935] W fun e w' => e = .returned (.bool true) ∧ W = w')) (HW3 : Hid (∀ W : World, Calls Try.prog 40 #[.int .i64 cop, .int .i64 0, .int .i64 72057594037927935] W fun e w' => e = .returned (.bool true) ∧ W = w')) (HW4 : Hid (∀ W : World, Calls Try.prog 40 #[.int .i64 cview, .int .i64 0, .int .i64 72057594037927935] W fun e w' => e = .returned (.bool true) ∧ W = w')) (HW5 : Hid (∀ W : World, Calls Try.prog 40 #[.int .i64 who, .int .i64 1, .int .i64 count] W fun e w' => e = .returned (.bool true) ∧ W = w')) (HW6 : Hid (∀ W : World, Calls Try.prog 40 #[.int .i64 logV, .int .i64 0, .int .i64 view] W fun e w' => e = .returned (.bool true) ∧ W = w')) (HW7 : Hid (∀ W : World, Calls Try.prog 40 #[.int .i64 area, .int .i64 0, .int .i64 1] W fun e w' => e = .returned (.bool false) ∧ W = w')) :
    Calls Try.prog 12 #[.agg #[.int .i64 seq, .int .i64 who, .int .i64 count, .int .i64 view, .int .i64 logV, .int .i64 cop, .int .i64 cview, .int .u64 (csum : Int), .int .i64 area, .int .i64 size,
    .int .u64 (s0 : Int), .int .u64 (s1 : Int), .int .u64 (s2 : Int), .int .u64 (s3 : Int), .int .u64 (s4 : Int), .int .u64 (s5 : Int), .int .u64 (parent : Int)]] w (VE w (.bool false)) := by
  go_enter Try.func12, Try.ntmps12
  go_wp2_with (first
    | (go_at_call 40; refine (HW1.out _).mono ?_; rintro e w' ⟨rfl, rfl⟩; clear HW1)
    | (go_at_call 40; refine (HW2.out _).mono ?_; rintro e w' ⟨rfl, rfl⟩; clear HW2)
    | (go_at_call 40; refine (HW3.out _).mono ?_; rintro e w' ⟨rfl, rfl⟩; clear HW3)
    | (go_at_call 40; refine (HW4.out _).mono ?_; rintro e w' ⟨rfl, rfl⟩; clear HW4)
    | (go_at_call 40; refine (HW5.out _).mono ?_; rintro e w' ⟨rfl, rfl⟩; clear HW5)
    | (go_at_call 40; refine (HW6.out _).mono ?_; rintro e w' ⟨rfl, rfl⟩; clear HW6)
    | (go_at_call 40; refine (HW7.out _).mono ?_; rintro e w' ⟨rfl, rfl⟩; clear HW7))
  go_ret
  refine ⟨rfl, ?_⟩
  repeat' first | exact Below.refl _ _ | refine Below.alloc ?_ (by simp <;> omega) _
include seq who count view logV cop cview area size csum s0 s1 s2 s3 s4 s5 parent w in
set_option maxHeartbeats 2000000 in
theorem rright_8_5  (k3n : (count != 3) = true) (k5n : (count != 5) = false) (HW1 : Hid (∀ W : World, Calls Try.prog 40 #[.int .i64 seq, .int .i64 1, .int .i64 72057594037927935] W fun e w' => e = .returned (.bool true) ∧ W = w')) (HW2 : Hid (∀ W : World, Calls Try.prog 40 #[.int .i64 view, .int .i64 0, .int .i64 72057594037927935] W fun e w' => e = .returned (.bool true) ∧ W = w')) (HW3 : Hid (∀ W : World, Calls Try.prog 40 #[.int .i64 cop, .int .i64 0, .int .i64 72057594037927935] W fun e w' => e = .returned (.bool true) ∧ W = w')) (HW4 : Hid (∀ W : World, Calls Try.prog 40 #[.int .i64 cview, .int .i64 0, .int .i64 72057594037927935] W fun e w' => e = .returned (.bool true) ∧ W = w')) (HW5 : Hid (∀ W : World, Calls Try.prog 40 #[.int .i64 who, .int .i64 1, .int .i64 count] W fun e w' => e = .returned (.bool true) ∧ W = w')) (HW6 : Hid (∀ W : World, Calls Try.prog 40 #[.int .i64 logV, .int .i64 0, .int .i64 view] W fun e w' => e = .returned (.bool true) ∧ W = w')) (HW7 : Hid (∀ W : World, Calls Try.prog 40 #[.int .i64 area, .int .i64 0, .int .i64 1] W fun e w' => e = .returned (.bool true) ∧ W = w')) (HW8 : Hid (∀ W : World, Calls Try.prog 40 #[.int .i64 size, .int .i64 0, .int .i64 1920] W fun e w' => e = .returned (.bool false) ∧ W = w')) :
    Calls Try.prog 12 #[.agg #[.int .i64 seq, .int .i64 who, .int .i64 count, .int .i64 view, .int .i64 logV, .int .i64 cop, .int .i64 cview, .int .u64 (csum : Int), .int .i64 area, .int .i64 size,
    .int .u64 (s0 : Int), .int .u64 (s1 : Int), .int .u64 (s2 : Int), .int .u64 (s3 : Int), .int .u64 (s4 : Int), .int .u64 (s5 : Int), .int .u64 (parent : Int)]] w (VE w (.bool false)) := by
  go_enter Try.func12, Try.ntmps12
  go_wp2_with (first
    | (go_at_call 40; refine (HW1.out _).mono ?_; rintro e w' ⟨rfl, rfl⟩; clear HW1)
    | (go_at_call 40; refine (HW2.out _).mono ?_; rintro e w' ⟨rfl, rfl⟩; clear HW2)
    | (go_at_call 40; refine (HW3.out _).mono ?_; rintro e w' ⟨rfl, rfl⟩; clear HW3)
    | (go_at_call 40; refine (HW4.out _).mono ?_; rintro e w' ⟨rfl, rfl⟩; clear HW4)
    | (go_at_call 40; refine (HW5.out _).mono ?_; rintro e w' ⟨rfl, rfl⟩; clear HW5)
    | (go_at_call 40; refine (HW6.out _).mono ?_; rintro e w' ⟨rfl, rfl⟩; clear HW6)
    | (go_at_call 40; refine (HW7.out _).mono ?_; rintro e w' ⟨rfl, rfl⟩; clear HW7)
    | (go_at_call 40; refine (HW8.out _).mono ?_; rintro e w' ⟨rfl, rfl⟩; clear HW8))
  go_ret
  refine ⟨rfl, ?_⟩
  repeat' first | exact Below.refl _ _ | refine Below.alloc ?_ (by simp <;> omega) _
include seq who count view logV cop cview area size csum s0 s1 s2 s3 s4 s5 parent w in
set_option maxHeartbeats 2000000 in
theorem rright_9_5  (k3n : (count != 3) = true) (k5n : (count != 5) = false) (HW1 : Hid (∀ W : World, Calls Try.prog 40 #[.int .i64 seq, .int .i64 1, .int .i64 72057594037927935] W fun e w' => e = .returned (.bool true) ∧ W = w')) (HW2 : Hid (∀ W : World, Calls Try.prog 40 #[.int .i64 view, .int .i64 0, .int .i64 72057594037927935] W fun e w' => e = .returned (.bool true) ∧ W = w')) (HW3 : Hid (∀ W : World, Calls Try.prog 40 #[.int .i64 cop, .int .i64 0, .int .i64 72057594037927935] W fun e w' => e = .returned (.bool true) ∧ W = w')) (HW4 : Hid (∀ W : World, Calls Try.prog 40 #[.int .i64 cview, .int .i64 0, .int .i64 72057594037927935] W fun e w' => e = .returned (.bool true) ∧ W = w')) (HW5 : Hid (∀ W : World, Calls Try.prog 40 #[.int .i64 who, .int .i64 1, .int .i64 count] W fun e w' => e = .returned (.bool true) ∧ W = w')) (HW6 : Hid (∀ W : World, Calls Try.prog 40 #[.int .i64 logV, .int .i64 0, .int .i64 view] W fun e w' => e = .returned (.bool true) ∧ W = w')) (HW7 : Hid (∀ W : World, Calls Try.prog 40 #[.int .i64 area, .int .i64 0, .int .i64 1] W fun e w' => e = .returned (.bool true) ∧ W = w')) (HW8 : Hid (∀ W : World, Calls Try.prog 40 #[.int .i64 size, .int .i64 0, .int .i64 1920] W fun e w' => e = .returned (.bool true) ∧ W = w')) :
    Calls Try.prog 12 #[.agg #[.int .i64 seq, .int .i64 who, .int .i64 count, .int .i64 view, .int .i64 logV, .int .i64 cop, .int .i64 cview, .int .u64 (csum : Int), .int .i64 area, .int .i64 size,
    .int .u64 (s0 : Int), .int .u64 (s1 : Int), .int .u64 (s2 : Int), .int .u64 (s3 : Int), .int .u64 (s4 : Int), .int .u64 (s5 : Int), .int .u64 (parent : Int)]] w (VE w (.bool true)) := by
  go_enter Try.func12, Try.ntmps12
  go_wp2_with (first
    | (go_at_call 40; refine (HW1.out _).mono ?_; rintro e w' ⟨rfl, rfl⟩; clear HW1)
    | (go_at_call 40; refine (HW2.out _).mono ?_; rintro e w' ⟨rfl, rfl⟩; clear HW2)
    | (go_at_call 40; refine (HW3.out _).mono ?_; rintro e w' ⟨rfl, rfl⟩; clear HW3)
    | (go_at_call 40; refine (HW4.out _).mono ?_; rintro e w' ⟨rfl, rfl⟩; clear HW4)
    | (go_at_call 40; refine (HW5.out _).mono ?_; rintro e w' ⟨rfl, rfl⟩; clear HW5)
    | (go_at_call 40; refine (HW6.out _).mono ?_; rintro e w' ⟨rfl, rfl⟩; clear HW6)
    | (go_at_call 40; refine (HW7.out _).mono ?_; rintro e w' ⟨rfl, rfl⟩; clear HW7)
    | (go_at_call 40; refine (HW8.out _).mono ?_; rintro e w' ⟨rfl, rfl⟩; clear HW8))
  go_ret
  refine ⟨rfl, ?_⟩
  repeat' first | exact Below.refl _ _ | refine Below.alloc ?_ (by simp <;> omega) _
include seq who count view logV cop cview area size csum s0 s1 s2 s3 s4 s5 parent w in
set_option maxHeartbeats 2000000 in
theorem rright_4x5_0  (k3n : (count != 3) = true) (k5n : (count != 5) = true) (HW1 : Hid (∀ W : World, Calls Try.prog 40 #[.int .i64 seq, .int .i64 1, .int .i64 72057594037927935] W fun e w' => e = .returned (.bool true) ∧ W = w')) (HW2 : Hid (∀ W : World, Calls Try.prog 40 #[.int .i64 view, .int .i64 0, .int .i64 72057594037927935] W fun e w' => e = .returned (.bool true) ∧ W = w')) (HW3 : Hid (∀ W : World, Calls Try.prog 40 #[.int .i64 cop, .int .i64 0, .int .i64 72057594037927935] W fun e w' => e = .returned (.bool true) ∧ W = w')) (HW4 : Hid (∀ W : World, Calls Try.prog 40 #[.int .i64 cview, .int .i64 0, .int .i64 72057594037927935] W fun e w' => e = .returned (.bool true) ∧ W = w')) :
    Calls Try.prog 12 #[.agg #[.int .i64 seq, .int .i64 who, .int .i64 count, .int .i64 view, .int .i64 logV, .int .i64 cop, .int .i64 cview, .int .u64 (csum : Int), .int .i64 area, .int .i64 size,
    .int .u64 (s0 : Int), .int .u64 (s1 : Int), .int .u64 (s2 : Int), .int .u64 (s3 : Int), .int .u64 (s4 : Int), .int .u64 (s5 : Int), .int .u64 (parent : Int)]] w (VE w (.bool false)) := by
  go_enter Try.func12, Try.ntmps12
  go_wp2_with (first
    | (go_at_call 40; refine (HW1.out _).mono ?_; rintro e w' ⟨rfl, rfl⟩; clear HW1)
    | (go_at_call 40; refine (HW2.out _).mono ?_; rintro e w' ⟨rfl, rfl⟩; clear HW2)
    | (go_at_call 40; refine (HW3.out _).mono ?_; rintro e w' ⟨rfl, rfl⟩; clear HW3)
    | (go_at_call 40; refine (HW4.out _).mono ?_; rintro e w' ⟨rfl, rfl⟩; clear HW4))
  go_ret
  refine ⟨rfl, ?_⟩
  repeat' first | exact Below.refl _ _ | refine Below.alloc ?_ (by simp <;> omega) _
include seq who count view logV cop cview area size csum s0 s1 s2 s3 s4 s5 parent w in
set_option maxHeartbeats 2000000 in
theorem rright_1_None  (HW1 : Hid (∀ W : World, Calls Try.prog 40 #[.int .i64 seq, .int .i64 1, .int .i64 72057594037927935] W fun e w' => e = .returned (.bool false) ∧ W = w')) :
    Calls Try.prog 12 #[.agg #[.int .i64 seq, .int .i64 who, .int .i64 count, .int .i64 view, .int .i64 logV, .int .i64 cop, .int .i64 cview, .int .u64 (csum : Int), .int .i64 area, .int .i64 size,
    .int .u64 (s0 : Int), .int .u64 (s1 : Int), .int .u64 (s2 : Int), .int .u64 (s3 : Int), .int .u64 (s4 : Int), .int .u64 (s5 : Int), .int .u64 (parent : Int)]] w (VE w (.bool false)) := by
  go_enter Try.func12, Try.ntmps12
  go_wp2_with (first
    | (go_at_call 40; refine (HW1.out _).mono ?_; rintro e w' ⟨rfl, rfl⟩; clear HW1))
  go_ret
  refine ⟨rfl, ?_⟩
  repeat' first | exact Below.refl _ _ | refine Below.alloc ?_ (by simp <;> omega) _
include seq who count view logV cop cview area size csum s0 s1 s2 s3 s4 s5 parent w in
set_option maxHeartbeats 2000000 in
theorem rright_2_None  (HW1 : Hid (∀ W : World, Calls Try.prog 40 #[.int .i64 seq, .int .i64 1, .int .i64 72057594037927935] W fun e w' => e = .returned (.bool true) ∧ W = w')) (HW2 : Hid (∀ W : World, Calls Try.prog 40 #[.int .i64 view, .int .i64 0, .int .i64 72057594037927935] W fun e w' => e = .returned (.bool false) ∧ W = w')) :
    Calls Try.prog 12 #[.agg #[.int .i64 seq, .int .i64 who, .int .i64 count, .int .i64 view, .int .i64 logV, .int .i64 cop, .int .i64 cview, .int .u64 (csum : Int), .int .i64 area, .int .i64 size,
    .int .u64 (s0 : Int), .int .u64 (s1 : Int), .int .u64 (s2 : Int), .int .u64 (s3 : Int), .int .u64 (s4 : Int), .int .u64 (s5 : Int), .int .u64 (parent : Int)]] w (VE w (.bool false)) := by
  go_enter Try.func12, Try.ntmps12
  go_wp2_with (first
    | (go_at_call 40; refine (HW1.out _).mono ?_; rintro e w' ⟨rfl, rfl⟩; clear HW1)
    | (go_at_call 40; refine (HW2.out _).mono ?_; rintro e w' ⟨rfl, rfl⟩; clear HW2))
  go_ret
  refine ⟨rfl, ?_⟩
  repeat' first | exact Below.refl _ _ | refine Below.alloc ?_ (by simp <;> omega) _
include seq who count view logV cop cview area size csum s0 s1 s2 s3 s4 s5 parent w in
set_option maxHeartbeats 2000000 in
theorem rright_3_None  (HW1 : Hid (∀ W : World, Calls Try.prog 40 #[.int .i64 seq, .int .i64 1, .int .i64 72057594037927935] W fun e w' => e = .returned (.bool true) ∧ W = w')) (HW2 : Hid (∀ W : World, Calls Try.prog 40 #[.int .i64 view, .int .i64 0, .int .i64 72057594037927935] W fun e w' => e = .returned (.bool true) ∧ W = w')) (HW3 : Hid (∀ W : World, Calls Try.prog 40 #[.int .i64 cop, .int .i64 0, .int .i64 72057594037927935] W fun e w' => e = .returned (.bool false) ∧ W = w')) :
    Calls Try.prog 12 #[.agg #[.int .i64 seq, .int .i64 who, .int .i64 count, .int .i64 view, .int .i64 logV, .int .i64 cop, .int .i64 cview, .int .u64 (csum : Int), .int .i64 area, .int .i64 size,
    .int .u64 (s0 : Int), .int .u64 (s1 : Int), .int .u64 (s2 : Int), .int .u64 (s3 : Int), .int .u64 (s4 : Int), .int .u64 (s5 : Int), .int .u64 (parent : Int)]] w (VE w (.bool false)) := by
  go_enter Try.func12, Try.ntmps12
  go_wp2_with (first
    | (go_at_call 40; refine (HW1.out _).mono ?_; rintro e w' ⟨rfl, rfl⟩; clear HW1)
    | (go_at_call 40; refine (HW2.out _).mono ?_; rintro e w' ⟨rfl, rfl⟩; clear HW2)
    | (go_at_call 40; refine (HW3.out _).mono ?_; rintro e w' ⟨rfl, rfl⟩; clear HW3))
  go_ret
  refine ⟨rfl, ?_⟩
  repeat' first | exact Below.refl _ _ | refine Below.alloc ?_ (by simp <;> omega) _
include seq who count view logV cop cview area size csum s0 s1 s2 s3 s4 s5 parent w in
set_option maxHeartbeats 2000000 in
theorem rright_4_None  (HW1 : Hid (∀ W : World, Calls Try.prog 40 #[.int .i64 seq, .int .i64 1, .int .i64 72057594037927935] W fun e w' => e = .returned (.bool true) ∧ W = w')) (HW2 : Hid (∀ W : World, Calls Try.prog 40 #[.int .i64 view, .int .i64 0, .int .i64 72057594037927935] W fun e w' => e = .returned (.bool true) ∧ W = w')) (HW3 : Hid (∀ W : World, Calls Try.prog 40 #[.int .i64 cop, .int .i64 0, .int .i64 72057594037927935] W fun e w' => e = .returned (.bool true) ∧ W = w')) (HW4 : Hid (∀ W : World, Calls Try.prog 40 #[.int .i64 cview, .int .i64 0, .int .i64 72057594037927935] W fun e w' => e = .returned (.bool false) ∧ W = w')) :
    Calls Try.prog 12 #[.agg #[.int .i64 seq, .int .i64 who, .int .i64 count, .int .i64 view, .int .i64 logV, .int .i64 cop, .int .i64 cview, .int .u64 (csum : Int), .int .i64 area, .int .i64 size,
    .int .u64 (s0 : Int), .int .u64 (s1 : Int), .int .u64 (s2 : Int), .int .u64 (s3 : Int), .int .u64 (s4 : Int), .int .u64 (s5 : Int), .int .u64 (parent : Int)]] w (VE w (.bool false)) := by
  go_enter Try.func12, Try.ntmps12
  go_wp2_with (first
    | (go_at_call 40; refine (HW1.out _).mono ?_; rintro e w' ⟨rfl, rfl⟩; clear HW1)
    | (go_at_call 40; refine (HW2.out _).mono ?_; rintro e w' ⟨rfl, rfl⟩; clear HW2)
    | (go_at_call 40; refine (HW3.out _).mono ?_; rintro e w' ⟨rfl, rfl⟩; clear HW3)
    | (go_at_call 40; refine (HW4.out _).mono ?_; rintro e w' ⟨rfl, rfl⟩; clear HW4))
  go_ret
  refine ⟨rfl, ?_⟩
  repeat' first | exact Below.refl _ _ | refine Below.alloc ?_ (by simp <;> omega) _
end
theorem rright_any (s : Su) (w : World) : Calls Try.prog 12 #[s.val] w (VE w (.bool (decide (SR s)))) := by
  rw [sr_ref s]
  have HW1 := hid (fits_any s.seq 1 72057594037927935)
  have HW2 := hid (fits_any s.view 0 72057594037927935)
  have HW3 := hid (fits_any s.cop 0 72057594037927935)
  have HW4 := hid (fits_any s.cview 0 72057594037927935)
  have HW5 := hid (fits_any s.who 1 s.count)
  have HW6 := hid (fits_any s.logV 0 s.view)
  have HW7 := hid (fits_any s.area 0 1)
  have HW8 := hid (fits_any s.size 0 1920)
  generalize wi 1 72057594037927935 [s.seq] = b1 at *
  generalize wi 0 72057594037927935 [s.view] = b2 at *
  generalize wi 0 72057594037927935 [s.cop] = b3 at *
  generalize wi 0 72057594037927935 [s.cview] = b4 at *
  generalize wi 1 s.count [s.who] = b5 at *
  generalize wi 0 s.view [s.logV] = b6 at *
  generalize wi 0 1 [s.area] = b7 at *
  generalize wi 0 1920 [s.size] = b8 at *
  obtain ⟨seq, who, count, view, logV, cop, cview, csum, area, size, s0, s1, s2, s3, s4, s5, parent⟩ := s
  simp only [Su.val, Su.cells] at *
  cases b1
  case false =>
    exact rright_1_None seq who count view logV cop cview area size csum s0 s1 s2 s3 s4 s5 parent w HW1
  case true =>
    cases b2
    case false =>
      exact rright_2_None seq who count view logV cop cview area size csum s0 s1 s2 s3 s4 s5 parent w HW1 HW2
    case true =>
      cases b3
      case false =>
        exact rright_3_None seq who count view logV cop cview area size csum s0 s1 s2 s3 s4 s5 parent w HW1 HW2 HW3
      case true =>
        cases b4
        case false =>
          exact rright_4_None seq who count view logV cop cview area size csum s0 s1 s2 s3 s4 s5 parent w HW1 HW2 HW3 HW4
        case true =>
          by_cases h3 : count = 3
          · have k3n : (count != 3) = false := by simp [h3]
            rw [decide_eq_true h3]
            cases b5
            case false =>
              exact rright_5_3 seq who count view logV cop cview area size csum s0 s1 s2 s3 s4 s5 parent w k3n HW1 HW2 HW3 HW4 HW5
            case true =>
              cases b6
              case false =>
                exact rright_6_3 seq who count view logV cop cview area size csum s0 s1 s2 s3 s4 s5 parent w k3n HW1 HW2 HW3 HW4 HW5 HW6
              case true =>
                cases b7
                case false =>
                  exact rright_7_3 seq who count view logV cop cview area size csum s0 s1 s2 s3 s4 s5 parent w k3n HW1 HW2 HW3 HW4 HW5 HW6 HW7
                case true =>
                  cases b8
                  case false =>
                    exact rright_8_3 seq who count view logV cop cview area size csum s0 s1 s2 s3 s4 s5 parent w k3n HW1 HW2 HW3 HW4 HW5 HW6 HW7 HW8
                  case true =>
                    exact rright_9_3 seq who count view logV cop cview area size csum s0 s1 s2 s3 s4 s5 parent w k3n HW1 HW2 HW3 HW4 HW5 HW6 HW7 HW8
          · have k3n : (count != 3) = true := by simp [h3]
            rw [decide_eq_false h3]
            by_cases h5 : count = 5
            · have k5n : (count != 5) = false := by simp [h5]
              rw [decide_eq_true h5]
              cases b5
              case false =>
                exact rright_5_5 seq who count view logV cop cview area size csum s0 s1 s2 s3 s4 s5 parent w k3n k5n HW1 HW2 HW3 HW4 HW5
              case true =>
                cases b6
                case false =>
                  exact rright_6_5 seq who count view logV cop cview area size csum s0 s1 s2 s3 s4 s5 parent w k3n k5n HW1 HW2 HW3 HW4 HW5 HW6
                case true =>
                  cases b7
                  case false =>
                    exact rright_7_5 seq who count view logV cop cview area size csum s0 s1 s2 s3 s4 s5 parent w k3n k5n HW1 HW2 HW3 HW4 HW5 HW6 HW7
                  case true =>
                    cases b8
                    case false =>
                      exact rright_8_5 seq who count view logV cop cview area size csum s0 s1 s2 s3 s4 s5 parent w k3n k5n HW1 HW2 HW3 HW4 HW5 HW6 HW7 HW8
                    case true =>
                      exact rright_9_5 seq who count view logV cop cview area size csum s0 s1 s2 s3 s4 s5 parent w k3n k5n HW1 HW2 HW3 HW4 HW5 HW6 HW7 HW8
            · have k5n : (count != 5) = true := by simp [h5]
              rw [decide_eq_false h5]
              exact rright_4x5_0 seq who count view logV cop cview area size csum s0 s1 s2 s3 s4 s5 parent w k3n k5n HW1 HW2 HW3 HW4
end Go.Proofs.Ytogchfpecbmocaa
/-
  The walks of package super's numbers, superOf.
-/
namespace Go.Proofs.Ytogchfpecbmocaa
open Go.RowKit
set_option maxRecDepth 10000

theorem name_wp {P : Program} {c : Code} {Q : Exit → Act → World → Prop} {a : Act} {W : World} (h : ∀ w3, w3 = W → Code.wp P c Q a w3) : Code.wp P c Q a W := h W rfl
theorem alloc3_new (w : World) (o1 o2 o3 : Obj) : (((w.alloc o1).alloc o2).alloc o3).heap[w.heap.size + 1 + 1]? = some o3 := by
  have := heap_alloc_new ((w.alloc o1).alloc o2) o3
  simpa using this
theorem alloc3_mid (w : World) (o1 o2 o3 : Obj) : (((w.alloc o1).alloc o2).alloc o3).heap[w.heap.size + 1]? = some o2 :=
  (Below.heap_alloc _ _ _ (by simp)).trans (alloc2_new w o1 o2)
theorem alloc3_old (w : World) (o1 o2 o3 : Obj) : (((w.alloc o1).alloc o2).alloc o3).heap[w.heap.size]? = some o1 :=
  (Below.heap_alloc _ _ _ (by simp; omega)).trans ((Below.heap_alloc _ _ _ (by simp)).trans (heap_alloc_new w o1))
set_option maxHeartbeats 2000000 in
theorem numbers_any (s : Su) (w : World) : Calls Try.prog 36 #[s.val] w (VE w (.agg (av s.nums).toArray)) := by
  obtain ⟨seq, who, count, view, logV, cop, cview, csum, area, size, s0, s1, s2, s3, s4, s5, parent⟩ := s
  show Calls Try.prog 36 #[.agg #[.int .i64 seq, .int .i64 who, .int .i64 count, .int .i64 view, .int .i64 logV, .int .i64 cop, .int .i64 cview, .int .u64 (csum : Int), .int .i64 area, .int .i64 size,
    .int .u64 (s0 : Int), .int .u64 (s1 : Int), .int .u64 (s2 : Int), .int .u64 (s3 : Int), .int .u64 (s4 : Int), .int .u64 (s5 : Int), .int .u64 (parent : Int)]] w _
  have e : av (Su.nums ⟨seq, who, count, view, logV, cop, cview, csum, area, size, s0, s1, s2, s3, s4, s5, parent⟩) = [.int .u64 (IntKind.u64.wrap seq), .int .u64 (IntKind.u64.wrap who), .int .u64 (IntKind.u64.wrap count), .int .u64 (IntKind.u64.wrap view),
      .int .u64 (IntKind.u64.wrap logV), .int .u64 (IntKind.u64.wrap cop), .int .u64 (IntKind.u64.wrap cview), .int .u64 csum, .int .u64 (IntKind.u64.wrap area), .int .u64 (IntKind.u64.wrap size), .int .u64 s0, .int .u64 s1, .int .u64 s2, .int .u64 s3, .int .u64 s4, .int .u64 s5, .int .u64 parent] := by
    simp [av, Su.nums, un_wrap]
  generalize av (Su.nums ⟨seq, who, count, view, logV, cop, cview, csum, area, size, s0, s1, s2, s3, s4, s5, parent⟩) = C at *
  have HE := hid e
  clear e
  go_enter Try.func36, Try.ntmps36
  go_wp2_with fail
  refine name_wp (fun w3 hw3 => ?_)
  have r0 : Row w3 w.heap.size 27 [.int .i64 seq, .int .i64 who, .int .i64 count, .int .i64 view, .int .i64 logV, .int .i64 cop, .int .i64 cview, .int .u64 (csum : Int), .int .i64 area, .int .i64 size,
    .int .u64 (s0 : Int), .int .u64 (s1 : Int), .int .u64 (s2 : Int), .int .u64 (s3 : Int), .int .u64 (s4 : Int), .int .u64 (s5 : Int), .int .u64 (parent : Int)] := by rw [hw3]; exact alloc3_old _ _ _ _
  have r1 : Row w3 (w.heap.size + 1) 70 (List.replicate 17 (.int .u64 0)) := by rw [hw3]; exact alloc3_mid _ _ _ _
  have r2 : Row w3 (w.heap.size + 1 + 1) 70 [.int .u64 (IntKind.u64.wrap seq), .int .u64 (IntKind.u64.wrap who), .int .u64 (IntKind.u64.wrap count), .int .u64 (IntKind.u64.wrap view),
      .int .u64 (IntKind.u64.wrap logV), .int .u64 (IntKind.u64.wrap cop), .int .u64 (IntKind.u64.wrap cview), .int .u64 csum, .int .u64 (IntKind.u64.wrap area), .int .u64 (IntKind.u64.wrap size), .int .u64 0, .int .u64 0, .int .u64 0, .int .u64 0, .int .u64 0, .int .u64 0, .int .u64 parent] := by rw [hw3]; exact alloc3_new _ _ _ _
  have hb : Below w.heap.size w w3 := by rw [hw3]; exact (((Below.refl _ _).alloc (Nat.le_refl _) _).alloc (by simp) _).alloc (by simp; omega) _
  clear hw3
  have hz := r2.lt
  have H1 := hid r1
  have HB := hid hb
  have f1 : Hid (Rd w3.drew w3.heap.size (some ⟨w.heap.size, 10, none⟩) [.int .u64 (s0 : Int), .int .u64 (s1 : Int), .int .u64 (s2 : Int), .int .u64 (s3 : Int), .int .u64 (s4 : Int), .int .u64 (s5 : Int)]) := hid ((r0.rdCut (B := w3.heap.size) r0.lt 10 6).drew)
  have f2 : Hid (([.int .u64 (s0 : Int), .int .u64 (s1 : Int), .int .u64 (s2 : Int), .int .u64 (s3 : Int), .int .u64 (s4 : Int), .int .u64 (s5 : Int)] : List Value).length = Nat.min 6 6) := hid rfl
  have f3 : Hid (0 < ([.int .u64 (s0 : Int), .int .u64 (s1 : Int), .int .u64 (s2 : Int), .int .u64 (s3 : Int), .int .u64 (s4 : Int), .int .u64 (s5 : Int)] : List Value).length → (some (⟨w.heap.size + 1 + 1, 10, none⟩ : Addr)) = some ⟨w.heap.size + 1 + 1, 10, none⟩) := hid (fun _ => rfl)
  have f5 : Hid (∀ v ∈ ([.int .u64 (s0 : Int), .int .u64 (s1 : Int), .int .u64 (s2 : Int), .int .u64 (s3 : Int), .int .u64 (s4 : Int), .int .u64 (s5 : Int)] : List Value), v.oneCell' = true) := hid (by simp [Value.oneCell'])
  clear r0 r1 hb
  go_region_law (refine step_of_wpo rfl (wpo_copy (.tmp 39) (.tmp 41) 105 105 rfl 22 Try.underlying105 (by kernel_rfl) (some ⟨w.heap.size + 1 + 1, 10, none⟩) (some ⟨w.heap.size, 10, none⟩) 6 7 6 6 (by simp [Act.eval, Act.put]) (by simp [Act.eval, Act.put]) (w.heap.size + 1 + 1) 10 _ 70 r2 _ _ (fun w4 HR4 HB4 => ?_) f1 f2 f3 (hid (by simp)) f5))
  simp only [splice, List.take, List.drop, List.cons_append, List.nil_append, List.length_cons, List.length_nil, Nat.reduceAdd] at HR4
  rw [← HE.out] at HR4
  have H4 := hid HR4
  have H1' := hid ((H1.out.drew).grown HB4 (by simp))
  have HB5 := hid (HB.out.drew.trans (below_grown (B := w.heap.size) HB4 (by omega) (by show w.heap.size ≤ w3.heap.size; omega)))
  have HS : Hid (C.toArray.size = 17) := hid (by rw [HE.out]; rfl)
  have HO : Hid (C.toArray.all (·.oneCell') = true) := hid (by rw [HE.out]; simp [Value.oneCell'])
  clear HR4 HB4 f1 f2 f3 f5 r2 H1 HB HE
  go_wp2_with (first
    | (refine wpList_load_row rfl 70 (.tmp 3) rfl (w.heap.size + 1 + 1) rfl 70 C.toArray (0, 0) _ H4.out Try.underlying70 rfl (by rw [HS.out]; kernel_rfl) ?_)
    | (refine wpl_store_st rfl (.tmp 2) (.tmp 43) rfl (n := 17) (by kernel_rfl) (w.heap.size + 1) (List.replicate 17 (.int .u64 0)).toArray C.toArray rfl rfl H1'.out ?_ (hid rfl) HS HO; intro w5 HR5 HB6))
  exact bodyPost_ret (v := .agg C.toArray) (results_cell_row rfl _ _ (w.heap.size + 1) 70 C.toArray (0, 0) _ rfl HR5 Try.underlying70 rfl (by rw [HS.out]; kernel_rfl)) rfl
    ⟨rfl, HB5.out.trans (below_grown HB6 (by omega) (HB5.out.size))⟩
end Go.Proofs.Ytogchfpecbmocaa
/-
  The walk of package super's take.
-/
namespace Go.Proofs.Ytogchfpecbmocaa
open Go.RowKit
set_option maxRecDepth 10000

/-- the numbers of the first k places, noughts behind them -/
def tkw (s : List UInt8) (k : Nat) : List Nat := (List.range k).map (tn s) ++ List.replicate (17 - k) 0
theorem tkw_len (s : List UInt8) (k : Nat) (h : k ≤ 17) : (tkw s k).length = 17 := by simp [tkw]; omega
theorem tkw_end (s : List UInt8) : tkw s 17 = takeU s := by simp [tkw, takeU]
theorem tkw_zero (s : List UInt8) : tkw s 0 = List.replicate 17 0 := by simp [tkw]
theorem tkw_set (s : List UInt8) (k : Nat) (h : k < 17) : (tkw s k).set k (tn s k) = tkw s (k + 1) := by
  have h1 : ((List.range k).map (tn s)).length = k := by simp
  unfold tkw
  rw [List.set_append_right _ _ (by rw [h1]; omega), h1, Nat.sub_self, show 17 - k = (17 - (k + 1)) + 1 by omega, List.replicate_succ, List.set_cons_zero, List.range_succ, List.map_append, List.append_assoc]
  rfl
theorem take_at (A : Option Addr) (bs : List UInt8) (n c k B : Nat) (W : World) (hr : Rd W B A (bvs bs)) (hn : n = bs.length) (hl : bs.length = 136) (hc : n ≤ c) (hk : k < 17) (hB : B ≤ W.heap.size) :
    Calls Try.prog 64 #[.slice A n c, .int .i64 ((8 * k : Nat) : Int), .int .i64 8] W
    fun e w' => e = .returned (.tuple #[.int .u64 ((tn bs k : Nat) : Int), .int .i64 0]) ∧ Below W.heap.size W w' := by
  have h := take_any A bs n c B ((8 * k : Nat) : Int) 8 W hr hn (by omega) hc hB
  have e : takeS bs ((8 * k : Nat) : Int) 8 = (tn bs k, 0) := by
    unfold takeS
    rw [if_neg (by omega), if_neg (by omega)]
    rfl
  rw [e] at h
  exact h
set_option maxHeartbeats 1000000 in
theorem stake_any (A : Option Addr) (bs : List UInt8) (n c B : Nat) (w : World) (hr : Rd w B A (bvs bs)) (hn : n = bs.length) (hl : bs.length = 136) (hc : n ≤ c) (hB : B ≤ w.heap.size) :
    Calls Try.prog 44 #[.slice A n c] w (VE w (.agg (av (takeU bs)).toArray)) := by
  have HRD := hid hr
  have HN := hid hn
  have HL := hid hl
  have HT : Hid ((av (takeU bs)).toArray.size = 17) := hid (by simp [av, takeU])
  clear hr hn hl
  go_enter Try.func44, Try.ntmps44
  go_wp2_with fail
  refine name_wp (fun w1 hw1 => ?_)
  have hr0 : Row w1 w.heap.size 70 (av (List.replicate 17 0)) := by rw [hw1]; exact (Row.new w 70 (av (List.replicate 17 0)).toArray).alloc _
  have hr1 : Row w1 (w.heap.size + 1) 70 (av (tkw bs 0)) := by
    rw [tkw_zero, hw1]
    exact alloc2_new _ _ _
  have hbe : Below w.heap.size w w1 := by rw [hw1]; exact ((Below.refl _ _).alloc (Nat.le_refl _) _).alloc (by simp) _
  clear hw1
  have HE := hid hbe
  have H0 := hid hr0
  have H1 := hid hr1
  clear hbe hr0 hr1
  go_loopw [5] (fun i wr => ∃ k : Nat, k ≤ 17 ∧ i = .int .i64 k ∧ Row wr w.heap.size 70 (av (List.replicate 17 0)) ∧ Row wr (w.heap.size + 1) 70 (av (tkw bs k)) ∧ Below w.heap.size w wr) (fun i _ => 17 - (intOf i).toNat)
  case atStart => exact ⟨0, by omega, rfl, H0.out, H1.out, HE.out⟩
  case round =>
    obtain ⟨k, hk, rfl, h0, h1, hbe⟩ := hrel
    have HE := hid hbe
    have H0 := hid h0
    have H1 := hid h1
    have hsz := h1.lt
    by_cases hlt : k < 17
    · have HP := hid (take_at A bs n c k B wr (HRD.out.below hbe hB) HN.out HL.out hc hlt (by have := hbe.size; omega))
      rw [show ((8 * k : Nat) : Int) = (k : Int) * 8 by omega] at HP
      have HK : Hid (∀ W : World, Below wr.heap.size wr W → W.cell? ⟨w.heap.size + 1, k, none⟩ = some (.int .u64 (((tkw bs k)[k]'(by rw [tkw_len _ _ hk]; exact hlt) : Nat) : Int)) ∧ W.frozen? ⟨w.heap.size + 1, k, none⟩ = false ∧
          Row (W.setCell ⟨w.heap.size + 1, k, none⟩ (.int .u64 ((tn bs k : Nat) : Int))) (w.heap.size + 1) 70 (av (tkw bs (k + 1)))) := hid fun W hb => by
        have h1 := H1.out.below hb (by omega)
        refine ⟨?_, h1.frozen _, ?_⟩
        · rw [h1.cell]
          exact av_get _ k (by rw [tkw_len _ _ hk]; exact hlt)
        · have := h1.set_ k (.int .u64 ((tn bs k : Nat) : Int))
          rw [av_set, tkw_set _ _ hlt] at this
          exact this
      generalize (tkw bs k)[k]'(by rw [tkw_len _ _ hk]; exact hlt) = y at HK
      generalize tn bs k = x at HP HK
      clear hbe h0 h1
      go_wp2_with (go_at_call 64; refine HP.out.mono ?_; rintro e w2 ⟨rfl, hb2⟩; obtain ⟨q1, q2, q4⟩ := HK.out w2 hb2; have Q4 := hid q4; clear q4)
      have hsz2 := hb2.size
      exact ⟨⟨k + 1, by omega, by go_num, (H0.out.below hb2 (by omega)).far (by simp) _, Q4.out, (HE.out.trans (hb2.mono (by omega))).setCell (by simp) _⟩, by simp [intOf]; omega⟩
    · obtain rfl : k = 17 := by omega
      rw [tkw_end] at h1
      have H1 := hid h1
      clear h0 h1 hbe
      go_wp2_with (first
        | (refine wpList_load_row rfl 70 (.tmp 3) rfl (w.heap.size + 1) rfl 70 (av (takeU bs)).toArray (0, 0) _ H1.out Try.underlying70 rfl (by rw [HT.out]; kernel_rfl) ?_)
        | (refine wpl_store_st rfl (.tmp 2) (.tmp 18) rfl (n := 17) (by kernel_rfl) w.heap.size (av (List.replicate 17 0)).toArray (av (takeU bs)).toArray rfl rfl H0.out ?_ (hid (by simp [av])) HT (hid (by rw [Array.all_eq_true']; intro u hu; exact av_one _ u (by simpa using hu))); intro w5 HR5 HB6))
      exact bodyPost_ret (v := .agg (av (takeU bs)).toArray) (results_cell_row rfl _ _ w.heap.size 70 (av (takeU bs)).toArray (0, 0) _ rfl HR5 Try.underlying70 rfl (by rw [HT.out]; kernel_rfl)) rfl
        ⟨rfl, HE.out.trans (below_grown HB6 (Nat.le_refl _) (HE.out.size))⟩
end Go.Proofs.Ytogchfpecbmocaa
/-
  The walk of package super's Pack.
-/
namespace Go.Proofs.Ytogchfpecbmocaa
open Go.RowKit
set_option maxRecDepth 10000

theorem nb_take (l : List Nat) (k : Nat) (h : k < l.length) : nb (l.take (k + 1)) = nb (l.take k) ++ le l[k] 8 := by
  rw [List.take_succ_eq_append_getElem h, nb_app]
  simp [nb]
theorem nbt_len (l : List Nat) (k : Nat) (h : k ≤ l.length) : (nb (l.take k)).length = 8 * k := by rw [nb_len, List.length_take, Nat.min_eq_left h]
/-- Put of eight bytes -/
theorem put_eight (A : Option Addr) (bs : List UInt8) (m c n B : Nat) (W : World) (hr : Rd W B A (bvs bs)) (hm : m = bs.length) (hn : U64 n) (hB : B ≤ W.heap.size) (hl : m ≤ 140737488351232) :
    Calls Try.prog 37 #[.slice A m c, .int .u64 (n : Int), .int .i64 8] W
    fun e w' => ∃ A c, e = .returned (.tuple #[.slice A (m + 8) c, .int .i64 0]) ∧ w'.ownsRow W.heap.size 5 1 (.slice A (m + 8) c) (m + 8) (bvs (bs ++ le n 8)) ∧ Below W.heap.size W w' := by
  subst hm
  have h := put_any A bs bs.length c n B 8 W hr rfl hB hl
  have e : putS bs n 8 = (bs ++ le n 8, 0) := by
    unfold putS
    rw [if_pos ⟨by omega, by omega, Nat.div_eq_of_lt (by simpa using hn)⟩]
    rfl
  rw [e] at h
  exact h.mono fun e w' hh => BE.len hh (by simp [le_len])
set_option maxHeartbeats 1000000 in
theorem spack_any (s : Su) (hf : s.fits) (w : World) : Calls Try.prog 9 #[s.val] w (SN w (packU s)) := by
  have HR : Hid (∀ W, Calls Try.prog 11 #[.agg s.cells] W (VE W (.bool (decide (SR s))))) := hid (fun W => right_any s W)
  have HNm : Hid (∀ W, Calls Try.prog 36 #[.agg s.cells] W (VE W (.agg (av s.nums).toArray))) := hid (fun W => numbers_any s W)
  have HL := hid (nums_len s)
  have H64 : Hid (∀ k (hk : k < s.nums.length), U64 s.nums[k]) := hid (fun k hk => nums_lt s hf _ (List.getElem_mem hk))
  have HSZ : Hid (s.cells.size = 17) := hid rfl
  have e0 : packU s = if SR s then (nb s.nums, 0) else ([], 4) := rfl
  rw [e0]
  show Calls Try.prog 9 #[.agg s.cells] w _
  generalize s.cells = C at *
  generalize s.nums = l at *
  by_cases h : SR s
  · rw [decide_eq_true h] at HR
    rw [if_pos h]
    clear e0 h hf
    go_enter Try.func9, Try.ntmps9
    go_wp2_with (first
      | (refine wpList_load_row rfl 27 (.tmp 1) rfl w.heap.size rfl 27 C (0, 0) _ hrow1 Try.underlying27 rfl (by rw [HSZ.out]; kernel_rfl) ?_)
      | (refine wpList_load_row rfl 27 (.tmp 1) rfl w.heap.size rfl 27 C (0, 0) _ (heap_alloc_new _ _) Try.underlying27 rfl (by rw [HSZ.out]; kernel_rfl) ?_)
      | (go_at_call 11; refine (HR.out _).mono ?_; rintro e w1 ⟨rfl, hb1⟩; have hrow1 : w1.heap[w.heap.size]? = some (.cells C 27 (0, 0)) := (hb1.block _ (by simp)).trans (heap_alloc_new _ _))
      | (go_at_call 36; refine (HNm.out _).mono ?_; rintro e w2 ⟨rfl, hb2⟩))
    have hbe : Below w.heap.size w w2 := (((Below.refl _ _).alloc (Nat.le_refl _) _).trans (hb1.mono (by simp))).trans (hb2.mono (by have := hb1.size; simp at this; omega))
    have HB0 := hid hbe
    clear hb1 hb2 hrow1 hbe
    go_loopw [4, 12] (fun b i wr => ∃ k : Nat, k ≤ 17 ∧ i = .int .i64 k ∧ (∃ A c, b = .slice A (8 * k) c ∧ wr.ownsRow w.heap.size 5 1 (.slice A (8 * k) c) (8 * k) (bvs (nb (l.take k)))) ∧ Below w.heap.size w wr) (fun _ i _ => 17 - (intOf i).toNat)
    case atStart => exact ⟨0, by omega, rfl, ⟨none, 0, rfl, World.ownsRow_nil _ _ _ _⟩, HB0.out⟩
    case round =>
      obtain ⟨k, hk, rfl, ⟨A, c1, rfl, hown⟩, hbe⟩ := hrel
      have HBe := hid hbe
      have hsz := hbe.size
      obtain ⟨A', c', hv, -, -, hrd⟩ := own_shape hown
      cases hv
      by_cases hlt : k < 17
      · have hkl : k < l.length := by rw [HL.out]; exact hlt
        have hix := fun W => run_index_arr (P := Try.prog) W 70 22 17 (av l).toArray .i64 k _ .u64 Try.underlying70 Try.underlying22 (by kernel_rfl) hlt (by simpa using av_get l k hkl)
        have HT := hid (nb_take l k hkl)
        have hlen : 8 * k = (nb (l.take k)).length := by rw [nbt_len _ _ (by omega)]
        have HP := hid (put_eight A (nb (l.take k)) (8 * k) c1 l[k] wr.heap.size wr hrd hlen (H64.out k hkl) (Nat.le_refl _) (by omega))
        rw [← HT.out] at HP
        generalize l[k] = x at hix HP
        clear hown hbe hrd hlen HT
        go_wp2_with (go_at_call 37; refine HP.out.mono ?_; rintro e w2 ⟨A2, c2, rfl, hown2, hb2⟩)
        exact ⟨⟨k + 1, by omega, by go_num, ⟨A2, c2, rfl, own_base hown2 hsz⟩, HBe.out.trans (hb2.mono hsz)⟩, by simp [intOf]; omega⟩
      · obtain rfl : k = 17 := by omega
        have HT : Hid (l.take 17 = l) := hid (List.take_of_length_le (by rw [HL.out]; exact Nat.le_refl _))
        rw [HT.out] at hrd
        have HLb : Hid (8 * 17 = (nb l).length) := hid (by rw [nb_len, HL.out])
        clear hown
        go_wp2_with (with_reducible refine wpl_str rfl _ 69 9 rfl 5 Try.underlying69 Try.underlying5 Try.underlying9 A (8 * 17) c1 rfl wr.heap.size (nb l) ?_ (hid hrd) (hid HLb.out))
        go_ret2
        exact ⟨rfl, HBe.out⟩
  · rw [decide_eq_false h] at HR
    rw [if_neg h]
    clear e0 h hf
    go_enter Try.func9, Try.ntmps9
    go_wp2_with (first
      | (refine wpList_load_row rfl 27 (.tmp 1) rfl w.heap.size rfl 27 C (0, 0) _ (heap_alloc_new _ _) Try.underlying27 rfl (by rw [HSZ.out]; kernel_rfl) ?_)
      | (go_at_call 11; refine (HR.out _).mono ?_; rintro e w1 ⟨rfl, hb1⟩))
    go_ret2
    exact ⟨rfl, ((Below.refl _ _).alloc (Nat.le_refl _) _).trans (hb1.mono (by simp))⟩
end Go.Proofs.Ytogchfpecbmocaa
