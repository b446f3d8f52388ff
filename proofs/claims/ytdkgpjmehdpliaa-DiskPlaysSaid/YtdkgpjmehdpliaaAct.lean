/-
  The calls that the laws play: what an Act is, text, does.
-/
import Derived.Test.YtdkgpjmehdpliaaTears
import Derived.Deep.RegionHeld3
namespace Go.Proofs.Ytdkgpjmehdpliaa
open Go.RowKit

structure Act0 where
  kind : Int
  i : Int
  at_ : Int
  n : Int
  c : UInt8
  text : ByteArray
  A : Option Addr
  cap : Nat
  picks : List Int
def Act0.cells (x : Act0) : List Value := [.int .i64 x.kind, .int .i64 x.i, .int .i64 x.at_, .int .i64 x.n, .int .u8 (x.c.toNat : Int), .string x.text, .slice x.A x.picks.length x.cap]
def Act0.val (x : Act0) : Value := .agg #[.int .i64 x.kind, .int .i64 x.i, .int .i64 x.at_, .int .i64 x.n, .int .u8 (x.c.toNat : Int), .string x.text, .slice x.A x.picks.length x.cap]
/-- its picks lie below D; its numbers fit -/
structure Act0.OK (w : World) (D : Nat) (x : Act0) : Prop where
  rd : Rd w D x.A (ints x.picks)
  p : ∀ y ∈ x.picks, y ≤ 9223372036854775807
  pn : x.picks.length ≤ 9223372036854775807
  n : x.n ≤ 9223372036854775807
def Act0.bytes (x : Act0) : List UInt8 := if x.text.size = 0 then b384 x.c else sb x.text

theorem size_zero {s : ByteArray} (h : s.size = 0) : s = ⟨#[]⟩ := by
  cases s with
  | mk d => congr; exact Array.eq_empty_of_size_eq_zero h
theorem text_ne (s : ByteArray) (h : ¬ s.size = 0) : s.toList.isEmpty = false := by
  rw [ByteArray.toList_eq]
  cases h1 : s.data.toList with
  | nil =>
    exfalso
    apply h
    have : s.data.toList.length = 0 := by rw [h1]; rfl
    rw [Array.length_toList] at this
    exact this
  | cons _ _ => rfl

theorem text_any (x : Act0) (w : World) : Calls Try.prog 31 #[x.val] w fun e w' => e = .returned (str x.bytes) ∧ Fr w w' [] := by
  have hr := Row.new w 34 x.cells.toArray
  have hf := (Fr.refl w []).alloc (.cells x.cells.toArray 34)
  have c4 := hr.at_ 4 _ rfl
  have c5 := hr.at_ 5 _ rfl
  unfold Act0.cells at c4 c5 hf
  unfold Act0.val
  by_cases h0 : x.text.size = 0
  · have e : x.bytes = b384 x.c := if_pos h0
    have ht : x.text = ⟨#[]⟩ := size_zero h0
    rw [e]
    rw [ht] at c4 c5 hf ⊢
    have HF := hid hf
    clear h0 e ht hf hr
    go_enter Try.func31, Try.ntmps31
    go_wp2_with (go_at_call 25; refine (sector_any x.c _).mono ?_; rintro e w1 ⟨rfl, hf1⟩)
    go_ret
    exact ⟨rfl, HF.out.trans hf1 (by simp)⟩
  · have e : x.bytes = sb x.text := if_neg h0
    have hne := text_ne x.text h0
    have hq : str (sb x.text) = .string x.text := by simp [str, sb]
    rw [e, hq]
    have HF := hid hf
    clear h0 e hf hr hq
    go_enter Try.func31, Try.ntmps31
    go_wp2_with fail
    go_ret
    exact ⟨rfl, HF.out⟩

/-- what a call does, on the disk -/
def Sp.does (S : Sp) (x : Act0) : Sp × Int :=
  if x.kind = 1 then S.write x.i x.bytes else if x.kind = 2 then S.flush else if x.kind = 3 then S.fuse x.n else if x.kind = 4 then S.cut
  else if x.kind = 5 then S.start x.picks else if x.kind = 6 then S.rot x.i x.at_ x.n else (S, (S.read x.i).2)
end Go.Proofs.Ytdkgpjmehdpliaa
