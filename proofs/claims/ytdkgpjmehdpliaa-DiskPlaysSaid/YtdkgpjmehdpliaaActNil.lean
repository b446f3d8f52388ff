/-
  The walk of does, where there is no disk.
-/
import Derived.Test.YtdkgpjmehdpliaaAct
namespace Go.Proofs.Ytdkgpjmehdpliaa
open Go.RowKit

/-- a call's cells, boxed -/
abbrev boxA (w : World) (kind i at_ n : Int) (c : UInt8) (text : ByteArray) (A : Option Addr) (l cap : Nat) : World :=
  w.alloc (.cells #[.int .i64 kind, .int .i64 i, .int .i64 at_, .int .i64 n, .int .u8 (c.toNat : Int), .string text, .slice A l cap] 34)
theorem box_row (w : World) (kind i at_ n : Int) (c : UInt8) (text : ByteArray) (A : Option Addr) (l cap : Nat) :
    Row (boxA w kind i at_ n c text A l cap) w.heap.size 34 [.int .i64 kind, .int .i64 i, .int .i64 at_, .int .i64 n, .int .u8 (c.toNat : Int), .string text, .slice A l cap] := Row.new w _ _
/-- the cells that does reads -/
theorem box_cells (w : World) (kind i at_ n : Int) (c : UInt8) (text : ByteArray) (A : Option Addr) (l cap : Nat) :
    (boxA w kind i at_ n c text A l cap).cell? ⟨w.heap.size, 0, none⟩ = some (.int .i64 kind) ∧ (boxA w kind i at_ n c text A l cap).cell? ⟨w.heap.size, 1, none⟩ = some (.int .i64 i) ∧ (boxA w kind i at_ n c text A l cap).cell? ⟨w.heap.size, 2, none⟩ = some (.int .i64 at_) ∧
      (boxA w kind i at_ n c text A l cap).cell? ⟨w.heap.size, 3, none⟩ = some (.int .i64 n) ∧ (boxA w kind i at_ n c text A l cap).cell? ⟨w.heap.size, 6, none⟩ = some (.slice A l cap) ∧ Fr w (boxA w kind i at_ n c text A l cap) [] ∧
      ∀ w2, Fr (boxA w kind i at_ n c text A l cap).drew w2 [] → w2.cell? ⟨w.heap.size, 1, none⟩ = some (.int .i64 i) :=
  have h := box_row w kind i at_ n c text A l cap
  ⟨h.at_ 0 _ rfl, h.at_ 1 _ rfl, h.at_ 2 _ rfl, h.at_ 3 _ rfl, h.at_ 6 _ rfl, (Fr.refl w []).alloc _, fun _ hf => (hf.row h (by simp)).at_ 1 _ rfl⟩

section
variable (i at_ n : Int) (c : UInt8) (text : ByteArray) (A : Option Addr) (cap l : Nat) (w : World)
def actV (kind i at_ n : Int) (c : UInt8) (text : ByteArray) (A : Option Addr) (l cap : Nat) : Value := .agg #[.int .i64 kind, .int .i64 i, .int .i64 at_, .int .i64 n, .int .u8 (c.toNat : Int), .string text, .slice A l cap]

set_option maxRecDepth 10000 in
set_option maxHeartbeats 1000000 in
theorem nil_1 (bs : List UInt8) (HT : Hid (∀ w, Calls Try.prog 31 #[actV 1 i at_ n c text A l cap] w fun e w' => e = .returned (str bs) ∧ Fr w w' [])) :
    Calls Try.prog 12 #[nilP, actV 1 i at_ n c text A l cap] w fun e w' => e = .returned (.int .i64 2) ∧ Fr w w' [] := by
  obtain ⟨c0, c1, c2, c3, c6, hf, hl⟩ := box_cells w 1 i at_ n c text A l cap
  have HF := hid hf
  have HL := hid hl
  clear hf hl c2 c3 c6
  unfold actV boxA nilP at *
  go_enter Try.func12, Try.ntmps12
  go_wp2_with fail
  go_region_with (first
    | (go_at_call 31; refine (HT.out _).mono ?_; rintro e w2 ⟨rfl, hf2⟩; have ci := HL.out _ hf2; unfold str)
    | (go_at_call 24; refine (nil_Write i _ _).mono ?_; rintro e w3 ⟨rfl, rfl⟩))
  all_goals go_wp2_with fail
  all_goals (go_ret; exact ⟨rfl, HF.out.trans (Fr.undrew (n := 1) hf2) (by simp)⟩)

set_option maxRecDepth 10000 in
theorem nil_2 : Calls Try.prog 12 #[nilP, actV 2 i at_ n c text A l cap] w fun e w' => e = .returned (.int .i64 2) ∧ Fr w w' [] := by
  obtain ⟨c0, c1, c2, c3, c6, hf, hl⟩ := box_cells w 2 i at_ n c text A l cap
  have HF := hid hf
  clear hf hl
  unfold actV boxA nilP at *
  go_enter Try.func12, Try.ntmps12
  go_wp2_with (go_at_call 26; refine (nil_Flush _).mono ?_; rintro e w3 ⟨rfl, rfl⟩)
  go_ret
  exact ⟨rfl, HF.out⟩

set_option maxRecDepth 10000 in
theorem nil_3 : Calls Try.prog 12 #[nilP, actV 3 i at_ n c text A l cap] w fun e w' => e = .returned (.int .i64 2) ∧ Fr w w' [] := by
  obtain ⟨c0, c1, c2, c3, c6, hf, hl⟩ := box_cells w 3 i at_ n c text A l cap
  have HF := hid hf
  clear hf hl
  unfold actV boxA nilP at *
  go_enter Try.func12, Try.ntmps12
  go_wp2_with (go_at_call 29; refine (nil_Fuse n _).mono ?_; rintro e w3 ⟨rfl, rfl⟩)
  go_ret
  exact ⟨rfl, HF.out⟩

set_option maxRecDepth 10000 in
theorem nil_4 : Calls Try.prog 12 #[nilP, actV 4 i at_ n c text A l cap] w fun e w' => e = .returned (.int .i64 2) ∧ Fr w w' [] := by
  obtain ⟨c0, c1, c2, c3, c6, hf, hl⟩ := box_cells w 4 i at_ n c text A l cap
  have HF := hid hf
  clear hf hl
  unfold actV boxA nilP at *
  go_enter Try.func12, Try.ntmps12
  go_wp2_with (go_at_call 22; refine (nil_Cut _).mono ?_; rintro e w3 ⟨rfl, rfl⟩)
  go_ret
  exact ⟨rfl, HF.out⟩

set_option maxRecDepth 10000 in
theorem nil_5 : Calls Try.prog 12 #[nilP, actV 5 i at_ n c text A l cap] w fun e w' => e = .returned (.int .i64 2) ∧ Fr w w' [] := by
  obtain ⟨c0, c1, c2, c3, c6, hf, hl⟩ := box_cells w 5 i at_ n c text A l cap
  have HF := hid hf
  clear hf hl
  unfold actV boxA nilP at *
  go_enter Try.func12, Try.ntmps12
  go_wp2_with (go_at_call 23; refine (nil_Start A l cap _).mono ?_; rintro e w3 ⟨rfl, hf3⟩)
  go_ret
  exact ⟨rfl, HF.out.trans hf3 (by simp)⟩

set_option maxRecDepth 10000 in
theorem nil_6 : Calls Try.prog 12 #[nilP, actV 6 i at_ n c text A l cap] w fun e w' => e = .returned (.int .i64 2) ∧ Fr w w' [] := by
  obtain ⟨c0, c1, c2, c3, c6, hf, hl⟩ := box_cells w 6 i at_ n c text A l cap
  have HF := hid hf
  clear hf hl
  unfold actV boxA nilP at *
  go_enter Try.func12, Try.ntmps12
  go_wp2_with (go_at_call 30; refine (nil_Rot i at_ n _).mono ?_; rintro e w3 ⟨rfl, rfl⟩)
  go_ret
  exact ⟨rfl, HF.out⟩

set_option maxRecDepth 10000 in
theorem nil_7 (kind : Int) (h : kind ≠ 1 ∧ kind ≠ 2 ∧ kind ≠ 3 ∧ kind ≠ 4 ∧ kind ≠ 5 ∧ kind ≠ 6) : Calls Try.prog 12 #[nilP, actV kind i at_ n c text A l cap] w fun e w' => e = .returned (.int .i64 2) ∧ Fr w w' [] := by
  obtain ⟨c0, c1, c2, c3, c6, hf, hl⟩ := box_cells w kind i at_ n c text A l cap
  have HF := hid hf
  obtain ⟨h1, h2, h3, h4, h5, h6⟩ := h
  have k1 : (kind == 1) = false := by simp [h1]
  have k2 : (kind == 2) = false := by simp [h2]
  have k3 : (kind == 3) = false := by simp [h3]
  have k4 : (kind == 4) = false := by simp [h4]
  have k5 : (kind == 5) = false := by simp [h5]
  have k6 : (kind == 6) = false := by simp [h6]
  clear hf hl h1 h2 h3 h4 h5 h6
  unfold actV boxA nilP at *
  go_enter Try.func12, Try.ntmps12
  go_wp2_with (go_at_call 17; refine (nil_Read i _).mono ?_; rintro e w3 ⟨rfl, rfl⟩)
  go_ret
  exact ⟨rfl, HF.out⟩
end

theorem does_nil (x : Act0) (w : World) : Calls Try.prog 12 #[nilP, x.val] w fun e w' => e = .returned (.int .i64 2) ∧ Fr w w' [] := by
  have HT := hid (text_any x)
  obtain ⟨kind, i, at_, n, c, text, A, cap, picks⟩ := x
  by_cases h1 : kind = 1
  · subst h1; exact nil_1 i at_ n c text A cap picks.length w _ HT
  by_cases h2 : kind = 2
  · subst h2; exact nil_2 i at_ n c text A cap picks.length w
  by_cases h3 : kind = 3
  · subst h3; exact nil_3 i at_ n c text A cap picks.length w
  by_cases h4 : kind = 4
  · subst h4; exact nil_4 i at_ n c text A cap picks.length w
  by_cases h5 : kind = 5
  · subst h5; exact nil_5 i at_ n c text A cap picks.length w
  by_cases h6 : kind = 6
  · subst h6; exact nil_6 i at_ n c text A cap picks.length w
  exact nil_7 i at_ n c text A cap picks.length w kind ⟨h1, h2, h3, h4, h5, h6⟩
end Go.Proofs.Ytdkgpjmehdpliaa
