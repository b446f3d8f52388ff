/-
  Lists of messages in memory.
-/
import Derived.Test.YteahbalcielhpaaGreatDoorZ14
import Derived.Test.YteahbalcielhpaaGreatDoorZ20
import Derived.Test.YteahbalcielhpaaGreatDoorZ02
import Derived.Test.YteahbalcielhpaaGreatDoorZ15
namespace Go.Proofs.YteahbalcielhpaaGreatDoor
open Go.RowKit
set_option maxRecDepth 10000

abbrev LP := Ms × Pl
def lpC (x : LP) : List Value := (x.1.cells x.2).toList
theorem lpC_len (x : LP) : (lpC x).length = 33 := rfl
/-- messages lie in memory -/
structure Lm (W : World) (B : Nat) (A : Option Addr) (L : List LP) : Prop where
  rd : Rd W B A (rws lpC L)
  pl : ∀ x ∈ L, PlOk W B x.1 x.2
theorem PlOk.below {W W' : World} {B C : Nat} {m : Ms} {p : Pl} (h : PlOk W B m p) (hb : Below C W W') (hc : B ≤ C) : PlOk W' B m p := ⟨h.a.below hb hc, h.b.below hb hc, h.la, h.lb, h.ca, h.cb⟩
theorem Lm.below {W W' : World} {B C : Nat} {A : Option Addr} {L : List LP} (h : Lm W B A L) (hb : Below C W W') (hc : B ≤ C) : Lm W' B A L :=
  ⟨h.rd.below hb hc, fun x hx => (h.pl x hx).below hb hc⟩
/-- logs that may be, of the machine's -/
def LogF (L : List LP) : Prop := ∀ x ∈ L, LogR x.1 ∧ x.1.fits
theorem LogF.xs {L : List LP} (h : LogF L) {x : LP} (hx : x ∈ L) : x.1.xs.length = 8 := (h x hx).1.2.2.2.1.2.2.2 (h x hx).1.1
theorem LogF.chk {L : List LP} (h : LogF L) {x : LP} (hx : x ∈ L) : 0 ≤ x.1.check.opn ∧ x.1.check.opn ≤ 72057594037927935 := (h x hx).1.2.2.1 x.1.check.opn (by simp [numsM])
theorem LogF.lv {L : List LP} (h : LogF L) {x : LP} (hx : x ∈ L) : 0 ≤ x.1.lv ∧ x.1.lv ≤ 72057594037927935 := (h x hx).1.2.2.1 x.1.lv (by simp [numsM])
/-- one of them -/
theorem Lm.at_ {W : World} {B : Nat} {A : Option Addr} {L : List LP} (h : Lm W B A L) (k : Nat) (hk : k < L.length) : ∃ g o, A = some ⟨g, o, none⟩ ∧ g < B ∧ W.rangeAt g (o + k * 33) (lpC L[k]) :=
  rws_at (n := 33) lpC_len h.rd k hk (by omega)
theorem range_below {W W' : World} {B g o : Nat} {cs : List Value} (h : W.rangeAt g o cs) (hb : Below B W W') (hg : g < B) : W'.rangeAt g o cs := fun j v hv => (hb.cell (p := ⟨g, o + j, none⟩) hg).trans (h j v hv)
theorem itc_one (x : It) : x.cells.all (·.oneCell') = true := by simp [It.cells, Value.oneCell']
theorem stc_one (x : St) : x.cells.all (·.oneCell') = true := by simp [St.cells, Value.oneCell']
theorem msc_one (x : Ms) (p : Pl) : (x.cells p).all (·.oneCell') = true := by simp [Ms.cells, Value.oneCell']
/-- an item of a message's -/
theorem PlOk.item {W : World} {B : Nat} {m : Ms} {p : Pl} (h : PlOk W B m p) (k : Nat) (hk : k < m.xs.length) : ∃ g o, p.B = some ⟨g, o, none⟩ ∧ g < B ∧ W.rangeAt g (o + k * 15) m.xs[k].cells.toList :=
  rws_at (n := 15) (fun _ => rfl) h.b k hk (by omega)
end Go.Proofs.YteahbalcielhpaaGreatDoor
/-
  The program's says; what MaxFunc and ContainsFunc are handed.
-/
namespace Go.Proofs.YteahbalcielhpaaGreatDoor
open Go.RowKit
set_option maxRecDepth 10000

theorem isnan_any (a : Int) (w : World) : Calls Tryz.prog 55 #[.int .i64 a] w fun e w' => e = .returned (.bool false) ∧ w = w' := by
  go_enter Tryz.func55, Tryz.ntmps55
  go_wp2_with fail
  go_ret
  exact ⟨rfl, rfl⟩
def cmpI (a b : Int) : Int := if a < b then -1 else if b < a then 1 else 0
theorem compare_any (a b : Int) (w : World) : Calls Tryz.prog 35 #[.int .i64 a, .int .i64 b] w fun e w' => e = .returned (.int .i64 (cmpI a b)) ∧ w = w' := by
  have HN := hid (fun x W => isnan_any x W)
  unfold cmpI
  by_cases h1 : a < b
  · rw [if_pos h1]
    go_enter Tryz.func35, Tryz.ntmps35
    go_wp2_with (go_at_call 55; refine (HN.out _ _).mono ?_; rintro e w' ⟨rfl, rfl⟩)
    go_ret
    exact ⟨rfl, rfl⟩
  · rw [if_neg h1]
    by_cases h2 : b < a
    · rw [if_pos h2]
      go_enter Tryz.func35, Tryz.ntmps35
      go_wp2_with (go_at_call 55; refine (HN.out _ _).mono ?_; rintro e w' ⟨rfl, rfl⟩)
      go_ret
      exact ⟨rfl, rfl⟩
    · rw [if_neg h2]
      go_enter Tryz.func35, Tryz.ntmps35
      go_wp2_with (go_at_call 55; refine (HN.out _ _).mono ?_; rintro e w' ⟨rfl, rfl⟩)
      go_ret
      exact ⟨rfl, rfl⟩
set_option maxHeartbeats 1000000 in
theorem farther_any (m k : Ms) (p q : Pl) (w : World) : Calls Tryz.prog 34 #[.agg (m.cells p), .agg (k.cells q)] w (VE w (.int .i64 (cmpI m.check.opn k.check.opn))) := by
  have HC := hid (fun W => compare_any m.check.opn k.check.opn W)
  have HB0 : Hid (Below w.heap.size w ((w.alloc (.cells (m.cells p) 45)).alloc (.cells (k.cells q) 45))) := hid (((Below.refl _ _).alloc (Nat.le_refl _) _).alloc (by simp) _)
  have a0 : ((w.alloc (.cells (m.cells p) 45)).alloc (.cells (k.cells q) 45)).cell? ⟨w.heap.size, 12, none⟩ = some (.int .i64 m.check.opn) := ((Row.new w 45 (m.cells p)).alloc _).cell 12
  have a1 : ((w.alloc (.cells (m.cells p) 45)).alloc (.cells (k.cells q) 45)).cell? ⟨w.heap.size + 1, 12, none⟩ = some (.int .i64 k.check.opn) := by
    have h := (Row.new (w.alloc (.cells (m.cells p) 45)) 45 (k.cells q)).cell 12
    rw [World.size_alloc] at h
    exact h
  generalize m.cells p = X at *
  generalize k.cells q = Y at *
  generalize cmpI m.check.opn k.check.opn = c at *
  go_enter Tryz.func34, Tryz.ntmps34
  go_wp2_with (go_at_call 35; refine (HC.out _).mono ?_; rintro e w' ⟨rfl, rfl⟩)
  go_ret
  exact ⟨rfl, HB0.out⟩
def badI (x : It) : Bool := x.kind == 2 || x.kind == 3
set_option maxHeartbeats 1000000 in
theorem unclean1_any (x : It) (w : World) : Calls Tryz.prog 54 #[.agg x.cells] w (VE w (.bool (badI x))) := by
  have HB0 : Hid (Below w.heap.size w (w.alloc (.cells x.cells 40))) := hid ((Below.refl _ _).alloc (Nat.le_refl _) _)
  have a0 : (w.alloc (.cells x.cells 40)).cell? ⟨w.heap.size, 0, none⟩ = some (.int .i64 x.kind) := (Row.new w 40 x.cells).cell 0
  unfold badI
  cases h2 : (x.kind == 2)
  · generalize x.cells = X at *
    go_enter Tryz.func54, Tryz.ntmps54
    go_wp2_with fail
    go_ret
    exact ⟨rfl, HB0.out⟩
  · generalize x.cells = X at *
    go_enter Tryz.func54, Tryz.ntmps54
    go_wp2_with fail
    go_ret
    exact ⟨rfl, HB0.out⟩
/-! ### says -/
set_option maxHeartbeats 2000000 in
theorem says_below (m : Ms) (p : Pl) (n : Int) (w : World) (P : Int) (hw2 : wrap64 (n - 1 - m.check.opn) = P) (h0 : P < 0) (hw1 : wrap64 (n - 1) = n - 1) :
    Calls Tryz.prog 56 #[.int .i64 n, .agg (m.cells p)] w (VE w (.agg it0.cells)) := by
  have HZI := hid isize
  have HB1 : Hid (Below w.heap.size w ((w.alloc (.cells (m.cells p) 45)).alloc (.cells #[.int .i64 0, .int .i64 0, .int .i64 0, .int .i64 0, .int .u64 0, .int .u64 0, .int .i64 0, .int .i64 0, .int .i64 0, .int .u64 0, .int .i64 0, .int .i64 0, .int .i64 0, .int .i64 0, .string ⟨#[]⟩] 40))) := hid (((Below.refl _ _).alloc (Nat.le_refl _) _).alloc (by simp) _)
  have R1 : Hid (Row ((w.alloc (.cells (m.cells p) 45)).alloc (.cells #[.int .i64 0, .int .i64 0, .int .i64 0, .int .i64 0, .int .u64 0, .int .u64 0, .int .i64 0, .int .i64 0, .int .i64 0, .int .u64 0, .int .i64 0, .int .i64 0, .int .i64 0, .int .i64 0, .string ⟨#[]⟩] 40)) w.heap.size 45 (m.cells p).toList) := hid ((Row.new _ _ _).alloc _)
  have R2 : Hid (Row ((w.alloc (.cells (m.cells p) 45)).alloc (.cells #[.int .i64 0, .int .i64 0, .int .i64 0, .int .i64 0, .int .u64 0, .int .u64 0, .int .i64 0, .int .i64 0, .int .i64 0, .int .u64 0, .int .i64 0, .int .i64 0, .int .i64 0, .int .i64 0, .string ⟨#[]⟩] 40)) (w.heap.size + 1) 40 (#[.int .i64 0, .int .i64 0, .int .i64 0, .int .i64 0, .int .u64 0, .int .u64 0, .int .i64 0, .int .i64 0, .int .i64 0, .int .u64 0, .int .i64 0, .int .i64 0, .int .i64 0, .int .i64 0, .string ⟨#[]⟩] : Array Value).toList) := hid (by have h := Row.new (w.alloc (.cells (m.cells p) 45)) 40 #[.int .i64 0, .int .i64 0, .int .i64 0, .int .i64 0, .int .u64 0, .int .u64 0, .int .i64 0, .int .i64 0, .int .i64 0, .int .u64 0, .int .i64 0, .int .i64 0, .int .i64 0, .int .i64 0, .string ⟨#[]⟩]; rw [World.size_alloc] at h; exact h)
  have a12 : ((w.alloc (.cells (m.cells p) 45)).alloc (.cells #[.int .i64 0, .int .i64 0, .int .i64 0, .int .i64 0, .int .u64 0, .int .u64 0, .int .i64 0, .int .i64 0, .int .i64 0, .int .u64 0, .int .i64 0, .int .i64 0, .int .i64 0, .int .i64 0, .string ⟨#[]⟩] 40)).cell? ⟨w.heap.size, 12, none⟩ = some (.int .i64 m.check.opn) := R1.out.cell 12
  have a31 : ((w.alloc (.cells (m.cells p) 45)).alloc (.cells #[.int .i64 0, .int .i64 0, .int .i64 0, .int .i64 0, .int .u64 0, .int .u64 0, .int .i64 0, .int .i64 0, .int .i64 0, .int .u64 0, .int .i64 0, .int .i64 0, .int .i64 0, .int .i64 0, .string ⟨#[]⟩] 40)).cell? ⟨w.heap.size, 31, none⟩ = some (.slice p.B m.xs.length p.cB) := R1.out.cell 31
  generalize m.cells p = Y at *
  go_enter Tryz.func56, Tryz.ntmps56
  go_wp2_with (first
        | ((with_reducible show wpList _ _ _ ({ dst := none, op := .store _ (.tmp 4) (.tmp 21), type := _, pos := _, after := _, guard := _ } :: _) _ _); refine wpl_store_st rfl (.tmp 4) (.tmp 21) rfl HZI.out (w.heap.size + 1) (#[.int .i64 0, .int .i64 0, .int .i64 0, .int .i64 0, .int .u64 0, .int .u64 0, .int .i64 0, .int .i64 0, .int .i64 0, .int .u64 0, .int .i64 0, .int .i64 0, .int .i64 0, .int .i64 0, .string ⟨#[]⟩]) (it0.cells) rfl rfl (R2.out) ?_ (hid (by first | rfl | simp)) (hid (by first | rfl | simp)) (hid (itc_one it0)); intro w9 hr9 hg9))
  exact bodyPost_ret (v := .agg it0.cells) (results_cell_row rfl _ _ (w.heap.size + 1) 40 it0.cells (0, 0) _ rfl (Row.arr (cs := it0.cells) hr9) Tryz.underlying40 rfl HZI.out) rfl ⟨rfl, HB1.out.trans (below_grown hg9 (Nat.le_succ _) HB1.out.size)⟩
set_option maxHeartbeats 2000000 in
theorem says_beyond (m : Ms) (p : Pl) (n : Int) (w : World) (P : Int) (hw2 : wrap64 (n - 1 - m.check.opn) = P) (h0 : ¬ P < 0) (h1 : (m.xs.length : Int) ≤ P) (hw1 : wrap64 (n - 1) = n - 1) :
    Calls Tryz.prog 56 #[.int .i64 n, .agg (m.cells p)] w (VE w (.agg it0.cells)) := by
  have HZI := hid isize
  have HB1 : Hid (Below w.heap.size w ((w.alloc (.cells (m.cells p) 45)).alloc (.cells #[.int .i64 0, .int .i64 0, .int .i64 0, .int .i64 0, .int .u64 0, .int .u64 0, .int .i64 0, .int .i64 0, .int .i64 0, .int .u64 0, .int .i64 0, .int .i64 0, .int .i64 0, .int .i64 0, .string ⟨#[]⟩] 40))) := hid (((Below.refl _ _).alloc (Nat.le_refl _) _).alloc (by simp) _)
  have R1 : Hid (Row ((w.alloc (.cells (m.cells p) 45)).alloc (.cells #[.int .i64 0, .int .i64 0, .int .i64 0, .int .i64 0, .int .u64 0, .int .u64 0, .int .i64 0, .int .i64 0, .int .i64 0, .int .u64 0, .int .i64 0, .int .i64 0, .int .i64 0, .int .i64 0, .string ⟨#[]⟩] 40)) w.heap.size 45 (m.cells p).toList) := hid ((Row.new _ _ _).alloc _)
  have R2 : Hid (Row ((w.alloc (.cells (m.cells p) 45)).alloc (.cells #[.int .i64 0, .int .i64 0, .int .i64 0, .int .i64 0, .int .u64 0, .int .u64 0, .int .i64 0, .int .i64 0, .int .i64 0, .int .u64 0, .int .i64 0, .int .i64 0, .int .i64 0, .int .i64 0, .string ⟨#[]⟩] 40)) (w.heap.size + 1) 40 (#[.int .i64 0, .int .i64 0, .int .i64 0, .int .i64 0, .int .u64 0, .int .u64 0, .int .i64 0, .int .i64 0, .int .i64 0, .int .u64 0, .int .i64 0, .int .i64 0, .int .i64 0, .int .i64 0, .string ⟨#[]⟩] : Array Value).toList) := hid (by have h := Row.new (w.alloc (.cells (m.cells p) 45)) 40 #[.int .i64 0, .int .i64 0, .int .i64 0, .int .i64 0, .int .u64 0, .int .u64 0, .int .i64 0, .int .i64 0, .int .i64 0, .int .u64 0, .int .i64 0, .int .i64 0, .int .i64 0, .int .i64 0, .string ⟨#[]⟩]; rw [World.size_alloc] at h; exact h)
  have a12 : ((w.alloc (.cells (m.cells p) 45)).alloc (.cells #[.int .i64 0, .int .i64 0, .int .i64 0, .int .i64 0, .int .u64 0, .int .u64 0, .int .i64 0, .int .i64 0, .int .i64 0, .int .u64 0, .int .i64 0, .int .i64 0, .int .i64 0, .int .i64 0, .string ⟨#[]⟩] 40)).cell? ⟨w.heap.size, 12, none⟩ = some (.int .i64 m.check.opn) := R1.out.cell 12
  have a31 : ((w.alloc (.cells (m.cells p) 45)).alloc (.cells #[.int .i64 0, .int .i64 0, .int .i64 0, .int .i64 0, .int .u64 0, .int .u64 0, .int .i64 0, .int .i64 0, .int .i64 0, .int .u64 0, .int .i64 0, .int .i64 0, .int .i64 0, .int .i64 0, .string ⟨#[]⟩] 40)).cell? ⟨w.heap.size, 31, none⟩ = some (.slice p.B m.xs.length p.cB) := R1.out.cell 31
  generalize m.cells p = Y at *
  go_enter Tryz.func56, Tryz.ntmps56
  go_wp2_with (first
        | ((with_reducible show wpList _ _ _ ({ dst := none, op := .store _ (.tmp 4) (.tmp 21), type := _, pos := _, after := _, guard := _ } :: _) _ _); refine wpl_store_st rfl (.tmp 4) (.tmp 21) rfl HZI.out (w.heap.size + 1) (#[.int .i64 0, .int .i64 0, .int .i64 0, .int .i64 0, .int .u64 0, .int .u64 0, .int .i64 0, .int .i64 0, .int .i64 0, .int .u64 0, .int .i64 0, .int .i64 0, .int .i64 0, .int .i64 0, .string ⟨#[]⟩]) (it0.cells) rfl rfl (R2.out) ?_ (hid (by first | rfl | simp)) (hid (by first | rfl | simp)) (hid (itc_one it0)); intro w9 hr9 hg9))
  exact bodyPost_ret (v := .agg it0.cells) (results_cell_row rfl _ _ (w.heap.size + 1) 40 it0.cells (0, 0) _ rfl (Row.arr (cs := it0.cells) hr9) Tryz.underlying40 rfl HZI.out) rfl ⟨rfl, HB1.out.trans (below_grown hg9 (Nat.le_succ _) HB1.out.size)⟩
set_option maxHeartbeats 2000000 in
theorem says_at (m : Ms) (p : Pl) (n : Int) (w : World) (k : Nat) (hw2 : wrap64 (n - 1 - m.check.opn) = (k : Int)) (h1 : (k : Int) < (m.xs.length : Int)) (hl : m.xs.length = 8) (X : It) (g o : Nat) (hpB : p.B = some ⟨g, o, none⟩) (hg : g < w.heap.size) (hX : w.rangeAt g (o + k * 15) X.cells.toList) (hw1 : wrap64 (n - 1) = n - 1) :
    Calls Tryz.prog 56 #[.int .i64 n, .agg (m.cells p)] w (VE w (.agg X.cells)) := by
  have HZI := hid isize
  have HB1 : Hid (Below w.heap.size w ((w.alloc (.cells (m.cells p) 45)).alloc (.cells #[.int .i64 0, .int .i64 0, .int .i64 0, .int .i64 0, .int .u64 0, .int .u64 0, .int .i64 0, .int .i64 0, .int .i64 0, .int .u64 0, .int .i64 0, .int .i64 0, .int .i64 0, .int .i64 0, .string ⟨#[]⟩] 40))) := hid (((Below.refl _ _).alloc (Nat.le_refl _) _).alloc (by simp) _)
  have R1 : Hid (Row ((w.alloc (.cells (m.cells p) 45)).alloc (.cells #[.int .i64 0, .int .i64 0, .int .i64 0, .int .i64 0, .int .u64 0, .int .u64 0, .int .i64 0, .int .i64 0, .int .i64 0, .int .u64 0, .int .i64 0, .int .i64 0, .int .i64 0, .int .i64 0, .string ⟨#[]⟩] 40)) w.heap.size 45 (m.cells p).toList) := hid ((Row.new _ _ _).alloc _)
  have R2 : Hid (Row ((w.alloc (.cells (m.cells p) 45)).alloc (.cells #[.int .i64 0, .int .i64 0, .int .i64 0, .int .i64 0, .int .u64 0, .int .u64 0, .int .i64 0, .int .i64 0, .int .i64 0, .int .u64 0, .int .i64 0, .int .i64 0, .int .i64 0, .int .i64 0, .string ⟨#[]⟩] 40)) (w.heap.size + 1) 40 (#[.int .i64 0, .int .i64 0, .int .i64 0, .int .i64 0, .int .u64 0, .int .u64 0, .int .i64 0, .int .i64 0, .int .i64 0, .int .u64 0, .int .i64 0, .int .i64 0, .int .i64 0, .int .i64 0, .string ⟨#[]⟩] : Array Value).toList) := hid (by have h := Row.new (w.alloc (.cells (m.cells p) 45)) 40 #[.int .i64 0, .int .i64 0, .int .i64 0, .int .i64 0, .int .u64 0, .int .u64 0, .int .i64 0, .int .i64 0, .int .i64 0, .int .u64 0, .int .i64 0, .int .i64 0, .int .i64 0, .int .i64 0, .string ⟨#[]⟩]; rw [World.size_alloc] at h; exact h)
  have a12 : ((w.alloc (.cells (m.cells p) 45)).alloc (.cells #[.int .i64 0, .int .i64 0, .int .i64 0, .int .i64 0, .int .u64 0, .int .u64 0, .int .i64 0, .int .i64 0, .int .i64 0, .int .u64 0, .int .i64 0, .int .i64 0, .int .i64 0, .int .i64 0, .string ⟨#[]⟩] 40)).cell? ⟨w.heap.size, 12, none⟩ = some (.int .i64 m.check.opn) := R1.out.cell 12
  have a31 : ((w.alloc (.cells (m.cells p) 45)).alloc (.cells #[.int .i64 0, .int .i64 0, .int .i64 0, .int .i64 0, .int .u64 0, .int .u64 0, .int .i64 0, .int .i64 0, .int .i64 0, .int .u64 0, .int .i64 0, .int .i64 0, .int .i64 0, .int .i64 0, .string ⟨#[]⟩] 40)).cell? ⟨w.heap.size, 31, none⟩ = some (.slice p.B m.xs.length p.cB) := R1.out.cell 31
  have HRG : Hid (((w.alloc (.cells (m.cells p) 45)).alloc (.cells #[.int .i64 0, .int .i64 0, .int .i64 0, .int .i64 0, .int .u64 0, .int .u64 0, .int .i64 0, .int .i64 0, .int .i64 0, .int .u64 0, .int .i64 0, .int .i64 0, .int .i64 0, .int .i64 0, .string ⟨#[]⟩] 40)).rangeAt g (o + k * 15) X.cells.toList) := hid (range_below hX HB1.out hg)
  rw [hpB] at a31
  generalize m.cells p = Y at *
  clear hX
  go_enter Tryz.func56, Tryz.ntmps56
  go_wp2_with (first
        | ((with_reducible show wpList _ _ _ ({ dst := some 26, op := _, type := _, pos := _, after := _, guard := _ } :: _) _ _); refine wpList_load_mid rfl 40 (.tmp 25) rfl g (o + k * 15) rfl (X.cells.toList) _ (HRG.out) Tryz.underlying40 rfl (by exact HZI.out) ?_)
        | ((with_reducible show wpList _ _ _ ({ dst := none, op := .store _ (.tmp 4) (.tmp 26), type := _, pos := _, after := _, guard := _ } :: _) _ _); refine wpl_store_st rfl (.tmp 4) (.tmp 26) rfl HZI.out (w.heap.size + 1) (#[.int .i64 0, .int .i64 0, .int .i64 0, .int .i64 0, .int .u64 0, .int .u64 0, .int .i64 0, .int .i64 0, .int .i64 0, .int .u64 0, .int .i64 0, .int .i64 0, .int .i64 0, .int .i64 0, .string ⟨#[]⟩]) (X.cells) rfl rfl (R2.out) ?_ (hid (by first | rfl | simp)) (hid (by first | rfl | simp)) (hid (itc_one X)); intro w9 hr9 hg9))
  exact bodyPost_ret (v := .agg X.cells) (results_cell_row rfl _ _ (w.heap.size + 1) 40 X.cells (0, 0) _ rfl (Row.arr (cs := X.cells) hr9) Tryz.underlying40 rfl HZI.out) rfl ⟨rfl, HB1.out.trans (below_grown hg9 (Nat.le_succ _) HB1.out.size)⟩
theorem says_any (m : Ms) (p : Pl) (B : Nat) (n : Int) (w : World) (hm : PlOk w B m p) (hB : B ≤ w.heap.size) (h8 : m.xs.length = 8) (hn : 1 ≤ n ∧ n ≤ 1152921504606846976) (hc : 0 ≤ m.check.opn ∧ m.check.opn ≤ 72057594037927935) :
    Calls Tryz.prog 56 #[.int .i64 n, .agg (m.cells p)] w (VE w (saysC m n).val) := by
  have hw1 : wrap64 (n - 1) = n - 1 := IntWalk.wrap64_in _ (by constructor <;> omega)
  have hw2 : wrap64 (n - 1 - m.check.opn) = n - 1 - m.check.opn := IntWalk.wrap64_in _ (by constructor <;> omega)
  by_cases h0 : n - 1 - m.check.opn < 0
  · have e : saysC m n = it0 := if_neg (fun h => by omega)
    rw [e]
    exact says_below m p n w _ hw2 h0 hw1
  · by_cases h1 : n - 1 - m.check.opn < 8
    · obtain ⟨k, hk⟩ : ∃ k : Nat, n - 1 - m.check.opn = (k : Int) := ⟨(n - 1 - m.check.opn).toNat, by omega⟩
      have hkl : k < m.xs.length := by omega
      obtain ⟨g, o, hpB, hg, hX⟩ := hm.item k hkl
      have e : saysC m n = m.xs[k] := by
        unfold saysC
        rw [if_pos ⟨by omega, h1⟩, hk, Int.toNat_natCast, List.getD_eq_getElem?_getD, List.getElem?_eq_getElem hkl]
        rfl
      rw [e]
      exact says_at m p n w k (by rw [hw2, hk]) (by omega) h8 m.xs[k] g o hpB (Nat.lt_of_lt_of_le hg hB) hX hw1
    · have e : saysC m n = it0 := if_neg (fun h => h1 h.2)
      rw [e]
      exact says_beyond m p n w _ hw2 h0 (by omega) hw1
end Go.Proofs.YteahbalcielhpaaGreatDoor
/-
  ContainsFunc over items, over messages; unclean, decided.
-/
namespace Go.Proofs.YteahbalcielhpaaGreatDoor
open Go.RowKit
set_option maxRecDepth 10000

/-- what IndexFunc answers: a place, if there is one -/
def IX (w : World) (b : Bool) (e : Ending) (w' : World) : Prop := ∃ i : Int, e = .returned (.int .i64 i) ∧ decide (0 ≤ i) = b ∧ Below w.heap.size w w'
theorem anyB_snoc {α : Type} (f : α → Bool) (l : List α) (k : Nat) (h : k < l.length) (ht : (l.take k).any f = false) (hk : f l[k] = false) : (l.take (k + 1)).any f = false := by
  rw [List.take_succ_eq_append_getElem h, List.any_append, ht]
  simp [hk]
theorem anyB_yes {α : Type} (f : α → Bool) (l : List α) (k : Nat) (h : k < l.length) (hk : f l[k] = true) : l.any f = true := List.any_eq_true.2 ⟨l[k], List.getElem_mem h, hk⟩
set_option maxHeartbeats 2000000 in
theorem indexI_any (A : Option Addr) (l : List It) (n c B : Nat) (w : World) (hr : Rd w B A (rws (fun x : It => x.cells.toList) l)) (hn : n = l.length) (hc : n ≤ c) (hB : B ≤ w.heap.size) (hb : n ≤ 9223372036854775807) :
    Calls Tryz.prog 71 #[.slice A n c, .func (.func 54) #[] #[]] w (IX w (l.any badI)) := by
  have HN := hid hn
  have HR : Hid (∀ W, Below w.heap.size w W → Rd W B A (rws (fun x : It => x.cells.toList) l)) := hid fun W hW => hr.below hW hB
  have HZ := hid isize
  have HP := hid (fun (x : It) (hx : x ∈ l) (W : World) (hW : Below w.heap.size w W) => unclean1_any x W)
  have HFX := hid (fun (k : Nat) (h : k < l.length) => anyB_yes badI l k h)
  have HNX := hid (fun (k : Nat) (h : k < l.length) => anyB_snoc badI l k h)
  have HEND : Hid ((l.take n).any badI = false → l.any badI = false) := hid (by rw [hn, List.take_length]; exact id)
  obtain ⟨anyv, hA⟩ : ∃ b, l.any badI = b := ⟨_, rfl⟩
  rw [hA] at HFX HEND ⊢
  clear hA
  have hbe := Below.refl w.heap.size w
  clear hn hr
  go_enter Tryz.func71, Tryz.ntmps71
  go_wp2_with fail
  go_loopw [8] (fun i wr => ∃ k : Nat, k ≤ n ∧ i = .int .i64 (k : Int) ∧ Hid ((l.take k).any badI = false) ∧ Below w.heap.size w wr) (fun i _ => n - (intOf i).toNat)
  case atStart => exact ⟨0, by omega, rfl, hid rfl, hbe⟩
  case round =>
    obtain ⟨k, hk, rfl, HT, hbe2⟩ := hrel
    have HBE := hid hbe2
    by_cases hlt : k < n
    · have hkl : k < l.length := by rw [← HN.out]; exact hlt
      obtain ⟨g, o, rfl, hg, hrg⟩ := rws_at (n := 15) (fun _ => rfl) (HR.out wr HBE.out) k hkl (by omega)
      have HRG : Hid (wr.rangeAt g (o + k * 15) (Array.toList (l[k].cells))) := hid hrg
      have HPX := hid (HP.out l[k] (List.getElem_mem hkl) wr HBE.out)
      have HY := hid (HFX.out k hkl)
      have HX := hid (HNX.out k hkl HT.out)
      have hi : (k : Int) < (n : Int) := by omega
      have hi0 : (0 : Int) ≤ (k : Int) := by omega
      generalize l[k] = X at *
      clear hrg hkl hg HR HT hbe2 HP HFX HNX
      cases hpx : (badI X)
      · rw [hpx] at HPX HX
        have HX2 := hid (HX.out rfl)
        clear hpx HY HX
        go_wp2_with (first
          | ((with_reducible show wpList _ _ _ ({ dst := some 15, op := _, type := _, pos := _, after := _, guard := _ } :: _) _ _); refine wpList_load_mid rfl 40 (.tmp 14) rfl g (o + k * 15) rfl (Array.toList (X.cells)) _ (HRG.out) Tryz.underlying40 rfl (by exact HZ.out) ?_)
          | (go_at_call 54; refine HPX.out.mono ?_; rintro e w2 ⟨rfl, hb2⟩))
        go_roundw
        case rel => exact ⟨k + 1, by omega, by go_num, HX2, HBE.out.trans (hb2.mono HBE.out.size)⟩
        case measure => simp [intOf]; omega
      · rw [hpx] at HPX HY
        have HY2 := hid (HY.out rfl)
        clear hpx HY HX
        go_wp2_with (first
          | ((with_reducible show wpList _ _ _ ({ dst := some 15, op := _, type := _, pos := _, after := _, guard := _ } :: _) _ _); refine wpList_load_mid rfl 40 (.tmp 14) rfl g (o + k * 15) rfl (Array.toList (X.cells)) _ (HRG.out) Tryz.underlying40 rfl (by exact HZ.out) ?_)
          | (go_at_call 54; refine HPX.out.mono ?_; rintro e w2 ⟨rfl, hb2⟩))
        go_ret
        exact ⟨k, rfl, by rw [HY2.out]; simp, HBE.out.trans (hb2.mono HBE.out.size)⟩
    · obtain rfl : k = n := by omega
      have HE := hid (HEND.out HT.out)
      clear hbe2
      go_wp2_with fail
      go_ret
      exact ⟨-1, rfl, by rw [HE.out]; rfl, HBE.out⟩
set_option maxHeartbeats 1000000 in
theorem containsI_any (A : Option Addr) (l : List It) (n c B : Nat) (w : World) (hr : Rd w B A (rws (fun x : It => x.cells.toList) l)) (hn : n = l.length) (hc : n ≤ c) (hB : B ≤ w.heap.size) (hb : n ≤ 9223372036854775807) :
    Calls Tryz.prog 53 #[.slice A n c, .func (.func 54) #[] #[]] w (VE w (.bool (l.any badI))) := by
  have HI := hid (indexI_any A l n c B w hr hn hc hB hb)
  generalize l.any badI = b at *
  clear hr hn hc
  go_enter Tryz.func53, Tryz.ntmps53
  go_wp2_with (go_at_call 71; refine HI.out.mono ?_; rintro e w2 ⟨i, rfl, hi, hb2⟩)
  go_ret
  exact ⟨by first | rfl | rw [← hi] | simp [← hi], hb2⟩
/-- is there anything that a log can't tell? -/
def badM (x : LP) : Bool := x.1.xs.any badI
set_option maxHeartbeats 1000000 in
theorem unclean_any (x : LP) (B : Nat) (w : World) (hm : PlOk w B x.1 x.2) (hB : B ≤ w.heap.size) :
    Calls Tryz.prog 32 #[.agg (x.1.cells x.2)] w (VE w (.bool (badM x))) := by
  have HB0 : Hid (Below w.heap.size w (w.alloc (.cells (x.1.cells x.2) 45))) := hid ((Below.refl _ _).alloc (Nat.le_refl _) _)
  have a31 : (w.alloc (.cells (x.1.cells x.2) 45)).cell? ⟨w.heap.size, 31, none⟩ = some (.slice x.2.B x.1.xs.length x.2.cB) := (Row.new w 45 (x.1.cells x.2)).cell 31
  have HC := hid (containsI_any x.2.B x.1.xs x.1.xs.length x.2.cB B (w.alloc (.cells (x.1.cells x.2) 45)) (hm.b.below HB0.out hB) rfl hm.cb (by simp; omega) hm.lb)
  unfold badM
  generalize x.1.xs.any badI = b at *
  generalize x.1.cells x.2 = Y at *
  clear hm
  go_enter Tryz.func32, Tryz.ntmps32
  go_wp2_with (go_at_call 53; refine HC.out.mono ?_; rintro e w2 ⟨rfl, hb2⟩)
  go_ret
  exact ⟨rfl, HB0.out.trans (hb2.mono HB0.out.size)⟩
set_option maxHeartbeats 2000000 in
theorem indexM_any (A : Option Addr) (l : List LP) (n c B : Nat) (w : World) (hr : Lm w B A l) (hn : n = l.length) (hc : n ≤ c) (hB : B ≤ w.heap.size) (hb : n ≤ 9223372036854775807) :
    Calls Tryz.prog 52 #[.slice A n c, .func (.func 32) #[] #[]] w (IX w (l.any badM)) := by
  have HN := hid hn
  have HR : Hid (∀ W, Below w.heap.size w W → Lm W B A l) := hid fun W hW => hr.below hW hB
  have HZ := hid mssize
  have HP := hid (fun (x : LP) (hx : x ∈ l) (W : World) (hW : Below w.heap.size w W) => unclean_any x B W ((hr.pl x hx).below hW hB) (Nat.le_trans hB hW.size))
  have HFX := hid (fun (k : Nat) (h : k < l.length) => anyB_yes badM l k h)
  have HNX := hid (fun (k : Nat) (h : k < l.length) => anyB_snoc badM l k h)
  have HEND : Hid ((l.take n).any badM = false → l.any badM = false) := hid (by rw [hn, List.take_length]; exact id)
  obtain ⟨anyv, hA⟩ : ∃ b, l.any badM = b := ⟨_, rfl⟩
  rw [hA] at HFX HEND ⊢
  clear hA
  have hbe := Below.refl w.heap.size w
  clear hn hr
  go_enter Tryz.func52, Tryz.ntmps52
  go_wp2_with fail
  go_loopw [8] (fun i wr => ∃ k : Nat, k ≤ n ∧ i = .int .i64 (k : Int) ∧ Hid ((l.take k).any badM = false) ∧ Below w.heap.size w wr) (fun i _ => n - (intOf i).toNat)
  case atStart => exact ⟨0, by omega, rfl, hid rfl, hbe⟩
  case round =>
    obtain ⟨k, hk, rfl, HT, hbe2⟩ := hrel
    have HBE := hid hbe2
    by_cases hlt : k < n
    · have hkl : k < l.length := by rw [← HN.out]; exact hlt
      obtain ⟨g, o, rfl, hg, hrg⟩ := (HR.out wr HBE.out).at_ k hkl
      have HRG : Hid (wr.rangeAt g (o + k * 33) (Array.toList (l[k].1.cells l[k].2))) := hid hrg
      have HPX := hid (HP.out l[k] (List.getElem_mem hkl) wr HBE.out)
      have HY := hid (HFX.out k hkl)
      have HX := hid (HNX.out k hkl HT.out)
      have hi : (k : Int) < (n : Int) := by omega
      have hi0 : (0 : Int) ≤ (k : Int) := by omega
      generalize l[k] = X at *
      clear hrg hkl hg HR HT hbe2 HP HFX HNX
      cases hpx : (badM X)
      · rw [hpx] at HPX HX
        have HX2 := hid (HX.out rfl)
        clear hpx HY HX
        go_wp2_with (first
          | ((with_reducible show wpList _ _ _ ({ dst := some 15, op := _, type := _, pos := _, after := _, guard := _ } :: _) _ _); refine wpList_load_mid rfl 45 (.tmp 14) rfl g (o + k * 33) rfl (Array.toList (X.1.cells X.2)) _ (HRG.out) Tryz.underlying45 rfl (by exact HZ.out) ?_)
          | (go_at_call 32; refine HPX.out.mono ?_; rintro e w2 ⟨rfl, hb2⟩))
        go_roundw
        case rel => exact ⟨k + 1, by omega, by go_num, HX2, HBE.out.trans (hb2.mono HBE.out.size)⟩
        case measure => simp [intOf]; omega
      · rw [hpx] at HPX HY
        have HY2 := hid (HY.out rfl)
        clear hpx HY HX
        go_wp2_with (first
          | ((with_reducible show wpList _ _ _ ({ dst := some 15, op := _, type := _, pos := _, after := _, guard := _ } :: _) _ _); refine wpList_load_mid rfl 45 (.tmp 14) rfl g (o + k * 33) rfl (Array.toList (X.1.cells X.2)) _ (HRG.out) Tryz.underlying45 rfl (by exact HZ.out) ?_)
          | (go_at_call 32; refine HPX.out.mono ?_; rintro e w2 ⟨rfl, hb2⟩))
        go_ret
        exact ⟨k, rfl, by rw [HY2.out]; simp, HBE.out.trans (hb2.mono HBE.out.size)⟩
    · obtain rfl : k = n := by omega
      have HE := hid (HEND.out HT.out)
      clear hbe2
      go_wp2_with fail
      go_ret
      exact ⟨-1, rfl, by rw [HE.out]; rfl, HBE.out⟩
set_option maxHeartbeats 1000000 in
theorem containsM_any (A : Option Addr) (l : List LP) (n c B : Nat) (w : World) (hr : Lm w B A l) (hn : n = l.length) (hc : n ≤ c) (hB : B ≤ w.heap.size) (hb : n ≤ 9223372036854775807) :
    Calls Tryz.prog 31 #[.slice A n c, .func (.func 32) #[] #[]] w (VE w (.bool (l.any badM))) := by
  have HI := hid (indexM_any A l n c B w hr hn hc hB hb)
  generalize l.any badM = b at *
  clear hr hn hc
  go_enter Tryz.func31, Tryz.ntmps31
  go_wp2_with (go_at_call 52; refine HI.out.mono ?_; rintro e w2 ⟨i, rfl, hi, hb2⟩)
  go_ret
  exact ⟨by first | rfl | rw [← hi] | simp [← hi], hb2⟩
/-- are these logs enough to choose from? -/
def decQ (count : Int) (L : List LP) : Bool := (L.length : Int) == count || (decide (enoughQ count ≤ (L.length : Int)) && !L.any badM)
set_option maxHeartbeats 1000000 in
theorem decided_any (count : Int) (A : Option Addr) (L : List LP) (n c B : Nat) (w : World) (hr : Lm w B A L) (hn : n = L.length) (hc : n ≤ c) (hB : B ≤ w.heap.size) (hb : n ≤ 9223372036854775807) :
    Calls Tryz.prog 20 #[.int .i64 count, .slice A n c] w (VE w (.bool (decQ count L))) := by
  have HE := hid (fun W => qenough_any count W)
  have HC := hid (containsM_any A L n c B w hr hn hc hB hb)
  unfold decQ
  rw [← hn]
  clear hr hn
  generalize enoughQ count = q at *
  generalize L.any badM = b at *
  cases h1 : ((n : Int) == count)
  · by_cases h2 : q ≤ (n : Int)
    · rw [decide_eq_true h2]
      go_enter Tryz.func20, Tryz.ntmps20
      go_wp2_with (first
        | (go_at_call 30; refine (HE.out _).mono ?_; rintro e w1 ⟨rfl, rfl⟩)
        | (go_at_call 31; refine HC.out.mono ?_; rintro e w2 ⟨rfl, hb2⟩))
      go_ret
      exact ⟨by simp, hb2⟩
    · rw [decide_eq_false h2]
      go_enter Tryz.func20, Tryz.ntmps20
      go_wp2_with (first
        | (go_at_call 30; refine (HE.out _).mono ?_; rintro e w1 ⟨rfl, rfl⟩))
      go_ret
      exact ⟨by simp, Below.refl _ _⟩
  · go_enter Tryz.func20, Tryz.ntmps20
    go_wp2_with fail
    go_ret
    exact ⟨by simp, Below.refl _ _⟩
end Go.Proofs.YteahbalcielhpaaGreatDoor
/-
  MaxFunc over logs, the checkpoint, the commit.
-/
namespace Go.Proofs.YteahbalcielhpaaGreatDoor
open Go.RowKit
set_option maxRecDepth 10000

/-- the one with the greatest checkpoint of these -/
def farK (a : LP) (L : List LP) : LP := L.foldl (fun a x => if a.1.check.opn < x.1.check.opn then x else a) a
theorem farK_snoc (a : LP) (L : List LP) (k : Nat) (h : k < L.length) : farK a (L.take (k + 1)) = if (farK a (L.take k)).1.check.opn < L[k].1.check.opn then L[k] else farK a (L.take k) := by
  unfold farK
  rw [List.take_succ_eq_append_getElem h, List.foldl_append]
  rfl
theorem cmp_pos (a b : Int) : decide (0 < cmpI a b) = decide (b < a) := by
  unfold cmpI
  by_cases h1 : a < b
  · rw [if_pos h1, decide_eq_false (by omega : ¬ b < a)]; rfl
  · rw [if_neg h1]
    by_cases h2 : b < a
    · rw [if_pos h2, decide_eq_true h2]; rfl
    · rw [if_neg h2, decide_eq_false h2]; rfl
set_option maxHeartbeats 4000000 in
theorem maxf_any (A : Option Addr) (L : List LP) (n c B : Nat) (w : World) (hr : Lm w B A L) (hn : n = L.length) (hc : n ≤ c) (hB : B ≤ w.heap.size) (hb : n ≤ 9223372036854775807) (h1 : 0 < n) (a : LP) (ha : L.head? = some a) :
    Calls Tryz.prog 33 #[.slice A n c, .func (.func 34) #[] #[]] w (VE w (.agg ((farK a L).1.cells (farK a L).2))) := by
  have hz := zero33
  have hzs := z33_size
  have hzn := z33_ne
  have HZS := hid mssize
  have HN := hid hn
  have HR : Hid (∀ W, Below w.heap.size w W → Lm W B A L) := hid fun W hW => hr.below hW hB
  have HF := hid (fun (x y : LP) (W : World) => farther_any x.1 y.1 x.2 y.2 W)
  have hL0 : 0 < L.length := by omega
  have haL : a = L[0] := by
    rw [List.head?_eq_getElem?, List.getElem?_eq_getElem hL0] at ha
    exact (Option.some.inj ha).symm
  have HS1 : Hid (farK a (L.take 1) = a) := hid (by
    rw [farK_snoc a L 0 hL0, ← haL]
    show (if a.1.check.opn < a.1.check.opn then a else a) = a
    rw [if_neg (by omega)])
  have HEND : Hid (farK a (L.take n) = farK a L) := hid (by rw [hn, List.take_length])
  have HSN := hid (fun (k : Nat) (h : k < L.length) => farK_snoc a L k h)
  generalize farK a L = END at *
  obtain ⟨g, o, rfl, hg, hrg⟩ := (hr.at_ 0 hL0)
  rw [← haL] at hrg
  rw [Nat.zero_mul, Nat.add_zero] at hrg
  have HG := hid (show g < w.heap.size by omega)
  have HB0 : Hid (Below w.heap.size w (w.alloc (.cells z33 45))) := hid ((Below.refl _ _).alloc (Nat.le_refl _) _)
  have HRG0 : Hid ((w.alloc (.cells z33 45)).rangeAt g o (Array.toList (a.1.cells a.2))) := hid (range_below hrg HB0.out HG.out)
  have R0 : Hid (Row (w.alloc (.cells z33 45)) w.heap.size 45 z33.toList) := hid (Row.new _ _ _)
  have h1' : ¬ ((n : Int) < 1) := by omega
  have h1'' : (0 : Int) < (n : Int) := by omega
  have HAX : Hid (farK a (L.take 1) = a) := HS1
  clear HS1
  obtain ⟨X0, hX0⟩ : ∃ X : LP, X = a := ⟨_, rfl⟩
  rw [← hX0] at HRG0
  have HS1 : Hid (farK a (L.take 1) = X0) := hid (by rw [hX0]; exact HAX.out)
  have HX0 := hid hX0
  clear hr hn hrg hg haL ha hL0 HAX hX0 hB
  go_enter Tryz.func33, Tryz.ntmps33
  go_wp2_with (first
        | ((with_reducible show wpList _ _ _ ({ dst := some 13, op := _, type := _, pos := _, after := _, guard := _ } :: _) _ _); refine wpList_load_mid rfl 45 (.tmp 12) rfl g (o) rfl (Array.toList (X0.1.cells X0.2)) _ (HRG0.out) Tryz.underlying45 rfl (by exact HZS.out) ?_)
        | ((with_reducible show wpList _ _ _ ({ dst := none, op := .store _ (.tmp 5) (.tmp 13), type := _, pos := _, after := _, guard := _ } :: _) _ _); refine wpl_store_st rfl (.tmp 5) (.tmp 13) rfl HZS.out (w.heap.size + 1) (z33) (X0.1.cells X0.2) rfl rfl (by have h := Row.new (w.alloc (.cells z33 45)) 45 z33; rw [World.size_alloc] at h; exact h) ?_ (hid (by first | rfl | simp)) (hid (by first | rfl | simp)) (hid (msc_one _ _)); intro w1 hr1 hg1; have R1 := hid hr1; have HB1 := hid ((HB0.out.alloc HB0.out.size (.cells z33 45)).trans (below_grown hg1 (by omega) (by simp; omega))); have R0b := hid ((R0.out.alloc (.cells z33 45)).grown hg1 (by intro e; have := Option.some.inj e; omega)); clear hr1 hg1))
  go_loopw [6] (fun i wr => ∃ k : Nat, 1 ≤ k ∧ k ≤ n ∧ i = .int .i64 (k : Int) ∧ ∃ X : LP, Hid (farK a (L.take k) = X) ∧ Hid (Row wr (w.heap.size + 1) 45 (X.1.cells X.2).toList) ∧ Hid (Row wr w.heap.size 45 z33.toList) ∧ Hid (Below w.heap.size w wr)) (fun i _ => n - (intOf i).toNat)
  case atStart => exact ⟨1, Nat.le_refl _, by omega, rfl, X0, HS1, R1, R0b, HB1⟩
  case round =>
    clear R1 R0b HB1 HS1 R0 HB0 HRG0
    obtain ⟨k, hk1, hk, rfl, X, HX, R1, R0, HB1⟩ := hrel
    by_cases hlt : k < n
    · have hkl : k < L.length := by rw [← HN.out]; exact hlt
      obtain ⟨g', o', e', -, hrg⟩ := (HR.out wr HB1.out).at_ k hkl
      cases e'
      have HRG : Hid (∀ W, wr.drew = W ∨ Below wr.heap.size wr W → W.rangeAt g (o + k * 33) (Array.toList (L[k].1.cells L[k].2))) := hid (by
        rintro W (rfl | hW)
        · exact hrg
        · exact range_below hrg hW (by have := HG.out; have := HB1.out.size; omega))
      have HSX := hid (HSN.out k hkl)
      have hi : (k : Int) < (n : Int) := by omega
      have hi0 : (0 : Int) ≤ (k : Int) := by omega
      rw [HX.out] at HSX
      generalize L[k] = Y at *
      have HFY := hid (HF.out Y X)
      have HC := hid (cmp_pos Y.1.check.opn X.1.check.opn)
      generalize cmpI Y.1.check.opn X.1.check.opn = cv at *
      have HLT : Hid (w.heap.size + 1 < wr.heap.size) := hid R1.out.lt
      clear hrg hkl HF HR HSN
      go_wp2_with fail
      refine wp_region_held_drew (S := (fun W => Below wr.heap.size wr W ∧ Row W (w.heap.size + 1) 45 (X.1.cells X.2).toList)) (by kernel_rfl) (⟨(Below.refl _ _).drew, R1.out.drew⟩) (fun hH => ?_)
      refine tk_ (i := 0) (v := .func (.func 34) #[] #[]) rfl (Or.inl ⟨by rfl, fun w' hw' => by clear hw'; go_simp⟩) hH ?_
      simp only [Act.put, la1, la3, la4, la5, la6]
      refine tk_ (i := 1) (v := .slice (some ⟨g, o, none⟩) n c) rfl (Or.inl ⟨by rfl, fun w' hw' => by clear hw'; go_simp⟩) hH ?_
      simp only [Act.put, la1, la2, la3, la4, la5, la6]
      refine tk_ (i := 2) (v := .int .i64 (k : Int)) rfl (Or.inl ⟨by rfl, fun w' hw' => by clear hw'; go_simp⟩) hH ?_
      simp only [Act.put, la1, la2, la3, la4, la5, la6]
      refine tk_ (i := 3) (v := .pointer (some ⟨g, o + k * 33, none⟩)) rfl (Or.inl ⟨by rfl, fun w' hw' => by clear hw'; go_simp⟩) hH ?_
      simp only [Act.put, la1, la2, la3, la4, la5, la6]
      refine tk_ (i := 4) (v := .agg (Y.1.cells Y.2)) rfl (yieldsIf_load_mid rfl 45 (.tmp 23) rfl (g) (o + k * 33) rfl (Array.toList (Y.1.cells Y.2)) _ (fun W hW => HRG.out W (.inr hW.1)) Tryz.underlying45 rfl (by exact HZS.out)) hH ?_
      simp only [Act.put, la1, la2, la3, la4, la5, la6]
      refine tk_ (i := 5) (v := .agg (X.1.cells X.2)) rfl (yieldsIf_load_mid rfl 45 (.tmp 5) rfl (w.heap.size + 1) (0) rfl (Array.toList (X.1.cells X.2)) _ (fun W hW => Row.range hW.2) Tryz.underlying45 rfl (by exact HZS.out)) hH ?_
      simp only [Act.put, la1, la2, la3, la4, la5, la6]
      refine rd1 (i := 6) (by kernel_rfl) rfl (fun K hK => ?_)
      go_simp
      go_at_call 34
      refine (HFY.out _).mono ?_
      rintro e w2 ⟨rfl, hb1⟩
      go_wp2_with fail
      refine hK.out _ _ (⟨hH.1.trans (hb1.mono hH.1.size), hH.2.below hb1 hH.2.lt⟩) (fun hH => ?_)
      clear hK K
      try simp only [Act.put, la1, la2, la3, la4, la5, la6]
      refine tk_ (i := 7) (v := .bool (decide (0 < cv))) rfl (Or.inl ⟨by rfl, fun w' hw' => by clear hw'; go_simp⟩) hH ?_
      simp only [Act.put, la1, la2, la3, la4, la5, la6]
      refine wpAnyH_done (by kernel_rfl) ?_ _
      try simp only [Act.put, la1, la2, la3, la4, la5, la6]
      by_cases hgt : X.1.check.opn < Y.1.check.opn
      · rw [if_pos hgt] at HSX
        rw [decide_eq_true hgt] at HC
        have hcv : 0 < cv := of_decide_eq_true HC.out
        obtain ⟨hH1, hH2⟩ := hH
        have HB2 := hid (HB1.out.trans (hH1.mono HB1.out.size))
        have R2 := hid hH2
        have R3 := hid (R0.out.below hH1 R0.out.lt)
        have HRG2 := hid (HRG.out _ (.inr hH1))
        clear hH1 hH2
        go_wp2_with (first
          | ((with_reducible show wpList _ _ _ ({ dst := some 31, op := _, type := _, pos := _, after := _, guard := _ } :: _) _ _); refine wpList_load_mid rfl 45 (.tmp 30) rfl g (o + k * 33) rfl (Array.toList (Y.1.cells Y.2)) _ (HRG2.out) Tryz.underlying45 rfl (by exact HZS.out) ?_)
          | ((with_reducible show wpList _ _ _ ({ dst := none, op := .store _ (.tmp 5) (.tmp 31), type := _, pos := _, after := _, guard := _ } :: _) _ _); refine wpl_store_st rfl (.tmp 5) (.tmp 31) rfl HZS.out (w.heap.size + 1) (X.1.cells X.2) (Y.1.cells Y.2) rfl rfl (R2.out) ?_ (hid (by first | rfl | simp)) (hid (by first | rfl | simp)) (hid (msc_one _ _)); intro w9 hr9 hg9))
        go_roundw
        case rel => exact ⟨k + 1, by omega, by omega, by go_num, Y, HSX, hid hr9, hid (R3.out.grown hg9 (by intro e; have := Option.some.inj e; omega)), hid (HB2.out.trans (below_grown hg9 (by omega) HB2.out.size))⟩
        case measure => simp [intOf]; omega
      · rw [if_neg hgt] at HSX
        rw [decide_eq_false hgt] at HC
        have hcv : ¬ 0 < cv := of_decide_eq_false HC.out
        go_wp2_with fail
        go_roundw
        case rel => exact ⟨k + 1, by omega, by omega, by go_num, X, HSX, hid hH.2, hid (R0.out.below hH.1 R0.out.lt), hid (HB1.out.trans (hH.1.mono HB1.out.size))⟩
        case measure => simp [intOf]; omega
    · obtain rfl : k = n := by omega
      rw [HEND.out] at HX
      obtain rfl := HX.out
      go_wp2_with (first
        | ((with_reducible show wpList _ _ _ ({ dst := some 32, op := _, type := _, pos := _, after := _, guard := _ } :: _) _ _); refine wpList_load_row rfl 45 (.tmp 5) rfl (w.heap.size + 1) rfl 45 (END.1.cells END.2) (0, 0) _ (Row.arr R1.out) Tryz.underlying45 rfl HZS.out ?_)
        | ((with_reducible show wpList _ _ _ ({ dst := none, op := .store _ (.tmp 4) (.tmp 32), type := _, pos := _, after := _, guard := _ } :: _) _ _); refine wpl_store_st rfl (.tmp 4) (.tmp 32) rfl HZS.out (w.heap.size) (z33) (END.1.cells END.2) rfl rfl (R0.out) ?_ (hid (by first | rfl | simp)) (hid (by first | rfl | simp)) (hid (msc_one _ _)); intro w9 hr9 hg9))
      exact bodyPost_ret (v := .agg (END.1.cells END.2)) (results_cell_row rfl _ _ w.heap.size 45 (END.1.cells END.2) (0, 0) _ rfl (Row.arr (cs := END.1.cells END.2) hr9) Tryz.underlying45 rfl HZS.out) rfl ⟨rfl, HB1.out.trans (below_grown hg9 (Nat.le_refl _) HB1.out.size)⟩
set_option maxHeartbeats 1000000 in
theorem check_any (A : Option Addr) (L : List LP) (n c B : Nat) (w : World) (hr : Lm w B A L) (hn : n = L.length) (hc : n ≤ c) (hB : B ≤ w.heap.size) (hb : n ≤ 9223372036854775807) (h1 : 0 < n) (a : LP) (ha : L.head? = some a) :
    Calls Tryz.prog 21 #[.slice A n c] w (VE w (farK a L).1.check.val) := by
  have HZK := hid msize
  have HB0 : Hid (Below w.heap.size w (w.alloc (.cells #[.int .i64 0, .int .i64 0, .int .u64 0] 27))) := hid ((Below.refl _ _).alloc (Nat.le_refl _) _)
  have R0 : Hid (Row (w.alloc (.cells #[.int .i64 0, .int .i64 0, .int .u64 0] 27)) w.heap.size 27 (#[.int .i64 0, .int .i64 0, .int .u64 0] : Array Value).toList) := hid (Row.new _ _ _)
  have HM := hid (maxf_any A L n c B _ (hr.below HB0.out hB) hn hc (by simp; omega) hb h1 a ha)
  generalize farK a L = X at *
  clear hr hn ha
  show Calls _ _ _ _ (VE w (.agg X.1.check.cells))
  go_enter Tryz.func21, Tryz.ntmps21
  go_wp2_with (first
        | (go_at_call 33; refine (HM.out).mono ?_; rintro e w1 ⟨rfl, hb1⟩; have R1 := hid (R0.out.below hb1 R0.out.lt); have HB1 := hid (HB0.out.trans (hb1.mono HB0.out.size)); clear hb1)
        | ((with_reducible show wpList _ _ _ ({ dst := some 5, op := _, type := _, pos := _, after := _, guard := _ } :: _) _ _); refine wpl_run rfl (.agg X.1.check.cells) (fun _ => by kernel_rfl) ?_)
        | ((with_reducible show wpList _ _ _ ({ dst := none, op := .store _ (.tmp 2) (.tmp 5), type := _, pos := _, after := _, guard := _ } :: _) _ _); refine wpl_store_st rfl (.tmp 2) (.tmp 5) rfl HZK.out (w.heap.size) (#[.int .i64 0, .int .i64 0, .int .u64 0]) (X.1.check.cells) rfl rfl (R1.out) ?_ (hid (by first | rfl | simp)) (hid (by first | rfl | simp)) (hid (mcells_one _)); intro w9 hr9 hg9))
  exact bodyPost_ret (v := .agg X.1.check.cells) (results_cell_row rfl _ _ w.heap.size 27 X.1.check.cells (0, 0) _ rfl (Row.arr (cs := X.1.check.cells) hr9) Tryz.underlying27 rfl HZK.out) rfl ⟨rfl, HB1.out.trans (below_grown hg9 (Nat.le_refl _) HB1.out.size)⟩
/-- how much is known to be done -/
def comQ (c : Int) (L : List LP) : Int := L.foldl (fun t x => max t x.1.commit) c
theorem comQ_snoc (c : Int) (L : List LP) (k : Nat) (h : k < L.length) : comQ c (L.take (k + 1)) = max (comQ c (L.take k)) L[k].1.commit := by
  unfold comQ
  rw [List.take_succ_eq_append_getElem h, List.foldl_append]
  rfl
set_option maxHeartbeats 2000000 in
theorem commit_any (m : Mk) (A : Option Addr) (L : List LP) (n c B : Nat) (w : World) (hr : Lm w B A L) (hn : n = L.length) (hc : n ≤ c) (hB : B ≤ w.heap.size) (hb : n ≤ 9223372036854775807) :
    Calls Tryz.prog 22 #[.agg m.cells, .slice A n c] w (VE w (.int .i64 (comQ m.opn L))) := by
  have hz := zero33
  have hzs := z33_size
  have hzn := z33_ne
  have HZS := hid mssize
  have HN := hid hn
  have HR : Hid (∀ W, Below w.heap.size w W → Lm W B A L) := hid fun W hW => hr.below hW hB
  have HB0 : Hid (Below w.heap.size w (w.alloc (.cells m.cells 27))) := hid ((Below.refl _ _).alloc (Nat.le_refl _) _)
  have a0 : (w.alloc (.cells m.cells 27)).cell? ⟨w.heap.size, 0, none⟩ = some (.int .i64 m.opn) := (Row.new w 27 m.cells).cell 0
  have HEND : Hid (comQ m.opn (L.take n) = comQ m.opn L) := hid (by rw [hn, List.take_length])
  have HS0 : Hid (comQ m.opn (L.take 0) = m.opn) := hid rfl
  have HSN := hid (fun (k : Nat) (h : k < L.length) => comQ_snoc m.opn L k h)
  generalize comQ m.opn L = END at *
  generalize m.cells = Y at *
  clear hr hn
  go_enter Tryz.func22, Tryz.ntmps22
  go_wp2_with fail
  go_loopw [5, 12] (fun v i wr => ∃ k : Nat, k ≤ n ∧ i = .int .i64 (k : Int) ∧ ∃ t : Int, v = .int .i64 t ∧ Hid (comQ m.opn (L.take k) = t) ∧ Hid (Below w.heap.size w wr)) (fun _ i _ => n - (intOf i).toNat)
  case atStart => exact ⟨0, by omega, rfl, m.opn, rfl, HS0, HB0⟩
  case round =>
    obtain ⟨k, hk, rfl, t, rfl, HT, HBE⟩ := hrel
    by_cases hlt : k < n
    · have hkl : k < L.length := by rw [← HN.out]; exact hlt
      obtain ⟨g, o, rfl, hg, hrg⟩ := (HR.out wr HBE.out).at_ k hkl
      have HRG : Hid (wr.rangeAt g (o + k * 33) (Array.toList (L[k].1.cells L[k].2))) := hid hrg
      have HSX := hid (HSN.out k hkl)
      rw [HT.out] at HSX
      generalize L[k] = X at *
      have hi : (k : Int) < (n : Int) := by omega
      have hi0 : (0 : Int) ≤ (k : Int) := by omega
      clear hrg hkl hg HR HSN HT
      go_wp2_with (first
        | ((with_reducible show wpList _ _ _ ({ dst := some 15, op := _, type := _, pos := _, after := _, guard := _ } :: _) _ _); refine wpList_load_mid rfl 45 (.tmp 14) rfl g (o + k * 33) rfl (Array.toList (X.1.cells X.2)) _ (HRG.out) Tryz.underlying45 rfl (by exact HZS.out) ?_)
        | ((with_reducible show wpList _ _ _ ({ dst := none, op := .store _ (.tmp 7) (.tmp 15), type := _, pos := _, after := _, guard := _ } :: _) _ _); refine wpl_store_st rfl (.tmp 7) (.tmp 15) rfl HZS.out (wr.heap.size) (z33) (X.1.cells X.2) rfl rfl (Row.new _ _ _) ?_ (hid (by first | rfl | simp)) (hid (by first | rfl | simp)) (hid (msc_one _ _)); intro w9 hr9 hg9; have HB2 := hid ((HBE.out.alloc HBE.out.size (.cells z33 45)).trans (below_grown hg9 HBE.out.size (by simp; have := HBE.out.size; omega))); have c5 : w9.cell? ⟨wr.heap.size, 5, none⟩ = some (.int .i64 X.1.commit) := hr9.cell 5; clear hr9 hg9))
      go_roundw
      case rel => exact ⟨k + 1, by omega, by go_num, _, rfl, hid (by first | exact HSX.out | (rw [HSX.out]; split <;> omega)), HB2⟩
      case measure => simp [intOf]; omega
    · obtain rfl : k = n := by omega
      rw [HEND.out] at HT
      obtain rfl := HT.out
      go_wp2_with fail
      go_ret
      exact ⟨rfl, HBE.out⟩
end Go.Proofs.YteahbalcielhpaaGreatDoor
/-
  The program's holding.
-/
namespace Go.Proofs.YteahbalcielhpaaGreatDoor
open Go.RowKit
set_option maxRecDepth 10000

theorem find_some18 {α : Type} (p : α → Bool) (l : List α) (k : Nat) (h : k < l.length) (ht : (l.take k).find? p = none) (hk : p l[k] = true) : l.find? p = some l[k] := by
  have e : l = l.take k ++ l[k] :: l.drop (k + 1) := by rw [List.getElem_cons_drop, List.take_append_drop]
  conv => lhs; rw [e]
  rw [List.find?_append, ht, List.find?_cons, hk]
  rfl
theorem find_none18 {α : Type} (p : α → Bool) (l : List α) (k : Nat) (h : k < l.length) (ht : (l.take k).find? p = none) (hk : p l[k] = false) : (l.take (k + 1)).find? p = none := by
  rw [List.take_succ_eq_append_getElem h, List.find?_append, ht, List.find?_cons, hk]
  rfl
def isH (n : Int) (s : St) (x : LP) : Bool := decide ((saysC x.1 n).kind = 1 ∧ (saysC x.1 n).stub = s)
def hldQ (L : List LP) (n : Int) (s : St) : En := match L.find? (isH n s) with | some x => (saysC x.1 n).entry | none => en0
theorem hldQ_eq (L : List LP) (n : Int) (s : St) : hldQ L n s = hldP18 (L.map Prod.fst) n s := by
  unfold hldQ hldP18 heldC
  rw [List.find?_map]
  have e : (fun m : Ms => decide ((saysC m n).kind = 1 ∧ (saysC m n).stub = s)) ∘ Prod.fst = isH n s := rfl
  rw [e]
  cases L.find? (isH n s) <;> rfl
theorem hldQ_some {L : List LP} {n : Int} {s : St} {x : LP} (h : L.find? (isH n s) = some x) : hldQ L n s = (saysC x.1 n).entry := by unfold hldQ; rw [h]
theorem hldQ_none {L : List LP} {n : Int} {s : St} (h : L.find? (isH n s) = none) : hldQ L n s = en0 := by unfold hldQ; rw [h]
set_option maxHeartbeats 4000000 in
theorem holding_any (n : Int) (s : St) (A : Option Addr) (L : List LP) (q c B : Nat) (w : World) (hr : Lm w B A L) (hf : LogF L) (hn : q = L.length) (hc : q ≤ c) (hB : B ≤ w.heap.size) (hb : q ≤ 9223372036854775807) (hn1 : 1 ≤ n ∧ n ≤ 1152921504606846976) :
    Calls Tryz.prog 36 #[.int .i64 n, .agg s.cells, .slice A q c] w (VE w (.agg (hldQ L n s).cells)) := by
  have hz := zero33
  have hzs := z33_size
  have hzn := z33_ne
  have HZS := hid mssize
  have HZI := hid isize
  have HZE := hid esize
  have HZT := hid stsizeM
  have HN := hid hn
  have HR : Hid (∀ W, Below w.heap.size w W → Lm W B A L) := hid fun W hW => hr.below hW hB
  have HSY := hid (fun (x : LP) (hx : x ∈ L) (W : World) (hW : Below w.heap.size w W) => says_any x.1 x.2 B n W ((hr.pl x hx).below hW hB) (Nat.le_trans hB hW.size) (hf.xs hx) hn1 (hf.chk hx))
  have HFS := hid (fun (k : Nat) (h : k < L.length) => find_some18 (isH n s) L k h)
  have HFN := hid (fun (k : Nat) (h : k < L.length) => find_none18 (isH n s) L k h)
  have HQS := hid (fun (x : LP) => @hldQ_some L n s x)
  have HQN : Hid ((L.take q).find? (isH n s) = none → hldQ L n s = en0) := hid (by rw [hn, List.take_length]; exact hldQ_none)
  generalize hldQ L n s = END at *
  have HB0 : Hid (Below w.heap.size w ((w.alloc (.cells s.cells 38)).alloc (.cells #[.int .i64 0, .int .i64 0, .int .i64 0, .int .u64 0, .int .i64 0, .int .i64 0, .int .i64 0, .int .i64 0, .string ⟨#[]⟩] 35))) := hid (((Below.refl _ _).alloc (Nat.le_refl _) _).alloc (by simp) _)
  have RS : Hid (Row ((w.alloc (.cells s.cells 38)).alloc (.cells #[.int .i64 0, .int .i64 0, .int .i64 0, .int .u64 0, .int .i64 0, .int .i64 0, .int .i64 0, .int .i64 0, .string ⟨#[]⟩] 35)) w.heap.size 38 s.cells.toList) := hid ((Row.new _ _ _).alloc _)
  have RE : Hid (Row ((w.alloc (.cells s.cells 38)).alloc (.cells #[.int .i64 0, .int .i64 0, .int .i64 0, .int .u64 0, .int .i64 0, .int .i64 0, .int .i64 0, .int .i64 0, .string ⟨#[]⟩] 35)) (w.heap.size + 1) 35 (#[.int .i64 0, .int .i64 0, .int .i64 0, .int .u64 0, .int .i64 0, .int .i64 0, .int .i64 0, .int .i64 0, .string ⟨#[]⟩] : Array Value).toList) := hid (by have h := Row.new (w.alloc (.cells s.cells 38)) 35 #[.int .i64 0, .int .i64 0, .int .i64 0, .int .u64 0, .int .i64 0, .int .i64 0, .int .i64 0, .int .i64 0, .string ⟨#[]⟩]; rw [World.size_alloc] at h; exact h)
  have hsS : s.cells = s.cells := rfl
  clear hr hn hf hn1 hsS
  go_enter Tryz.func36, Tryz.ntmps36
  go_wp2_with fail
  go_loopw [12] (fun i wr => ∃ k : Nat, k ≤ q ∧ i = .int .i64 (k : Int) ∧ Hid ((L.take k).find? (isH n s) = none) ∧ Hid (Row wr w.heap.size 38 s.cells.toList) ∧ Hid (Row wr (w.heap.size + 1) 35 (#[.int .i64 0, .int .i64 0, .int .i64 0, .int .u64 0, .int .i64 0, .int .i64 0, .int .i64 0, .int .i64 0, .string ⟨#[]⟩] : Array Value).toList) ∧ Hid (Below w.heap.size w wr)) (fun i _ => q - (intOf i).toNat)
  case atStart => exact ⟨0, by omega, rfl, hid rfl, RS, RE, HB0⟩
  case round =>
    clear RS RE HB0
    obtain ⟨k, hk, rfl, HT, RS, RE, HBE⟩ := hrel
    by_cases hlt : k < q
    · have hkl : k < L.length := by rw [← HN.out]; exact hlt
      obtain ⟨g, o, rfl, hg, hrg⟩ := (HR.out wr HBE.out).at_ k hkl
      have HRG : Hid (wr.rangeAt g (o + k * 33) (Array.toList (L[k].1.cells L[k].2))) := hid hrg
      have HS := hid (HSY.out L[k] (List.getElem_mem hkl))
      have HFS2 := hid (HFS.out k hkl HT.out)
      have HFN2 := hid (HFN.out k hkl HT.out)
      have HQ2 := hid (HQS.out L[k])
      generalize L[k] = X at *
      have hi : (k : Int) < (q : Int) := by omega
      have hi0 : (0 : Int) ≤ (k : Int) := by omega
      have HLT : Hid (w.heap.size + 1 < wr.heap.size) := hid RE.out.lt
      have HP : Hid (isH n s X = decide ((saysC X.1 n).kind = 1 ∧ (saysC X.1 n).stub = s)) := hid rfl
      generalize saysC X.1 n = x at *
      clear hrg hkl hg HR HT HFS HFN HQS
      cases h1 : (x.kind == 1)
      · have HX := hid (HFN2.out (by rw [HP.out]; exact decide_eq_false (fun h => by rw [h.1] at h1; cases h1)))
        clear HFS2 HQ2 HP
        go_wp2_with (first
          | ((with_reducible show wpList _ _ _ ({ dst := some 15, op := _, type := _, pos := _, after := _, guard := _ } :: _) _ _); refine wpList_load_mid rfl 45 (.tmp 14) rfl g (o + k * 33) rfl (Array.toList (X.1.cells X.2)) _ (HRG.out) Tryz.underlying45 rfl (by exact HZS.out) ?_)
          | ((with_reducible show wpList _ _ _ ({ dst := none, op := .store _ (.tmp 8) (.tmp 15), type := _, pos := _, after := _, guard := _ } :: _) _ _); refine wpl_store_st rfl (.tmp 8) (.tmp 15) rfl HZS.out (wr.heap.size) (z33) (X.1.cells X.2) rfl rfl (Row.new _ _ _) ?_ (hid (by first | rfl | simp)) (hid (by first | rfl | simp)) (hid (msc_one _ _)); intro w1 hr1 hg; have R1 := hid hr1; have HB1 := hid ((HBE.out.alloc HBE.out.size (.cells z33 45)).trans (below_grown hg (by have := HBE.out.size; omega) (by simp; have := HBE.out.size; omega))); have RS1 := hid ((RS.out.alloc (.cells z33 45)).grown hg (by intro e; have := Option.some.inj e; have := HLT.out; omega)); have RE1 := hid ((RE.out.alloc (.cells z33 45)).grown hg (by intro e; have := Option.some.inj e; have := HLT.out; omega)); clear hr1 hg)
          | ((with_reducible show wpList _ _ _ ({ dst := some 17, op := _, type := _, pos := _, after := _, guard := _ } :: _) _ _); refine wpList_load_row rfl 45 (.tmp 8) rfl (wr.heap.size) rfl 45 (X.1.cells X.2) (0, 0) _ (Row.arr R1.out) Tryz.underlying45 rfl HZS.out ?_)
          | (go_at_call 56; refine (HS.out _ HB1.out).mono ?_; rintro e w2 ⟨rfl, hb⟩; have HB2 := hid (HB1.out.trans (hb.mono HB1.out.size)); have RS2 := hid (RS1.out.below hb RS1.out.lt); have RE2 := hid (RE1.out.below hb RE1.out.lt); have HLT2 := hid (show w.heap.size + 1 < w2.heap.size by have := RE2.out.lt; omega); clear hb)
          | ((with_reducible show wpList _ _ _ ({ dst := none, op := .store _ (.tmp 9) (.tmp 18), type := _, pos := _, after := _, guard := _ } :: _) _ _); refine wpl_store_st rfl (.tmp 9) (.tmp 18) rfl HZI.out (w2.heap.size) (#[.int .i64 0, .int .i64 0, .int .i64 0, .int .i64 0, .int .u64 0, .int .u64 0, .int .i64 0, .int .i64 0, .int .i64 0, .int .u64 0, .int .i64 0, .int .i64 0, .int .i64 0, .int .i64 0, .string ⟨#[]⟩]) (x.cells) rfl rfl (Row.new _ _ _) ?_ (hid (by first | rfl | simp)) (hid (by first | rfl | simp)) (hid (itc_one _)); intro w3 hr3 hg; have R3 := hid hr3; have HB3 := hid ((HB2.out.alloc HB2.out.size (.cells #[.int .i64 0, .int .i64 0, .int .i64 0, .int .i64 0, .int .u64 0, .int .u64 0, .int .i64 0, .int .i64 0, .int .i64 0, .int .u64 0, .int .i64 0, .int .i64 0, .int .i64 0, .int .i64 0, .string ⟨#[]⟩] 40)).trans (below_grown hg (by have := HB2.out.size; omega) (by simp; have := HB2.out.size; omega))); have RS3 := hid ((RS2.out.alloc (.cells #[.int .i64 0, .int .i64 0, .int .i64 0, .int .i64 0, .int .u64 0, .int .u64 0, .int .i64 0, .int .i64 0, .int .i64 0, .int .u64 0, .int .i64 0, .int .i64 0, .int .i64 0, .int .i64 0, .string ⟨#[]⟩] 40)).grown hg (by intro e; have := Option.some.inj e; have := HLT2.out; omega)); have RE3 := hid ((RE2.out.alloc (.cells #[.int .i64 0, .int .i64 0, .int .i64 0, .int .i64 0, .int .u64 0, .int .u64 0, .int .i64 0, .int .i64 0, .int .i64 0, .int .u64 0, .int .i64 0, .int .i64 0, .int .i64 0, .int .i64 0, .string ⟨#[]⟩] 40)).grown hg (by intro e; have := Option.some.inj e; have := HLT2.out; omega)); have c0 : w3.cell? ⟨w2.heap.size, 0, none⟩ = some (.int .i64 x.kind) := hr3.cell 0; clear hr3 hg))
        go_roundw
        case rel => exact ⟨k + 1, by omega, by go_num, HX, RS3, RE3, HB3⟩
        case measure => simp [intOf]; omega
      · by_cases h2 : x.stub = s
        · have HX := hid (HQ2.out (HFS2.out (by rw [HP.out]; exact decide_eq_true ⟨by simpa using h1, h2⟩)))
          have HEQ : Hid (decide (x.stub = s) = true) := hid (decide_eq_true h2)
          clear HFN2 HP h2
          go_wp2_with (first
            | ((with_reducible show wpList _ _ _ ({ dst := some 15, op := _, type := _, pos := _, after := _, guard := _ } :: _) _ _); refine wpList_load_mid rfl 45 (.tmp 14) rfl g (o + k * 33) rfl (Array.toList (X.1.cells X.2)) _ (HRG.out) Tryz.underlying45 rfl (by exact HZS.out) ?_)
            | ((with_reducible show wpList _ _ _ ({ dst := none, op := .store _ (.tmp 8) (.tmp 15), type := _, pos := _, after := _, guard := _ } :: _) _ _); refine wpl_store_st rfl (.tmp 8) (.tmp 15) rfl HZS.out (wr.heap.size) (z33) (X.1.cells X.2) rfl rfl (Row.new _ _ _) ?_ (hid (by first | rfl | simp)) (hid (by first | rfl | simp)) (hid (msc_one _ _)); intro w1 hr1 hg; have R1 := hid hr1; have HB1 := hid ((HBE.out.alloc HBE.out.size (.cells z33 45)).trans (below_grown hg (by have := HBE.out.size; omega) (by simp; have := HBE.out.size; omega))); have RS1 := hid ((RS.out.alloc (.cells z33 45)).grown hg (by intro e; have := Option.some.inj e; have := HLT.out; omega)); have RE1 := hid ((RE.out.alloc (.cells z33 45)).grown hg (by intro e; have := Option.some.inj e; have := HLT.out; omega)); clear hr1 hg)
            | ((with_reducible show wpList _ _ _ ({ dst := some 17, op := _, type := _, pos := _, after := _, guard := _ } :: _) _ _); refine wpList_load_row rfl 45 (.tmp 8) rfl (wr.heap.size) rfl 45 (X.1.cells X.2) (0, 0) _ (Row.arr R1.out) Tryz.underlying45 rfl HZS.out ?_)
            | (go_at_call 56; refine (HS.out _ HB1.out).mono ?_; rintro e w2 ⟨rfl, hb⟩; have HB2 := hid (HB1.out.trans (hb.mono HB1.out.size)); have RS2 := hid (RS1.out.below hb RS1.out.lt); have RE2 := hid (RE1.out.below hb RE1.out.lt); have HLT2 := hid (show w.heap.size + 1 < w2.heap.size by have := RE2.out.lt; omega); clear hb)
            | ((with_reducible show wpList _ _ _ ({ dst := none, op := .store _ (.tmp 9) (.tmp 18), type := _, pos := _, after := _, guard := _ } :: _) _ _); refine wpl_store_st rfl (.tmp 9) (.tmp 18) rfl HZI.out (w2.heap.size) (#[.int .i64 0, .int .i64 0, .int .i64 0, .int .i64 0, .int .u64 0, .int .u64 0, .int .i64 0, .int .i64 0, .int .i64 0, .int .u64 0, .int .i64 0, .int .i64 0, .int .i64 0, .int .i64 0, .string ⟨#[]⟩]) (x.cells) rfl rfl (Row.new _ _ _) ?_ (hid (by first | rfl | simp)) (hid (by first | rfl | simp)) (hid (itc_one _)); intro w3 hr3 hg; have R3 := hid hr3; have HB3 := hid ((HB2.out.alloc HB2.out.size (.cells #[.int .i64 0, .int .i64 0, .int .i64 0, .int .i64 0, .int .u64 0, .int .u64 0, .int .i64 0, .int .i64 0, .int .i64 0, .int .u64 0, .int .i64 0, .int .i64 0, .int .i64 0, .int .i64 0, .string ⟨#[]⟩] 40)).trans (below_grown hg (by have := HB2.out.size; omega) (by simp; have := HB2.out.size; omega))); have RS3 := hid ((RS2.out.alloc (.cells #[.int .i64 0, .int .i64 0, .int .i64 0, .int .i64 0, .int .u64 0, .int .u64 0, .int .i64 0, .int .i64 0, .int .i64 0, .int .u64 0, .int .i64 0, .int .i64 0, .int .i64 0, .int .i64 0, .string ⟨#[]⟩] 40)).grown hg (by intro e; have := Option.some.inj e; have := HLT2.out; omega)); have RE3 := hid ((RE2.out.alloc (.cells #[.int .i64 0, .int .i64 0, .int .i64 0, .int .i64 0, .int .u64 0, .int .u64 0, .int .i64 0, .int .i64 0, .int .i64 0, .int .u64 0, .int .i64 0, .int .i64 0, .int .i64 0, .int .i64 0, .string ⟨#[]⟩] 40)).grown hg (by intro e; have := Option.some.inj e; have := HLT2.out; omega)); have c0 : w3.cell? ⟨w2.heap.size, 0, none⟩ = some (.int .i64 x.kind) := hr3.cell 0; clear hr3 hg)
            | ((with_reducible show wpList _ _ _ ({ dst := some 24, op := _, type := _, pos := _, after := _, guard := _ } :: _) _ _); refine wpl_load_midw rfl 38 (.tmp 23) rfl w2.heap.size (1) rfl (x.stub.cells.toList) _ (it_stub R3.out) Tryz.underlying38 rfl (by exact HZT.out) ?_)
            | ((with_reducible show wpList _ _ _ ({ dst := some 25, op := _, type := _, pos := _, after := _, guard := _ } :: _) _ _); refine wpl_load_want rfl 38 (.tmp 4) rfl (w.heap.size) rfl 38 (s.cells) (0, 0) _ (Row.arr RS3.out) Tryz.underlying38 rfl HZT.out ?_)
            | ((with_reducible show wpList _ _ _ ({ dst := some 26, op := _, type := _, pos := _, after := _, guard := _ } :: _) _ _); refine wpl_eqs rfl x.stub s true (.tmp 24) (.tmp 25) _ rfl rfl rfl HEQ ?_)
            | ((with_reducible show wpList _ _ _ ({ dst := some 29, op := _, type := _, pos := _, after := _, guard := _ } :: _) _ _); refine wpList_load_mid rfl 35 (.tmp 28) rfl w2.heap.size (6) rfl (x.entry.cells.toList) _ (it_entry R3.out) Tryz.underlying35 rfl (by exact HZE.out) ?_)
            | ((with_reducible show wpList _ _ _ ({ dst := none, op := .store _ (.tmp 6) (.tmp 29), type := _, pos := _, after := _, guard := _ } :: _) _ _); refine wpl_store_st rfl (.tmp 6) (.tmp 29) rfl HZE.out (w.heap.size + 1) (#[.int .i64 0, .int .i64 0, .int .i64 0, .int .u64 0, .int .i64 0, .int .i64 0, .int .i64 0, .int .i64 0, .string ⟨#[]⟩]) (x.entry.cells) rfl rfl (RE3.out) ?_ (hid (by first | rfl | simp)) (hid (by first | rfl | simp)) (hid (ecells_one _)); intro w9 hr9 hg9))
          exact bodyPost_ret (v := .agg END.cells) (results_cell_row rfl _ _ (w.heap.size + 1) 35 END.cells (0, 0) _ rfl (Row.arr (cs := END.cells) (by rw [HX.out]; exact hr9)) Tryz.underlying35 rfl HZE.out) rfl ⟨rfl, HB3.out.trans (below_grown hg9 (by omega) HB3.out.size)⟩
        · have HX := hid (HFN2.out (by rw [HP.out]; exact decide_eq_false (fun h => h2 h.2)))
          have HEQ : Hid (decide (x.stub = s) = false) := hid (decide_eq_false h2)
          clear HFS2 HQ2 HP h2
          go_wp2_with (first
            | ((with_reducible show wpList _ _ _ ({ dst := some 15, op := _, type := _, pos := _, after := _, guard := _ } :: _) _ _); refine wpList_load_mid rfl 45 (.tmp 14) rfl g (o + k * 33) rfl (Array.toList (X.1.cells X.2)) _ (HRG.out) Tryz.underlying45 rfl (by exact HZS.out) ?_)
            | ((with_reducible show wpList _ _ _ ({ dst := none, op := .store _ (.tmp 8) (.tmp 15), type := _, pos := _, after := _, guard := _ } :: _) _ _); refine wpl_store_st rfl (.tmp 8) (.tmp 15) rfl HZS.out (wr.heap.size) (z33) (X.1.cells X.2) rfl rfl (Row.new _ _ _) ?_ (hid (by first | rfl | simp)) (hid (by first | rfl | simp)) (hid (msc_one _ _)); intro w1 hr1 hg; have R1 := hid hr1; have HB1 := hid ((HBE.out.alloc HBE.out.size (.cells z33 45)).trans (below_grown hg (by have := HBE.out.size; omega) (by simp; have := HBE.out.size; omega))); have RS1 := hid ((RS.out.alloc (.cells z33 45)).grown hg (by intro e; have := Option.some.inj e; have := HLT.out; omega)); have RE1 := hid ((RE.out.alloc (.cells z33 45)).grown hg (by intro e; have := Option.some.inj e; have := HLT.out; omega)); clear hr1 hg)
            | ((with_reducible show wpList _ _ _ ({ dst := some 17, op := _, type := _, pos := _, after := _, guard := _ } :: _) _ _); refine wpList_load_row rfl 45 (.tmp 8) rfl (wr.heap.size) rfl 45 (X.1.cells X.2) (0, 0) _ (Row.arr R1.out) Tryz.underlying45 rfl HZS.out ?_)
            | (go_at_call 56; refine (HS.out _ HB1.out).mono ?_; rintro e w2 ⟨rfl, hb⟩; have HB2 := hid (HB1.out.trans (hb.mono HB1.out.size)); have RS2 := hid (RS1.out.below hb RS1.out.lt); have RE2 := hid (RE1.out.below hb RE1.out.lt); have HLT2 := hid (show w.heap.size + 1 < w2.heap.size by have := RE2.out.lt; omega); clear hb)
            | ((with_reducible show wpList _ _ _ ({ dst := none, op := .store _ (.tmp 9) (.tmp 18), type := _, pos := _, after := _, guard := _ } :: _) _ _); refine wpl_store_st rfl (.tmp 9) (.tmp 18) rfl HZI.out (w2.heap.size) (#[.int .i64 0, .int .i64 0, .int .i64 0, .int .i64 0, .int .u64 0, .int .u64 0, .int .i64 0, .int .i64 0, .int .i64 0, .int .u64 0, .int .i64 0, .int .i64 0, .int .i64 0, .int .i64 0, .string ⟨#[]⟩]) (x.cells) rfl rfl (Row.new _ _ _) ?_ (hid (by first | rfl | simp)) (hid (by first | rfl | simp)) (hid (itc_one _)); intro w3 hr3 hg; have R3 := hid hr3; have HB3 := hid ((HB2.out.alloc HB2.out.size (.cells #[.int .i64 0, .int .i64 0, .int .i64 0, .int .i64 0, .int .u64 0, .int .u64 0, .int .i64 0, .int .i64 0, .int .i64 0, .int .u64 0, .int .i64 0, .int .i64 0, .int .i64 0, .int .i64 0, .string ⟨#[]⟩] 40)).trans (below_grown hg (by have := HB2.out.size; omega) (by simp; have := HB2.out.size; omega))); have RS3 := hid ((RS2.out.alloc (.cells #[.int .i64 0, .int .i64 0, .int .i64 0, .int .i64 0, .int .u64 0, .int .u64 0, .int .i64 0, .int .i64 0, .int .i64 0, .int .u64 0, .int .i64 0, .int .i64 0, .int .i64 0, .int .i64 0, .string ⟨#[]⟩] 40)).grown hg (by intro e; have := Option.some.inj e; have := HLT2.out; omega)); have RE3 := hid ((RE2.out.alloc (.cells #[.int .i64 0, .int .i64 0, .int .i64 0, .int .i64 0, .int .u64 0, .int .u64 0, .int .i64 0, .int .i64 0, .int .i64 0, .int .u64 0, .int .i64 0, .int .i64 0, .int .i64 0, .int .i64 0, .string ⟨#[]⟩] 40)).grown hg (by intro e; have := Option.some.inj e; have := HLT2.out; omega)); have c0 : w3.cell? ⟨w2.heap.size, 0, none⟩ = some (.int .i64 x.kind) := hr3.cell 0; clear hr3 hg)
            | ((with_reducible show wpList _ _ _ ({ dst := some 24, op := _, type := _, pos := _, after := _, guard := _ } :: _) _ _); refine wpl_load_midw rfl 38 (.tmp 23) rfl w2.heap.size (1) rfl (x.stub.cells.toList) _ (it_stub R3.out) Tryz.underlying38 rfl (by exact HZT.out) ?_)
            | ((with_reducible show wpList _ _ _ ({ dst := some 25, op := _, type := _, pos := _, after := _, guard := _ } :: _) _ _); refine wpl_load_want rfl 38 (.tmp 4) rfl (w.heap.size) rfl 38 (s.cells) (0, 0) _ (Row.arr RS3.out) Tryz.underlying38 rfl HZT.out ?_)
            | ((with_reducible show wpList _ _ _ ({ dst := some 26, op := _, type := _, pos := _, after := _, guard := _ } :: _) _ _); refine wpl_eqs rfl x.stub s false (.tmp 24) (.tmp 25) _ rfl rfl rfl HEQ ?_))
          go_roundw
          case rel => exact ⟨k + 1, by omega, by go_num, HX, RS3, RE3, HB3⟩
          case measure => simp [intOf]; omega
    · obtain rfl : k = q := by omega
      have HX := hid (HQN.out HT.out)
      go_wp2_with (first
        | ((with_reducible show wpList _ _ _ ({ dst := none, op := .store _ (.tmp 6) (.tmp 31), type := _, pos := _, after := _, guard := _ } :: _) _ _); refine wpl_store_st rfl (.tmp 6) (.tmp 31) rfl HZE.out (w.heap.size + 1) (#[.int .i64 0, .int .i64 0, .int .i64 0, .int .u64 0, .int .i64 0, .int .i64 0, .int .i64 0, .int .i64 0, .string ⟨#[]⟩]) (en0.cells) rfl rfl (RE.out) ?_ (hid (by first | rfl | simp)) (hid (by first | rfl | simp)) (hid (ecells_one _)); intro w9 hr9 hg9))
      exact bodyPost_ret (v := .agg END.cells) (results_cell_row rfl _ _ (w.heap.size + 1) 35 END.cells (0, 0) _ rfl (Row.arr (cs := END.cells) (by rw [HX.out]; exact hr9)) Tryz.underlying35 rfl HZE.out) rfl ⟨rfl, HBE.out.trans (below_grown hg9 (by omega) HBE.out.size)⟩
end Go.Proofs.YteahbalcielhpaaGreatDoor
/-
  The laws' great.
-/
namespace Go.Proofs.YteahbalcielhpaaGreatDoor
open Go.RowKit
set_option maxRecDepth 10000

/-- what great answers: no more than twelve, if it says no -/
def GR (w : World) (n : Nat) (e : Ending) (w' : World) : Prop := ∃ b : Bool, e = .returned (.bool b) ∧ (b = false → n ≤ 12) ∧ w = w'
theorem PlOk.entry {W : World} {B : Nat} {m : Ms} {p : Pl} (h : PlOk W B m p) (k : Nat) (hk : k < m.es.length) : ∃ g o, p.A = some ⟨g, o, none⟩ ∧ g < B ∧ W.rangeAt g (o + k * 9) m.es[k].cells.toList :=
  rws_at (n := 9) (fun _ => rfl) h.a k hk (by omega)
set_option maxHeartbeats 4000000 in
theorem great_any (A : Option Addr) (L : List LP) (n c B : Nat) (w : World) (hr : Lm w B A L) (hn : n = L.length) (hc : n ≤ c) (hb : n ≤ 9223372036854775807) :
    Calls Tryz.prog 7 #[.slice A n c] w (GR w n) := by
  by_cases h12 : 12 < n
  · have h12' : (12 : Int) < (n : Int) := by omega
    clear hr hn
    go_enter Tryz.func7, Tryz.ntmps7
    go_wp2_with fail
    go_ret
    exact ⟨true, rfl, (by intro h; cases h), rfl⟩
  have h12' : ¬ (12 : Int) < (n : Int) := by omega
  have HN := hid hn
  have HR := hid hr
  have HNN : Hid (n ≤ 12) := hid (by omega)
  clear hr hn h12
  go_enter Tryz.func7, Tryz.ntmps7
  go_wp2_with fail
  go_loop [3] (fun i => ∃ k : Nat, k ≤ n ∧ i = .int .i64 (k : Int)) (fun i => n - (intOf i).toNat)
  case atStart => exact ⟨0, by omega, rfl⟩
  case round =>
    obtain ⟨k, hk, rfl⟩ := hrel
    by_cases hlt : k < n
    · have hkl : k < L.length := by rw [← HN.out]; exact hlt
      obtain ⟨g, o, rfl, -, hrg⟩ := HR.out.at_ k hkl
      have HP := hid (HR.out.pl L[k] (List.getElem_mem hkl))
      have c31 : w.cell? ⟨g, o + k * 33 + 31, none⟩ = some (.slice L[k].2.B L[k].1.xs.length L[k].2.cB) := hrg 31 _ rfl
      have c30 : w.cell? ⟨g, o + k * 33 + 30, none⟩ = some (.slice L[k].2.A L[k].1.es.length L[k].2.cA) := hrg 30 _ rfl
      generalize L[k] = X at *
      have hi : (k : Int) < (n : Int) := by omega
      have hi0 : (0 : Int) ≤ (k : Int) := by omega
      clear hrg hkl
      by_cases hq : 20 < X.1.xs.length
      · have hq' : (20 : Int) < (X.1.xs.length : Int) := by omega
        clear hq
        go_wp2_with fail
        go_ret
        exact ⟨true, rfl, (by intro h; cases h), rfl⟩
      have hq' : ¬ (20 : Int) < (X.1.xs.length : Int) := by omega
      have dq : decide ((20 : Int) < (X.1.xs.length : Int)) = false := decide_eq_false hq'
      by_cases hp : 20 < X.1.es.length
      · have hp' : (20 : Int) < (X.1.es.length : Int) := by omega
        clear hp
        go_wp2_with fail
        go_ret
        exact ⟨true, rfl, (by intro h; cases h), rfl⟩
      have hp' : ¬ (20 : Int) < (X.1.es.length : Int) := by omega
      have HA := hid (fun (u : Nat) (h : u < X.1.xs.length) => HP.out.item u h)
      have HE := hid (fun (u : Nat) (h : u < X.1.es.length) => HP.out.entry u h)
      obtain ⟨⟨kind, frm, view, lv, opn, commit, client, session, request, oper, index, size, check, sums, entry, es, xs, body⟩, ⟨A1, cA, B1, cB⟩⟩ := X
      simp only at c31 c30 hq' dq hp' HA HE hq hp
      have hcA : es.length ≤ cA := HP.out.ca
      have hcB : xs.length ≤ cB := HP.out.cb
      clear HP HR
      go_wp2_with fail
      go_loop [4] (fun j => ∃ u : Nat, u ≤ xs.length ∧ j = .int .i64 (u : Int)) (fun j => xs.length - (intOf j).toNat)
      case atStart => exact ⟨0, by omega, rfl⟩
      case round =>
        obtain ⟨u, hu, rfl⟩ := hrel
        by_cases hlu : u < xs.length
        · obtain ⟨g1, o1, rfl, -, hrg1⟩ := HA.out u hlu
          have cb : w.cell? ⟨g1, o1 + u * 15 + 6 + 8, none⟩ = some (.string xs[u].entry.body) := by rw [Nat.add_assoc]; exact hrg1 14 _ rfl
          generalize xs[u].entry.body = s at *
          have hj : (u : Int) < (xs.length : Int) := by omega
          have hj0 : (0 : Int) ≤ (u : Int) := by omega
          clear hrg1 HA
          by_cases hbg : 1000 < s.size
          · have hbg' : (1000 : Int) < (s.size : Int) := by omega
            clear hbg
            go_wp2_with fail
            go_ret
            exact ⟨true, rfl, (by intro h; cases h), rfl⟩
          · have hbg' : ¬ (1000 : Int) < (s.size : Int) := by omega
            clear hbg
            go_wp2_with fail
            go_round
            case rel => exact ⟨u + 1, by omega, by go_num⟩
            case measure => simp [intOf]; omega
        · obtain rfl : u = xs.length := by omega
          clear HA
          go_wp2_with fail
          go_loop [5] (fun j => ∃ u : Nat, u ≤ es.length ∧ j = .int .i64 (u : Int)) (fun j => es.length - (intOf j).toNat)
          case atStart => exact ⟨0, by omega, rfl⟩
          case round =>
            obtain ⟨u, hu2, rfl⟩ := hrel
            by_cases hlu2 : u < es.length
            · obtain ⟨g1, o1, rfl, -, hrg1⟩ := HE.out u hlu2
              have cb : w.cell? ⟨g1, o1 + u * 9 + 8, none⟩ = some (.string es[u].body) := hrg1 8 _ rfl
              generalize es[u].body = s at *
              have hj : (u : Int) < (es.length : Int) := by omega
              have hj0 : (0 : Int) ≤ (u : Int) := by omega
              clear hrg1 HE
              by_cases hbg : 1000 < s.size
              · have hbg' : (1000 : Int) < (s.size : Int) := by omega
                clear hbg
                go_wp2_with fail
                go_ret
                exact ⟨true, rfl, (by intro h; cases h), rfl⟩
              · have hbg' : ¬ (1000 : Int) < (s.size : Int) := by omega
                clear hbg
                go_wp2_with fail
                go_round
                case rel => exact ⟨u + 1, by omega, by go_num⟩
                case measure => simp [intOf]; omega
            · obtain rfl : u = es.length := by omega
              clear HE
              go_wp2_with fail
              go_round
              case rel => exact ⟨k + 1, by omega, by go_num⟩
              case measure => simp [intOf]; omega
    · obtain rfl : k = n := by omega
      go_wp2_with fail
      go_ret
      exact ⟨false, rfl, fun _ => HNN.out, rfl⟩
end Go.Proofs.YteahbalcielhpaaGreatDoor
