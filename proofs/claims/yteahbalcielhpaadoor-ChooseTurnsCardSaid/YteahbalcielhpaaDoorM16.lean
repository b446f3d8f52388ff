/-
  The document's fits, Item.
-/
import Derived.Test.YteahbalcielhpaaDoorM15
import Derived.Deep.MidRow
import Derived.Test.YteahbalcielhpaaDoorM10
import Derived.Test.YteahbalcielhpaaDoorM07
import Derived.Test.YteahbalcielhpaaDoorM14
namespace Go.Proofs.YteahbalcielhpaaDoor
open Go.RowKit
set_option maxRecDepth 10000

theorem stsizeM : (Tryd.prog.info? 49).map (·.size) = some 5 := by kernel_rfl
section
variable {W : World} {g : Nat} {x : It}
theorem it_stub (h : Row W g 51 x.cells.toList) : W.rangeAt g 1 x.stub.cells.toList := fun j v hv => by
  rw [h.cell, show x.cells.toList = x.cells.toList.take 1 ++ (x.stub.cells.toList ++ x.cells.toList.drop 6) from rfl, List.getElem?_append_right (by simp [It.cells])]
  rw [show 1 + j - (x.cells.toList.take 1).length = j by simp [It.cells], List.getElem?_append_left (List.getElem?_eq_some_iff.1 hv).1]
  exact hv
theorem it_entry (h : Row W g 51 x.cells.toList) : W.rangeAt g 6 x.entry.cells.toList := fun j v hv => by
  rw [h.cell, show x.cells.toList = x.cells.toList.take 6 ++ x.entry.cells.toList from rfl, List.getElem?_append_right (by simp [It.cells])]
  rw [show 6 + j - (x.cells.toList.take 6).length = j by simp [It.cells]]
  exact hv
end
end Go.Proofs.YteahbalcielhpaaDoor
/-
  The document's Kept.
-/
namespace Go.Proofs.YteahbalcielhpaaDoor
open Go.RowKit
set_option maxRecDepth 10000

theorem gtransM {r : Option Nat} {w w' w'' : World} (h : w.grownBy w' r) (h' : w'.grownBy w'' r) : w.grownBy w'' r :=
  ⟨h'.os.trans h.os, h'.tape.trans h.tape, h'.output.trans h.output, Nat.le_trans h.size h'.size, fun k hk hr => (h'.block k (Nat.lt_of_lt_of_le hk h.size) hr).trans (h.block k hk hr)⟩
theorem gsetM (w : World) (g i : Nat) (u : Value) : w.grownBy (w.setCell ⟨g, i, none⟩ u) (some g) :=
  ⟨rfl, rfl, rfl, by simp, fun k _ hr => heap_setCell_other w ⟨g, i, none⟩ k u (by intro e; exact hr (by rw [e]))⟩
theorem setCellsM {w : World} {g : Nat} {e : TypeId} {xs : List Value} (h : Row w g e xs) : ∀ (vs : List Value) (o : Nat), o + vs.length ≤ xs.length → Row (w.setCells g o vs) g e (splice xs o vs) ∧ w.grownBy (w.setCells g o vs) (some g)
  | [], o, ho => ⟨by simpa [splice, World.setCells] using h, World.grownBy.refl _ _⟩
  | v :: r, o, ho => by
    simp only [List.length_cons] at ho
    obtain ⟨h1, h2⟩ := setCellsM (h.set_ o v) r (o + 1) (by rw [List.length_set]; omega)
    have e : splice (xs.set o v) (o + 1) r = splice xs o (v :: r) := by
      unfold splice
      have hk : o < xs.length := by omega
      rw [List.drop_set_of_lt (by omega), List.take_succ_eq_append_getElem (by simpa using hk), List.take_set_of_le (Nat.le_refl _)]
      simp [Nat.add_assoc, Nat.add_comm 1]
    rw [e] at h1
    exact ⟨h1, gtransM (gsetM _ _ _ _) h2⟩
theorem thereM {w : World} {g : Nat} {e : TypeId} {xs : List Value} (h : Row w g e xs) (o n : Nat) (ho : o + n ≤ xs.length) : w.there g o n := fun j hj => by
  rw [h.cell, List.getElem?_eq_getElem (by omega)]
  exact ⟨rfl, h.frozen _⟩
def z33 : Array Value := #[.int .i64 0, .int .i64 0, .int .i64 0, .int .i64 0, .int .i64 0, .int .i64 0, .int .i64 0, .int .i64 0, .int .i64 0, .int .i64 0, .int .i64 0, .int .i64 0, .int .i64 0, .int .i64 0, .int .u64 0, .int .u64 0, .int .u64 0, .int .u64 0, .int .u64 0, .int .u64 0, .int .u64 0, .int .i64 0, .int .i64 0, .int .i64 0, .int .u64 0, .int .i64 0, .int .i64 0, .int .i64 0, .int .i64 0, .string ⟨#[]⟩, .slice none 0 0, .slice none 0 0, .string ⟨#[]⟩]
theorem zero33 (w : World) : (zeroValue 34).run Tryd.prog w = .ok (.agg z33) w := by kernel_rfl
theorem z33_size : z33.size = 33 := rfl
theorem z33_ne : z33 ≠ #[] := by simp [z33]
end Go.Proofs.YteahbalcielhpaaDoor
/-
  The program's within, longest, number.
-/
namespace Go.Proofs.YteahbalcielhpaaDoor
open Go.RowKit
set_option maxRecDepth 10000

set_option maxHeartbeats 1000000 in
theorem mwithin_any (hi : Int) (A : Option Addr) (c B : Nat) (l : List Int) (w : World) (hr : Rd w B A (ivs l)) (hl : l.length ≤ 1000) (hpos : 0 < l.length) (hc : l.length ≤ c) :
    Calls Tryd.prog 40 #[.int .i64 hi, .slice A l.length c] w fun e w' => e = .returned (.bool (wi 0 hi l)) ∧ w = w' := by
  obtain ⟨g, o, rfl, -, hcell⟩ := hr (by intro e; have := ivs_len l; rw [e] at this; simp at this; omega)
  have HC : Hid (∀ k, (h : k < l.length) → w.cell? ⟨g, o + k, none⟩ = some (.int .i64 l[k])) := hid fun k h => hcell k _ (by simp [ivs, h])
  obtain ⟨n, hn⟩ : ∃ n, n = l.length := ⟨_, rfl⟩
  rw [← hn] at hl hpos hc ⊢
  have HN := hid hn
  clear hr hcell hn
  go_enter Tryd.func40, Tryd.ntmps40
  go_wp2_with fail
  go_loop [9] (fun i => ∃ k : Nat, k ≤ n ∧ i = .int .i64 k ∧ Hid (wi 0 hi (l.take k) = true)) (fun i => n - (intOf i).toNat)
  case atStart => exact ⟨0, by omega, rfl, hid rfl⟩
  case round =>
    obtain ⟨k, hk, rfl, hpast⟩ := hrel
    by_cases hlt : k < n
    · have hkl : k < l.length := by rw [← HN.out]; exact hlt
      have hce := HC.out k hkl
      have HS := hid (wi_snoc 0 hi l k hkl hpast.out)
      have HX := hid (wi_not 0 hi l k hkl)
      generalize l[k] = x at hce HS HX
      by_cases h1 : x < 0
      · go_wp2_with fail
        go_ret
        rw [HX.out (by omega)]
        exact ⟨rfl, rfl⟩
      · by_cases h2 : hi < x
        · go_wp2_with fail
          go_ret
          rw [HX.out (by omega)]
          exact ⟨rfl, rfl⟩
        · go_wp2_with fail
          go_round
          case rel => exact ⟨k + 1, by omega, by go_num, hid (HS.out (by omega))⟩
          case measure => simp [intOf]; omega
    · obtain rfl : k = n := by omega
      go_wp2_with fail
      go_ret
      have hy := hpast.out
      rw [List.take_of_length_le (by rw [HN.out]; exact Nat.le_refl _)] at hy
      rw [hy]
      exact ⟨rfl, rfl⟩
/-- over a list that was just laid -/
theorem mwiA (hi : Int) (l : List Int) (cs : Array Value) (n : Nat) (hl : l.length ≤ 1000) (hpos : 0 < l.length) (hcs : cs.toList = ivs l) (hn : l.length = n) (W : World) (g : Nat) (hg : g = W.heap.size) :
    Calls Tryd.prog 40 #[.int .i64 hi, .slice (some ⟨g, 0, none⟩) n n] (W.alloc (.cells cs 3)) fun e w' => e = .returned (.bool (wi 0 hi l)) ∧ (W.alloc (.cells cs 3)) = w' := by
  subst hg hn
  have := Row.new W 3 cs
  rw [hcs] at this
  exact mwithin_any hi _ _ (W.heap.size + 1) l _ (this.rd (by omega)) hl hpos (Nat.le_refl _)
theorem longest_any (k : Int) (w : World) : Calls Tryd.prog 56 #[.int .i64 k] w fun e w' => e = .returned (.int .i64 (if k = 15 then 320 else 200)) ∧ w = w' := by
  by_cases h : k = 15
  · rw [if_pos h]
    go_enter Tryd.func56, Tryd.ntmps56
    go_wp2_with fail
    go_ret
    exact ⟨rfl, rfl⟩
  · rw [if_neg h]
    go_enter Tryd.func56, Tryd.ntmps56
    go_wp2_with fail
    go_ret
    exact ⟨rfl, rfl⟩
theorem number_118 (m : Ms) (p : Pl) (w : World) : Calls Tryd.prog 57 #[.agg (m.cells p), .int .i32 118] w (VE w (.int .i64 m.view)) := by
  have HB0 : Hid (Below w.heap.size w (w.alloc (.cells (m.cells p) 34))) := hid ((Below.refl _ _).alloc (Nat.le_refl _) _)
  have R1 : Row (w.alloc (.cells (m.cells p) 34)) w.heap.size 34 (m.cells p).toList := Row.new _ _ _
  have a0 : (w.alloc (.cells (m.cells p) 34)).cell? ⟨w.heap.size, 2, none⟩ = some (.int .i64 m.view) := R1.cell 2
  generalize m.cells p = Z at *
  clear R1
  go_enter Tryd.func57, Tryd.ntmps57
  go_wp2_with fail
  go_ret
  exact ⟨rfl, HB0.out⟩
theorem number_108 (m : Ms) (p : Pl) (w : World) : Calls Tryd.prog 57 #[.agg (m.cells p), .int .i32 108] w (VE w (.int .i64 m.lv)) := by
  have HB0 : Hid (Below w.heap.size w (w.alloc (.cells (m.cells p) 34))) := hid ((Below.refl _ _).alloc (Nat.le_refl _) _)
  have R1 : Row (w.alloc (.cells (m.cells p) 34)) w.heap.size 34 (m.cells p).toList := Row.new _ _ _
  have a0 : (w.alloc (.cells (m.cells p) 34)).cell? ⟨w.heap.size, 3, none⟩ = some (.int .i64 m.lv) := R1.cell 3
  generalize m.cells p = Z at *
  clear R1
  go_enter Tryd.func57, Tryd.ntmps57
  go_wp2_with fail
  go_ret
  exact ⟨rfl, HB0.out⟩
theorem number_112 (m : Ms) (p : Pl) (w : World) : Calls Tryd.prog 57 #[.agg (m.cells p), .int .i32 112] w (VE w (.int .i64 m.opn)) := by
  have HB0 : Hid (Below w.heap.size w (w.alloc (.cells (m.cells p) 34))) := hid ((Below.refl _ _).alloc (Nat.le_refl _) _)
  have R1 : Row (w.alloc (.cells (m.cells p) 34)) w.heap.size 34 (m.cells p).toList := Row.new _ _ _
  have a0 : (w.alloc (.cells (m.cells p) 34)).cell? ⟨w.heap.size, 4, none⟩ = some (.int .i64 m.opn) := R1.cell 4
  generalize m.cells p = Z at *
  clear R1
  go_enter Tryd.func57, Tryd.ntmps57
  go_wp2_with fail
  go_ret
  exact ⟨rfl, HB0.out⟩
theorem number_109 (m : Ms) (p : Pl) (w : World) : Calls Tryd.prog 57 #[.agg (m.cells p), .int .i32 109] w (VE w (.int .i64 m.commit)) := by
  have HB0 : Hid (Below w.heap.size w (w.alloc (.cells (m.cells p) 34))) := hid ((Below.refl _ _).alloc (Nat.le_refl _) _)
  have R1 : Row (w.alloc (.cells (m.cells p) 34)) w.heap.size 34 (m.cells p).toList := Row.new _ _ _
  have a0 : (w.alloc (.cells (m.cells p) 34)).cell? ⟨w.heap.size, 5, none⟩ = some (.int .i64 m.commit) := R1.cell 5
  generalize m.cells p = Z at *
  clear R1
  go_enter Tryd.func57, Tryd.ntmps57
  go_wp2_with fail
  go_ret
  exact ⟨rfl, HB0.out⟩
theorem number_99 (m : Ms) (p : Pl) (w : World) : Calls Tryd.prog 57 #[.agg (m.cells p), .int .i32 99] w (VE w (.int .i64 m.client)) := by
  have HB0 : Hid (Below w.heap.size w (w.alloc (.cells (m.cells p) 34))) := hid ((Below.refl _ _).alloc (Nat.le_refl _) _)
  have R1 : Row (w.alloc (.cells (m.cells p) 34)) w.heap.size 34 (m.cells p).toList := Row.new _ _ _
  have a0 : (w.alloc (.cells (m.cells p) 34)).cell? ⟨w.heap.size, 6, none⟩ = some (.int .i64 m.client) := R1.cell 6
  generalize m.cells p = Z at *
  clear R1
  go_enter Tryd.func57, Tryd.ntmps57
  go_wp2_with fail
  go_ret
  exact ⟨rfl, HB0.out⟩
theorem number_115 (m : Ms) (p : Pl) (w : World) : Calls Tryd.prog 57 #[.agg (m.cells p), .int .i32 115] w (VE w (.int .i64 m.session)) := by
  have HB0 : Hid (Below w.heap.size w (w.alloc (.cells (m.cells p) 34))) := hid ((Below.refl _ _).alloc (Nat.le_refl _) _)
  have R1 : Row (w.alloc (.cells (m.cells p) 34)) w.heap.size 34 (m.cells p).toList := Row.new _ _ _
  have a0 : (w.alloc (.cells (m.cells p) 34)).cell? ⟨w.heap.size, 7, none⟩ = some (.int .i64 m.session) := R1.cell 7
  generalize m.cells p = Z at *
  clear R1
  go_enter Tryd.func57, Tryd.ntmps57
  go_wp2_with fail
  go_ret
  exact ⟨rfl, HB0.out⟩
theorem number_114 (m : Ms) (p : Pl) (w : World) : Calls Tryd.prog 57 #[.agg (m.cells p), .int .i32 114] w (VE w (.int .i64 m.request)) := by
  have HB0 : Hid (Below w.heap.size w (w.alloc (.cells (m.cells p) 34))) := hid ((Below.refl _ _).alloc (Nat.le_refl _) _)
  have R1 : Row (w.alloc (.cells (m.cells p) 34)) w.heap.size 34 (m.cells p).toList := Row.new _ _ _
  have a0 : (w.alloc (.cells (m.cells p) 34)).cell? ⟨w.heap.size, 8, none⟩ = some (.int .i64 m.request) := R1.cell 8
  generalize m.cells p = Z at *
  clear R1
  go_enter Tryd.func57, Tryd.ntmps57
  go_wp2_with fail
  go_ret
  exact ⟨rfl, HB0.out⟩
theorem number_111 (m : Ms) (p : Pl) (w : World) : Calls Tryd.prog 57 #[.agg (m.cells p), .int .i32 111] w (VE w (.int .i64 m.oper)) := by
  have HB0 : Hid (Below w.heap.size w (w.alloc (.cells (m.cells p) 34))) := hid ((Below.refl _ _).alloc (Nat.le_refl _) _)
  have R1 : Row (w.alloc (.cells (m.cells p) 34)) w.heap.size 34 (m.cells p).toList := Row.new _ _ _
  have a0 : (w.alloc (.cells (m.cells p) 34)).cell? ⟨w.heap.size, 9, none⟩ = some (.int .i64 m.oper) := R1.cell 9
  generalize m.cells p = Z at *
  clear R1
  go_enter Tryd.func57, Tryd.ntmps57
  go_wp2_with fail
  go_ret
  exact ⟨rfl, HB0.out⟩
theorem number_120 (m : Ms) (p : Pl) (w : World) : Calls Tryd.prog 57 #[.agg (m.cells p), .int .i32 120] w (VE w (.int .i64 m.index)) := by
  have HB0 : Hid (Below w.heap.size w (w.alloc (.cells (m.cells p) 34))) := hid ((Below.refl _ _).alloc (Nat.le_refl _) _)
  have R1 : Row (w.alloc (.cells (m.cells p) 34)) w.heap.size 34 (m.cells p).toList := Row.new _ _ _
  have a0 : (w.alloc (.cells (m.cells p) 34)).cell? ⟨w.heap.size, 10, none⟩ = some (.int .i64 m.index) := R1.cell 10
  generalize m.cells p = Z at *
  clear R1
  go_enter Tryd.func57, Tryd.ntmps57
  go_wp2_with fail
  go_ret
  exact ⟨rfl, HB0.out⟩
theorem number_122 (m : Ms) (p : Pl) (w : World) : Calls Tryd.prog 57 #[.agg (m.cells p), .int .i32 122] w (VE w (.int .i64 m.size)) := by
  have HB0 : Hid (Below w.heap.size w (w.alloc (.cells (m.cells p) 34))) := hid ((Below.refl _ _).alloc (Nat.le_refl _) _)
  have R1 : Row (w.alloc (.cells (m.cells p) 34)) w.heap.size 34 (m.cells p).toList := Row.new _ _ _
  have a0 : (w.alloc (.cells (m.cells p) 34)).cell? ⟨w.heap.size, 11, none⟩ = some (.int .i64 m.size) := R1.cell 11
  generalize m.cells p = Z at *
  clear R1
  go_enter Tryd.func57, Tryd.ntmps57
  go_wp2_with fail
  go_ret
  exact ⟨rfl, HB0.out⟩
/-- the signs of numbers -/
def sgN : List Nat := [118, 108, 112, 109, 99, 115, 114, 111, 120, 122]
theorem number_any (m : Ms) (p : Pl) (c : Nat) (hc : c ∈ sgN) (w : World) : Calls Tryd.prog 57 #[.agg (m.cells p), .int .i32 (c : Int)] w (VE w (.int .i64 (numS m c))) := by
  simp only [sgN, List.mem_cons, List.not_mem_nil, or_false] at hc
  rcases hc with rfl | rfl | rfl | rfl | rfl | rfl | rfl | rfl | rfl | rfl
  · exact number_118 m p w
  · exact number_108 m p w
  · exact number_112 m p w
  · exact number_109 m p w
  · exact number_99 m p w
  · exact number_115 m p w
  · exact number_114 m p w
  · exact number_111 m p w
  · exact number_120 m p w
  · exact number_122 m p w
end Go.Proofs.YteahbalcielhpaaDoor
/-
  The program's mayItem.
-/
namespace Go.Proofs.YteahbalcielhpaaDoor
open Go.RowKit
set_option maxRecDepth 10000

section
variable {ops : Array Oper} {rest : List Oper} {o : Oper} {a : Act} {w : World} {Q : Exit → Act → World → Prop}
theorem wpl_eqi2 (hw : Region.wanted o (yielded ops a.tmps) = true) (s t : It) (b : Bool) (x y : Operand) (ty : TypeId) (ho : o.op = .binOp .eql 51 x y ty)
    (hx : a.eval x = .agg s.cells) (hy : a.eval y = .agg t.cells) (hb : Hid (b = true ↔ s = t)) (h : wpList Tryd.prog ops Q rest (a.put o.dst (.bool b)) w) : wpList Tryd.prog ops Q (o :: rest) a w := by
  refine BigFrame.wpList_want hw fun K hK => ?_
  have hEQ := eqIt2 9996 s t w b hb.out
  have hEG := egIt
  generalize s.cells = Z at *
  generalize t.cells = Y at *
  unfold Oper.wp execOp
  simp [ho, hx, hy, eqGuard, hEG, binOp, Op.equal, Op.maxDepth, hEQ, Result.andThen]
  exact hK _ _ h
end
set_option maxHeartbeats 4000000 in
theorem mayItem_any (x : It) (hx : x.fits) (w : World) (hfd : Fd w) : Calls Tryd.prog 65 #[x.val] w (VE w (.bool (decide (itemR x)))) := by
  show Calls _ _ #[.agg x.cells] _ _
  have HR := hid (fun W => eright_any x.entry W)
  have HFD := hid hfd
  have HS := hid (fun W (h : Fd W) => sstub_any x.entry hx.2.2 W h)
  have HZE := hid esize
  have HZS := hid stsizeM
  have HZI := hid isize
  have HB0 : Hid (Below w.heap.size w (w.alloc (.cells x.cells 51))) := hid ((Below.refl _ _).alloc (Nat.le_refl _) _)
  have R1 : Hid (Row (w.alloc (.cells x.cells 51)) w.heap.size 51 x.cells.toList) := hid (Row.new _ _ _)
  have a0 : (w.alloc (.cells x.cells 51)).cell? ⟨w.heap.size, 0, none⟩ = some (.int .i64 x.kind) := R1.out.cell 0
  clear hfd
  by_cases h1 : x.kind = 1
  · have HIT : Hid (itemR x ↔ Rt x.entry ∧ stubS x.entry = x.stub) := hid (by unfold itemR; rw [if_pos h1])
    have e1 : (x.kind == 1) = true := by simp [h1]
    have e0 : (x.kind == 0) = false := by simp [h1]
    have e3 : (x.kind == 3) = false := by simp [h1]
    clear h1
    by_cases hr : Rt x.entry
    · rw [decide_eq_true hr] at HR
      obtain ⟨b, hb⟩ : ∃ b, decide (stubS x.entry = x.stub) = b := ⟨_, rfl⟩
      have HD : Hid (decide (itemR x) = b) := hid (by rw [← hb, Bool.eq_iff_iff, decide_eq_true_iff, decide_eq_true_iff, HIT.out]; exact ⟨fun h => h.2, fun h => ⟨hr, h⟩⟩)
      have HB := hid hb
      clear hb hr HIT
      go_enter Tryd.func65, Tryd.ntmps65
      go_wp2_with fail
      refine wp_region_held_drew (S := (fun W => Row W w.heap.size 51 x.cells.toList ∧ Below w.heap.size w W)) (by kernel_rfl) (⟨R1.out.drew, HB0.out.drew⟩) (fun hH => ?_)
      refine tk_ (i := 0) (v := .pointer (some ⟨w.heap.size, 6, none⟩)) rfl (Or.inl ⟨by kernel_rfl, fun w' _ => by kernel_rfl⟩) hH ?_
      simp only [Act.put, la1, la3, la4, la5, la6]
      refine tk_ (i := 1) (v := .agg (x.entry.cells)) rfl (yieldsIf_load_mid rfl 30 (.tmp 17) rfl (w.heap.size) (6) rfl (Array.toList (x.entry.cells)) _ (fun W hW => it_entry hW.1) Tryd.underlying30 rfl (by exact HZE.out)) hH ?_
      simp only [Act.put, la1, la2, la3, la4, la5, la6]
      refine rd1 (i := 2) (by kernel_rfl) rfl (fun K hK => ?_)
      go_simp
      go_at_call 10
      refine (HR.out _).mono ?_
      rintro e w1 ⟨rfl, hb1⟩
      go_wp2_with fail
      refine hK.out _ _ (⟨hH.1.below hb1 hH.1.lt, hH.2.trans (hb1.mono hH.2.size)⟩) (fun hH => ?_)
      clear hK K
      try simp only [Act.put, la1, la2, la3, la4, la5, la6]
      refine tk_ (i := 3) (v := .bool true) rfl (Or.inl ⟨by kernel_rfl, fun w' _ => by kernel_rfl⟩) hH ?_
      simp only [Act.put, la1, la2, la3, la4, la5, la6]
      refine tk_ (i := 4) (v := .pointer (some ⟨w.heap.size, 6, none⟩)) rfl (Or.inl ⟨by kernel_rfl, fun w' _ => by kernel_rfl⟩) hH ?_
      simp only [Act.put, la1, la2, la3, la4, la5, la6]
      refine tk_ (i := 5) (v := .agg (x.entry.cells)) rfl (yieldsIf_load_mid (by kernel_rfl) 30 (.tmp 21) rfl (w.heap.size) (6) rfl (Array.toList (x.entry.cells)) _ (fun W hW => it_entry hW.1) Tryd.underlying30 rfl (by exact HZE.out)) hH ?_
      simp only [Act.put, la1, la2, la3, la4, la5, la6]
      refine tk_ (i := 7) (v := .pointer (some ⟨w.heap.size, 1, none⟩)) rfl (Or.inl ⟨by kernel_rfl, fun w' _ => by kernel_rfl⟩) hH ?_
      simp only [Act.put, la1, la2, la3, la4, la5, la6]
      refine tk_ (i := 8) (v := .agg (x.stub.cells)) rfl (yieldsIf_load_mid (by kernel_rfl) 49 (.tmp 24) rfl (w.heap.size) (1) rfl (Array.toList (x.stub.cells)) _ (fun W hW => it_stub hW.1) Tryd.underlying49 rfl (by exact HZS.out)) hH ?_
      simp only [Act.put, la1, la2, la3, la4, la5, la6]
      refine rd1 (i := 6) (by kernel_rfl) rfl (fun K hK => ?_)
      rw [if_pos (by kernel_rfl)]
      go_simp
      go_at_call 25
      refine (HS.out _ (HFD.out.below hH.2 HFD.out.1)).mono ?_
      rintro e w2 ⟨rfl, hb1⟩
      go_wp2_with fail
      refine hK.out _ _ (⟨hH.1.below hb1 hH.1.lt, hH.2.trans (hb1.mono hH.2.size)⟩) (fun hH => ?_)
      clear hK K
      try simp only [Act.put, la1, la2, la3, la4, la5, la6]
      refine tk_ (i := 9) (v := .bool b) rfl (yields_eqs (by kernel_rfl) (stubS x.entry) x.stub b HB (.tmp 23) (.tmp 25) _ rfl (by kernel_rfl) (by kernel_rfl)) hH ?_
      simp only [Act.put, la1, la2, la3, la4, la5, la6]
      refine tk_ (i := 10) (v := .bool b) rfl (Or.inl ⟨by kernel_rfl, fun w' _ => by kernel_rfl⟩) hH ?_
      simp only [Act.put, la1, la2, la3, la4, la5, la6]
      refine rd1 (i := 11) (by kernel_rfl) rfl (fun K hK => ?_)
      go_simp
      refine hK.out _ _ (hH) (fun hH => ?_)
      clear hK K
      try simp only [Act.put, la1, la2, la3, la4, la5, la6]
      refine wpAnyH_done (by kernel_rfl) ?_ _
      try simp only [Act.put, la1, la2, la3, la4, la5, la6]
      go_wp2_with fail
      go_ret
      exact ⟨by rw [HD.out]; first | rfl | simp, hH.2⟩
    · rw [decide_eq_false hr] at HR
      have HD : Hid (decide (itemR x) = false) := hid (decide_eq_false (fun h => hr (HIT.out.1 h).1))
      clear hr HIT
      go_enter Tryd.func65, Tryd.ntmps65
      go_wp2_with fail
      refine wp_region_held_drew (S := (fun W => Row W w.heap.size 51 x.cells.toList ∧ Below w.heap.size w W)) (by kernel_rfl) (⟨R1.out.drew, HB0.out.drew⟩) (fun hH => ?_)
      refine tk_ (i := 0) (v := .pointer (some ⟨w.heap.size, 6, none⟩)) rfl (Or.inl ⟨by kernel_rfl, fun w' _ => by kernel_rfl⟩) hH ?_
      simp only [Act.put, la1, la3, la4, la5, la6]
      refine tk_ (i := 1) (v := .agg (x.entry.cells)) rfl (yieldsIf_load_mid rfl 30 (.tmp 17) rfl (w.heap.size) (6) rfl (Array.toList (x.entry.cells)) _ (fun W hW => it_entry hW.1) Tryd.underlying30 rfl (by exact HZE.out)) hH ?_
      simp only [Act.put, la1, la2, la3, la4, la5, la6]
      refine rd1 (i := 2) (by kernel_rfl) rfl (fun K hK => ?_)
      go_simp
      go_at_call 10
      refine (HR.out _).mono ?_
      rintro e w1 ⟨rfl, hb1⟩
      go_wp2_with fail
      refine hK.out _ _ (⟨hH.1.below hb1 hH.1.lt, hH.2.trans (hb1.mono hH.2.size)⟩) (fun hH => ?_)
      clear hK K
      try simp only [Act.put, la1, la2, la3, la4, la5, la6]
      refine tk_ (i := 3) (v := .bool false) rfl (Or.inl ⟨by kernel_rfl, fun w' _ => by kernel_rfl⟩) hH ?_
      simp only [Act.put, la1, la2, la3, la4, la5, la6]
      refine tk_ (i := 4) (v := undef) rfl (Or.inr ⟨by kernel_rfl, rfl⟩) hH ?_
      simp only [Act.put, la1, la2, la3, la4, la5, la6]
      refine tk_ (i := 5) (v := undef) rfl (Or.inr ⟨by kernel_rfl, rfl⟩) hH ?_
      simp only [Act.put, la1, la2, la3, la4, la5, la6]
      refine tk_ (i := 6) (v := undef) rfl (Or.inr ⟨by kernel_rfl, rfl⟩) hH ?_
      simp only [Act.put, la1, la2, la3, la4, la5, la6]
      refine tk_ (i := 7) (v := undef) rfl (Or.inr ⟨by kernel_rfl, rfl⟩) hH ?_
      simp only [Act.put, la1, la2, la3, la4, la5, la6]
      refine tk_ (i := 8) (v := undef) rfl (Or.inr ⟨by kernel_rfl, rfl⟩) hH ?_
      simp only [Act.put, la1, la2, la3, la4, la5, la6]
      refine tk_ (i := 9) (v := undef) rfl (Or.inr ⟨by kernel_rfl, rfl⟩) hH ?_
      simp only [Act.put, la1, la2, la3, la4, la5, la6]
      refine tk_ (i := 10) (v := .bool false) rfl (Or.inl ⟨by kernel_rfl, fun w' _ => by kernel_rfl⟩) hH ?_
      simp only [Act.put, la1, la2, la3, la4, la5, la6]
      refine rd1 (i := 11) (by kernel_rfl) rfl (fun K hK => ?_)
      go_simp
      refine hK.out _ _ (hH) (fun hH => ?_)
      clear hK K
      try simp only [Act.put, la1, la2, la3, la4, la5, la6]
      refine wpAnyH_done (by kernel_rfl) ?_ _
      try simp only [Act.put, la1, la2, la3, la4, la5, la6]
      go_wp2_with fail
      go_ret
      exact ⟨by rw [HD.out]; rfl, hH.2⟩
  · have e1 : (x.kind == 1) = false := by simp [h1]
    obtain ⟨bn, hbn⟩ : ∃ b, decide (x.entry = en0) = b := ⟨_, rfl⟩
    have HBN : Hid (bn = true ↔ x.entry = en0) := hid (by rw [← hbn]; simp)
    by_cases h2 : x.kind = 2
    · have HIT : Hid (itemR x ↔ SRt x.stub ∧ x.entry = en0) := hid (by unfold itemR; rw [if_neg h1, if_pos h2])
      have e2 : (x.kind == 2) = true := by simp [h2]
      have e0 : (x.kind == 0) = false := by simp [h2]
      have e3 : (x.kind == 3) = false := by simp [h2]
      clear h1 h2
      have HY : Hid (∀ W, Calls Tryd.prog 70 #[.string ⟨#[]⟩, .agg x.stub.cells] W (SN W (hdrS [] x.stub))) := hid (fun W => shdr_any ⟨#[]⟩ x.stub hx.2.1 (by decide) W)
      by_cases hs : SRt x.stub
      · have hby : ∃ T, hdrS [] x.stub = (T, 0) := ⟨_, by unfold hdrS sealS; rw [if_pos hs, if_neg (by rw [sbytes_len]; omega)]⟩
        obtain ⟨T, hby⟩ := hby
        rw [hby] at HY
        have HD : Hid (decide (itemR x) = bn) := hid (by rw [Bool.eq_iff_iff, decide_eq_true_iff, HIT.out, HBN.out]; exact ⟨fun h => h.2, fun h => ⟨hs, h⟩⟩)
        clear hs hby HIT hbn
        go_enter Tryd.func65, Tryd.ntmps65
        go_wp2_with (first
          | ((with_reducible show wpList _ _ _ ({ dst := some 32, op := _, type := _, pos := _, after := _, guard := _ } :: _) _ _); refine wpl_load_midw rfl 49 (.tmp 31) rfl w.heap.size 1 rfl (Array.toList x.stub.cells) _ (it_stub R1.out) Tryd.underlying49 rfl (by exact HZS.out) ?_)
          | (go_at_call 70; refine (HY.out _).mono ?_; rintro e w1 ⟨rfl, hb1⟩; have R2 := hid (R1.out.below hb1 R1.out.lt))
          | ((with_reducible show wpList _ _ _ ({ dst := some 40, op := _, type := _, pos := _, after := _, guard := _ } :: _) _ _); refine wpl_load_midw rfl 30 (.tmp 39) rfl w.heap.size 6 rfl (Array.toList x.entry.cells) _ (it_entry R2.out) Tryd.underlying30 rfl (by exact HZE.out) ?_)
          | ((with_reducible show wpList _ _ _ ({ dst := some 42, op := _, type := _, pos := _, after := _, guard := _ } :: _) _ _); refine wpl_eqe2 rfl x.entry en0 _ (.tmp 40) (.tmp 41) _ rfl rfl rfl HBN ?_))
        go_ret
        exact ⟨by rw [HD.out]; rfl, HB0.out.trans (hb1.mono HB0.out.size)⟩
      · have hby : hdrS [] x.stub = ([], 4) := by unfold hdrS; rw [if_neg hs]
        rw [hby] at HY
        have HD : Hid (decide (itemR x) = false) := hid (decide_eq_false (fun h => hs (HIT.out.1 h).1))
        clear hs hby HIT hbn
        go_enter Tryd.func65, Tryd.ntmps65
        go_wp2_with (first
          | ((with_reducible show wpList _ _ _ ({ dst := some 32, op := _, type := _, pos := _, after := _, guard := _ } :: _) _ _); refine wpl_load_midw rfl 49 (.tmp 31) rfl w.heap.size 1 rfl (Array.toList x.stub.cells) _ (it_stub R1.out) Tryd.underlying49 rfl (by exact HZS.out) ?_)
          | (go_at_call 70; refine (HY.out _).mono ?_; rintro e w1 ⟨rfl, hb1⟩))
        go_ret
        exact ⟨by rw [HD.out]; rfl, HB0.out.trans (hb1.mono HB0.out.size)⟩
    · have HIT : Hid (itemR x ↔ (x.kind = 0 ∨ x.kind = 3) ∧ x.entry = en0 ∧ x.stub = st0) := hid (by unfold itemR; rw [if_neg h1, if_neg h2])
      have e2 : (x.kind == 2) = false := by simp [h2]
      clear h1 h2 hbn HBN
      by_cases h3 : x.kind = 0 ∨ x.kind = 3
      · obtain ⟨b, hb⟩ : ∃ b, decide (x = ⟨x.kind, st0, en0⟩) = b := ⟨_, rfl⟩
        have HB : Hid (b = true ↔ x = ⟨x.kind, st0, en0⟩) := hid (by rw [← hb]; simp)
        have HD : Hid (decide (itemR x) = b) := hid (by
          rw [Bool.eq_iff_iff, decide_eq_true_iff, HIT.out, HB.out, it_ext]
          exact ⟨fun h => ⟨rfl, h.2.2, h.2.1⟩, fun h => ⟨h3, h.2.2, h.2.1⟩⟩)
        have HK : Hid ((x.kind == 0) = true ∨ ((x.kind == 0) = false ∧ (x.kind == 3) = true)) := hid (by
          rcases h3 with h | h
          · exact .inl (by simp [h])
          · exact .inr ⟨by simp [h], by simp [h]⟩)
        clear HIT h3 hb
        rcases HK.out with e3 | ⟨e3, e4⟩
        all_goals
          clear HK
          go_enter Tryd.func65, Tryd.ntmps65
          go_wp2_with (first
            | ((with_reducible show wpList _ _ _ ({ dst := some 10, op := _, type := _, pos := _, after := _, guard := _ } :: _) _ _); refine wpList_load_row rfl 51 (.tmp 1) rfl w.heap.size rfl 51 x.cells (0, 0) _ (Row.arr R1.out) Tryd.underlying51 rfl HZI.out ?_)
            | ((with_reducible show wpList _ _ _ ({ dst := some 14, op := _, type := _, pos := _, after := _, guard := _ } :: _) _ _); refine wpl_eqi2 rfl x ⟨x.kind, st0, en0⟩ _ (.tmp 10) (.tmp 13) _ rfl rfl rfl HB ?_))
          go_ret
          exact ⟨by rw [HD.out]; rfl, HB0.out⟩
      · have HD : Hid (decide (itemR x) = false) := hid (decide_eq_false (fun h => h3 (HIT.out.1 h).1))
        have e3 : (x.kind == 0) = false := by simp; omega
        have e4 : (x.kind == 3) = false := by simp; omega
        clear HIT h3
        go_enter Tryd.func65, Tryd.ntmps65
        go_wp2_with fail
        go_ret
        exact ⟨by rw [HD.out]; rfl, HB0.out⟩
end Go.Proofs.YteahbalcielhpaaDoor
/-
  The program's mayEntries, mayItems.
-/
namespace Go.Proofs.YteahbalcielhpaaDoor
open Go.RowKit
set_option maxRecDepth 10000

set_option maxHeartbeats 4000000 in
theorem mayEntries_any (l : List En) (A : Option Addr) (c B : Nat) (w : World) (hr : Rd w B A (rws (fun e : En => e.cells.toList) l)) (hB : B ≤ w.heap.size) (_hc : l.length ≤ c) (hl : l.length ≤ 9223372036854775807) (_hf : ∀ e ∈ l, e.fits) (_hfd : Fd w) :
    Calls Tryd.prog 54 #[.slice A l.length c] w (VE w (.bool (decide (mayE l)))) := by
  have HXA : Hid (∀ W, Below w.heap.size w W → Rd W B A (rws (fun e : En => e.cells.toList) l)) := hid fun W hW => hr.below hW hB
  have HI : Hid (∀ X ∈ l, ∀ W, Below w.heap.size w W → Calls Tryd.prog 10 #[.agg X.cells] W (VE W (.bool (decide (Rt X))))) := hid fun X hX W hW => eright_any X W
  have HZ := hid esize
  have HB0 : Hid (Below w.heap.size w w) := hid (Below.refl _ _)
  clear hr _hf _hfd
  by_cases h8 : 8 < l.length
  · have HD : Hid (decide (mayE l) = false) := hid (decide_eq_false (fun h => by have := h.1; omega))
    have h8i : (8 : Int) < (l.length : Int) := by omega
    clear h8
    go_enter Tryd.func54, Tryd.ntmps54
    go_wp2_with fail
    go_ret
    exact ⟨by rw [HD.out]; rfl, HB0.out⟩
  have h8i : ¬ ((8 : Int) < (l.length : Int)) := by omega
  have HLE := hid h8
  clear h8
  go_enter Tryd.func54, Tryd.ntmps54
  go_wp2_with fail
  go_loopw [10] (fun i wr => ∃ k : Nat, k ≤ l.length ∧ i = .int .i64 (k : Int) ∧ Hid (∀ e ∈ l.take k, Rt e) ∧ Hid (Below w.heap.size w wr)) (fun i _ => l.length - (intOf i).toNat)
  case atStart => exact ⟨0, by omega, rfl, hid (by simp), HB0⟩
  case round =>
    obtain ⟨k, hk, rfl, HT, HB2⟩ := hrel
    by_cases hlt : k < l.length
    · obtain ⟨g, o, hA, hg, hrg⟩ := rws_at (n := 9) (fun _ => rfl) (HXA.out _ HB2.out) k hlt (by omega)
      subst hA
      have hi : (k : Int) < (l.length : Int) := by omega
      have hi0 : (0 : Int) ≤ (k : Int) := by omega
      have HRG := hid hrg
      have HEK := hid (HI.out _ (List.getElem_mem hlt))
      have HNX : Hid (Rt l[k] → ∀ e ∈ l.take (k + 1), Rt e) := hid (fun hr => by
        rw [List.take_succ_eq_append_getElem hlt]
        intro e he
        rcases List.mem_append.1 he with he | he
        · exact HT.out e he
        · rw [List.mem_singleton.1 he]; exact hr)
      have HNO : Hid (¬ Rt l[k] → decide (mayE l) = false) := hid (fun hr => decide_eq_false (fun h => hr (h.2 _ (List.getElem_mem _))))
      generalize l[k] = X at *
      clear hg hrg hlt HT
      by_cases hr : Rt X
      · rw [decide_eq_true hr] at HEK
        have HN2 := hid (HNX.out hr)
        clear hr HNX HNO
        go_wp2_with (first
          | ((with_reducible show wpList _ _ _ ({ dst := some 13, op := _, type := _, pos := _, after := _, guard := _ } :: _) _ _); refine wpl_load_midw rfl 30 (.tmp 12) rfl g (o + k * 9) rfl (Array.toList X.cells) _ HRG.out Tryd.underlying30 rfl (by exact HZ.out) ?_)
          | ((with_reducible show wpList _ _ _ ({ dst := none, op := .store _ (.tmp 4) _, type := _, pos := _, after := _, guard := _ } :: _) _ _); refine wpl_store_st rfl (.tmp 4) (.tmp 13) rfl HZ.out wr.heap.size #[.int .i64 0, .int .i64 0, .int .i64 0, .int .u64 0, .int .i64 0, .int .i64 0, .int .i64 0, .int .i64 0, .string ⟨#[]⟩] X.cells rfl rfl (Row.new _ _ _) ?_ (hid rfl) (hid rfl) (hid (ecells_one X)); intro w3 hr3 hg3; have RX := hid hr3; have HB3 := hid ((HB2.out.alloc HB2.out.size (.cells #[.int .i64 0, .int .i64 0, .int .i64 0, .int .u64 0, .int .i64 0, .int .i64 0, .int .i64 0, .int .i64 0, .string ⟨#[]⟩] 30)).trans (below_grown hg3 HB2.out.size (by simp; exact Nat.le_succ_of_le HB2.out.size))))
          | ((with_reducible show wpList _ _ _ ({ dst := some 14, op := _, type := _, pos := _, after := _, guard := _ } :: _) _ _); refine wpList_load_row rfl 30 (.tmp 4) rfl wr.heap.size rfl 30 X.cells (0, 0) _ (Row.arr RX.out) Tryd.underlying30 rfl HZ.out ?_)
          | (go_at_call 10; refine (HEK.out _ HB3.out).mono ?_; rintro e w4 ⟨rfl, hb4⟩))
        go_roundw
        case rel => exact ⟨k + 1, by omega, by go_num, HN2, hid (HB3.out.trans (hb4.mono HB3.out.size))⟩
        case measure => simp [intOf]; omega
      · rw [decide_eq_false hr] at HEK
        have HD := hid (HNO.out hr)
        clear hr HNX HNO
        go_wp2_with (first
          | ((with_reducible show wpList _ _ _ ({ dst := some 13, op := _, type := _, pos := _, after := _, guard := _ } :: _) _ _); refine wpl_load_midw rfl 30 (.tmp 12) rfl g (o + k * 9) rfl (Array.toList X.cells) _ HRG.out Tryd.underlying30 rfl (by exact HZ.out) ?_)
          | ((with_reducible show wpList _ _ _ ({ dst := none, op := .store _ (.tmp 4) _, type := _, pos := _, after := _, guard := _ } :: _) _ _); refine wpl_store_st rfl (.tmp 4) (.tmp 13) rfl HZ.out wr.heap.size #[.int .i64 0, .int .i64 0, .int .i64 0, .int .u64 0, .int .i64 0, .int .i64 0, .int .i64 0, .int .i64 0, .string ⟨#[]⟩] X.cells rfl rfl (Row.new _ _ _) ?_ (hid rfl) (hid rfl) (hid (ecells_one X)); intro w3 hr3 hg3; have RX := hid hr3; have HB3 := hid ((HB2.out.alloc HB2.out.size (.cells #[.int .i64 0, .int .i64 0, .int .i64 0, .int .u64 0, .int .i64 0, .int .i64 0, .int .i64 0, .int .i64 0, .string ⟨#[]⟩] 30)).trans (below_grown hg3 HB2.out.size (by simp; exact Nat.le_succ_of_le HB2.out.size))))
          | ((with_reducible show wpList _ _ _ ({ dst := some 14, op := _, type := _, pos := _, after := _, guard := _ } :: _) _ _); refine wpList_load_row rfl 30 (.tmp 4) rfl wr.heap.size rfl 30 X.cells (0, 0) _ (Row.arr RX.out) Tryd.underlying30 rfl HZ.out ?_)
          | (go_at_call 10; refine (HEK.out _ HB3.out).mono ?_; rintro e w4 ⟨rfl, hb4⟩))
        go_ret
        exact ⟨by rw [HD.out]; rfl, HB3.out.trans (hb4.mono HB3.out.size)⟩
    · obtain rfl : k = l.length := by omega
      have HD : Hid (decide (mayE l) = true) := hid (decide_eq_true ⟨by have := HLE.out; omega, by have := HT.out; rwa [List.take_of_length_le (Nat.le_refl _)] at this⟩)
      clear HT
      go_wp2_with fail
      go_ret
      exact ⟨by rw [HD.out]; rfl, HB2.out⟩
set_option maxHeartbeats 4000000 in
theorem mayItems_any (l : List It) (A : Option Addr) (c B : Nat) (w : World) (hr : Rd w B A (rws (fun e : It => e.cells.toList) l)) (hB : B ≤ w.heap.size) (_hc : l.length ≤ c) (hl : l.length ≤ 9223372036854775807) (hf : ∀ e ∈ l, e.fits) (hfd : Fd w) :
    Calls Tryd.prog 55 #[.slice A l.length c] w (VE w (.bool (decide (mayX l)))) := by
  have HXA : Hid (∀ W, Below w.heap.size w W → Rd W B A (rws (fun e : It => e.cells.toList) l)) := hid fun W hW => hr.below hW hB
  have HI : Hid (∀ X ∈ l, ∀ W, Below w.heap.size w W → Calls Tryd.prog 65 #[.agg X.cells] W (VE W (.bool (decide (itemR X))))) := hid fun X hX W hW => mayItem_any X (hf X hX) W (hfd.below hW hfd.1)
  have HZ := hid isize
  have HB0 : Hid (Below w.heap.size w w) := hid (Below.refl _ _)
  clear hr hf hfd
  by_cases h8 : l.length ≠ 8
  · have HD : Hid (decide (mayX l) = false) := hid (decide_eq_false (fun h => by have := h.1; omega))
    have h8i : ((l.length : Int) != 8) = true := by simp; omega
    clear h8
    go_enter Tryd.func55, Tryd.ntmps55
    go_wp2_with fail
    go_ret
    exact ⟨by rw [HD.out]; rfl, HB0.out⟩
  have h8i : ((l.length : Int) != 8) = false := by simp; omega
  have HLE := hid h8
  clear h8
  go_enter Tryd.func55, Tryd.ntmps55
  go_wp2_with fail
  go_loopw [10] (fun i wr => ∃ k : Nat, k ≤ l.length ∧ i = .int .i64 (k : Int) ∧ Hid (∀ e ∈ l.take k, itemR e) ∧ Hid (Below w.heap.size w wr)) (fun i _ => l.length - (intOf i).toNat)
  case atStart => exact ⟨0, by omega, rfl, hid (by simp), HB0⟩
  case round =>
    obtain ⟨k, hk, rfl, HT, HB2⟩ := hrel
    by_cases hlt : k < l.length
    · obtain ⟨g, o, hA, hg, hrg⟩ := rws_at (n := 15) (fun _ => rfl) (HXA.out _ HB2.out) k hlt (by omega)
      subst hA
      have hi : (k : Int) < (l.length : Int) := by omega
      have hi0 : (0 : Int) ≤ (k : Int) := by omega
      have HRG := hid hrg
      have HEK := hid (HI.out _ (List.getElem_mem hlt))
      have HNX : Hid (itemR l[k] → ∀ e ∈ l.take (k + 1), itemR e) := hid (fun hr => by
        rw [List.take_succ_eq_append_getElem hlt]
        intro e he
        rcases List.mem_append.1 he with he | he
        · exact HT.out e he
        · rw [List.mem_singleton.1 he]; exact hr)
      have HNO : Hid (¬ itemR l[k] → decide (mayX l) = false) := hid (fun hr => decide_eq_false (fun h => hr (h.2 _ (List.getElem_mem _))))
      generalize l[k] = X at *
      clear hg hrg hlt HT
      by_cases hr : itemR X
      · rw [decide_eq_true hr] at HEK
        have HN2 := hid (HNX.out hr)
        clear hr HNX HNO
        go_wp2_with (first
          | ((with_reducible show wpList _ _ _ ({ dst := some 13, op := _, type := _, pos := _, after := _, guard := _ } :: _) _ _); refine wpl_load_midw rfl 51 (.tmp 12) rfl g (o + k * 15) rfl (Array.toList X.cells) _ HRG.out Tryd.underlying51 rfl (by exact HZ.out) ?_)
          | ((with_reducible show wpList _ _ _ ({ dst := none, op := .store _ (.tmp 4) _, type := _, pos := _, after := _, guard := _ } :: _) _ _); refine wpl_store_st rfl (.tmp 4) (.tmp 13) rfl HZ.out wr.heap.size #[.int .i64 0, .int .i64 0, .int .i64 0, .int .i64 0, .int .u64 0, .int .u64 0, .int .i64 0, .int .i64 0, .int .i64 0, .int .u64 0, .int .i64 0, .int .i64 0, .int .i64 0, .int .i64 0, .string ⟨#[]⟩] X.cells rfl rfl (Row.new _ _ _) ?_ (hid rfl) (hid rfl) (hid (by simp [It.cells, Value.oneCell'])); intro w3 hr3 hg3; have RX := hid hr3; have HB3 := hid ((HB2.out.alloc HB2.out.size (.cells #[.int .i64 0, .int .i64 0, .int .i64 0, .int .i64 0, .int .u64 0, .int .u64 0, .int .i64 0, .int .i64 0, .int .i64 0, .int .u64 0, .int .i64 0, .int .i64 0, .int .i64 0, .int .i64 0, .string ⟨#[]⟩] 51)).trans (below_grown hg3 HB2.out.size (by simp; exact Nat.le_succ_of_le HB2.out.size))))
          | ((with_reducible show wpList _ _ _ ({ dst := some 14, op := _, type := _, pos := _, after := _, guard := _ } :: _) _ _); refine wpList_load_row rfl 51 (.tmp 4) rfl wr.heap.size rfl 51 X.cells (0, 0) _ (Row.arr RX.out) Tryd.underlying51 rfl HZ.out ?_)
          | (go_at_call 65; refine (HEK.out _ HB3.out).mono ?_; rintro e w4 ⟨rfl, hb4⟩))
        go_roundw
        case rel => exact ⟨k + 1, by omega, by go_num, HN2, hid (HB3.out.trans (hb4.mono HB3.out.size))⟩
        case measure => simp [intOf]; omega
      · rw [decide_eq_false hr] at HEK
        have HD := hid (HNO.out hr)
        clear hr HNX HNO
        go_wp2_with (first
          | ((with_reducible show wpList _ _ _ ({ dst := some 13, op := _, type := _, pos := _, after := _, guard := _ } :: _) _ _); refine wpl_load_midw rfl 51 (.tmp 12) rfl g (o + k * 15) rfl (Array.toList X.cells) _ HRG.out Tryd.underlying51 rfl (by exact HZ.out) ?_)
          | ((with_reducible show wpList _ _ _ ({ dst := none, op := .store _ (.tmp 4) _, type := _, pos := _, after := _, guard := _ } :: _) _ _); refine wpl_store_st rfl (.tmp 4) (.tmp 13) rfl HZ.out wr.heap.size #[.int .i64 0, .int .i64 0, .int .i64 0, .int .i64 0, .int .u64 0, .int .u64 0, .int .i64 0, .int .i64 0, .int .i64 0, .int .u64 0, .int .i64 0, .int .i64 0, .int .i64 0, .int .i64 0, .string ⟨#[]⟩] X.cells rfl rfl (Row.new _ _ _) ?_ (hid rfl) (hid rfl) (hid (by simp [It.cells, Value.oneCell'])); intro w3 hr3 hg3; have RX := hid hr3; have HB3 := hid ((HB2.out.alloc HB2.out.size (.cells #[.int .i64 0, .int .i64 0, .int .i64 0, .int .i64 0, .int .u64 0, .int .u64 0, .int .i64 0, .int .i64 0, .int .i64 0, .int .u64 0, .int .i64 0, .int .i64 0, .int .i64 0, .int .i64 0, .string ⟨#[]⟩] 51)).trans (below_grown hg3 HB2.out.size (by simp; exact Nat.le_succ_of_le HB2.out.size))))
          | ((with_reducible show wpList _ _ _ ({ dst := some 14, op := _, type := _, pos := _, after := _, guard := _ } :: _) _ _); refine wpList_load_row rfl 51 (.tmp 4) rfl wr.heap.size rfl 51 X.cells (0, 0) _ (Row.arr RX.out) Tryd.underlying51 rfl HZ.out ?_)
          | (go_at_call 65; refine (HEK.out _ HB3.out).mono ?_; rintro e w4 ⟨rfl, hb4⟩))
        go_ret
        exact ⟨by rw [HD.out]; rfl, HB3.out.trans (hb4.mono HB3.out.size)⟩
    · obtain rfl : k = l.length := by omega
      have HD : Hid (decide (mayX l) = true) := hid (decide_eq_true ⟨by have := HLE.out; omega, by have := HT.out; rwa [List.take_of_length_le (Nat.le_refl _)] at this⟩)
      clear HT
      go_wp2_with fail
      go_ret
      exact ⟨by rw [HD.out]; rfl, HB2.out⟩
end Go.Proofs.YteahbalcielhpaaDoor
/-
  The program's may, empty.
-/
namespace Go.Proofs.YteahbalcielhpaaDoor
open Go.RowKit
set_option maxRecDepth 10000

theorem ba_empty (b : ByteArray) : b.toList.isEmpty = decide (b = ⟨#[]⟩) := by
  rw [ByteArray.toList_eq, Bool.eq_iff_iff, decide_eq_true_iff, List.isEmpty_iff]
  constructor
  · intro h
    apply ByteArray.ext
    apply Array.toList_inj.1
    exact h
  · intro h
    rw [h]
theorem six_size17 : (Tryd.prog.info? 28).map (·.size) = some 6 := by kernel_rfl
set_option maxHeartbeats 4000000 in
theorem may_111 (m : Ms) (p : Pl) (w : World) : Calls Tryd.prog 42 #[.agg (m.cells p), .int .i32 111] w (VE w (.bool (decide (mayS m 111)))) := by
  have HB0 : Hid (Below w.heap.size w (w.alloc (.cells (m.cells p) 34))) := hid ((Below.refl _ _).alloc (Nat.le_refl _) _)
  have R1 : Hid (Row (w.alloc (.cells (m.cells p) 34)) w.heap.size 34 (m.cells p).toList) := hid (Row.new _ _ _)
  have a9 : (w.alloc (.cells (m.cells p) 34)).cell? ⟨w.heap.size, 9, none⟩ = some (.int .i64 m.oper) := R1.out.cell 9
  have HD : Hid (decide (mayS m 111) = wi 0 255 [m.oper]) := hid (by rw [Bool.eq_iff_iff, decide_eq_true_iff]; simp [wi, mayS])
  have HW := hid (mwiA 255 [m.oper] #[.int .i64 m.oper] 1 (by simp) (by simp) rfl rfl)
  rw [HD.out]
  generalize wi 0 255 [m.oper] = b at *
  clear HD
  go_enter Tryd.func42, Tryd.ntmps42
  go_wp2_with (go_at_call 40; refine (HW.out _ _ (by simp)).mono ?_; rintro e w' ⟨rfl, rfl⟩)
  go_ret
  refine ⟨rfl, ?_⟩
  repeat' first | exact Below.refl _ _ | refine Below.alloc ?_ (by simp <;> omega) _
set_option maxHeartbeats 4000000 in
theorem may_67 (m : Ms) (p : Pl) (w : World) : Calls Tryd.prog 42 #[.agg (m.cells p), .int .i32 67] w (VE w (.bool (decide (mayS m 67)))) := by
  have HB0 : Hid (Below w.heap.size w (w.alloc (.cells (m.cells p) 34))) := hid ((Below.refl _ _).alloc (Nat.le_refl _) _)
  have R1 : Hid (Row (w.alloc (.cells (m.cells p) 34)) w.heap.size 34 (m.cells p).toList) := hid (Row.new _ _ _)
  have a12 : (w.alloc (.cells (m.cells p) 34)).cell? ⟨w.heap.size, 12, none⟩ = some (.int .i64 m.check.opn) := R1.out.cell 12
  have a13 : (w.alloc (.cells (m.cells p) 34)).cell? ⟨w.heap.size, 13, none⟩ = some (.int .i64 m.check.view) := R1.out.cell 13
  have HD : Hid (decide (mayS m 67) = wi 0 72057594037927935 [m.check.opn, m.check.view]) := hid (by rw [Bool.eq_iff_iff, decide_eq_true_iff]; simp [wi, mayS, Fi])
  have HW := hid (mwiA 72057594037927935 [m.check.opn, m.check.view] #[.int .i64 m.check.opn, .int .i64 m.check.view] 2 (by simp) (by simp) rfl rfl)
  rw [HD.out]
  generalize wi 0 72057594037927935 [m.check.opn, m.check.view] = b at *
  clear HD
  go_enter Tryd.func42, Tryd.ntmps42
  go_wp2_with (go_at_call 40; refine (HW.out _ _ (by simp)).mono ?_; rintro e w' ⟨rfl, rfl⟩)
  go_ret
  refine ⟨rfl, ?_⟩
  repeat' first | exact Below.refl _ _ | refine Below.alloc ?_ (by simp <;> omega) _
set_option maxHeartbeats 4000000 in
theorem may_83 (m : Ms) (p : Pl) (w : World) : Calls Tryd.prog 42 #[.agg (m.cells p), .int .i32 83] w (VE w (.bool (decide (mayS m 83)))) := by
  have HB0 : Hid (Below w.heap.size w (w.alloc (.cells (m.cells p) 34))) := hid ((Below.refl _ _).alloc (Nat.le_refl _) _)
  have R1 : Hid (Row (w.alloc (.cells (m.cells p) 34)) w.heap.size 34 (m.cells p).toList) := hid (Row.new _ _ _)
  have HD : Hid (decide (mayS m 83) = true) := hid (by simp [mayS])
  rw [HD.out]
  clear HD
  go_enter Tryd.func42, Tryd.ntmps42
  go_wp2_with fail
  go_ret
  exact ⟨rfl, HB0.out⟩
set_option maxHeartbeats 4000000 in
theorem may_69 (m : Ms) (p : Pl) (w : World) : Calls Tryd.prog 42 #[.agg (m.cells p), .int .i32 69] w (VE w (.bool (decide (mayS m 69)))) := by
  have HB0 : Hid (Below w.heap.size w (w.alloc (.cells (m.cells p) 34))) := hid ((Below.refl _ _).alloc (Nat.le_refl _) _)
  have R1 : Hid (Row (w.alloc (.cells (m.cells p) 34)) w.heap.size 34 (m.cells p).toList) := hid (Row.new _ _ _)
  have HD : Hid (decide (mayS m 69) = decide (Rt m.entry)) := hid rfl
  have HR := hid (fun W => eright_any m.entry W)
  have HZE := hid esize
  rw [HD.out]
  generalize decide (Rt m.entry) = b at *
  clear HD
  go_enter Tryd.func42, Tryd.ntmps42
  go_wp2_with (first
    | ((with_reducible show wpList _ _ _ ({ dst := some 27, op := _, type := _, pos := _, after := _, guard := _ } :: _) _ _); refine wpl_load_midw rfl 30 (.tmp 26) rfl w.heap.size 21 rfl (Array.toList (m.entry.cells)) _ (ms_entry R1.out) Tryd.underlying30 rfl (by exact HZE.out) ?_)
    | (go_at_call 10; refine (HR.out _).mono ?_; rintro e w1 ⟨rfl, hb1⟩))
  go_ret
  exact ⟨rfl, HB0.out.trans (hb1.mono HB0.out.size)⟩
set_option maxHeartbeats 4000000 in
theorem may_76 (m : Ms) (p : Pl) (w : World) (B : Nat) (hm : PlOk w B m p) (hB : B ≤ w.heap.size) (hf : m.fits) (hfd : Fd w) : Calls Tryd.prog 42 #[.agg (m.cells p), .int .i32 76] w (VE w (.bool (decide (mayS m 76)))) := by
  have HB0 : Hid (Below w.heap.size w (w.alloc (.cells (m.cells p) 34))) := hid ((Below.refl _ _).alloc (Nat.le_refl _) _)
  have R1 : Hid (Row (w.alloc (.cells (m.cells p) 34)) w.heap.size 34 (m.cells p).toList) := hid (Row.new _ _ _)
  have a30 : (w.alloc (.cells (m.cells p) 34)).cell? ⟨w.heap.size, 30, none⟩ = some (.slice p.A m.es.length p.cA) := R1.out.cell 30
  have HD : Hid (decide (mayS m 76) = decide (mayE m.es)) := hid rfl
  have HR : Hid (∀ W, Below w.heap.size w W → Calls Tryd.prog 54 #[.slice p.A m.es.length p.cA] W (VE W (.bool (decide (mayE m.es))))) := hid (fun W hW => mayEntries_any m.es p.A p.cA B W (hm.a.below hW hB) (Nat.le_trans hB hW.size) hm.ca hm.la hf.2.2.2.2.2.1 (hfd.below hW hfd.1))
  rw [HD.out]
  generalize decide (mayE m.es) = b at *
  clear HD hm hf hfd
  go_enter Tryd.func42, Tryd.ntmps42
  go_wp2_with (go_at_call 54; refine (HR.out _ HB0.out).mono ?_; rintro e w1 ⟨rfl, hb1⟩)
  go_ret
  exact ⟨rfl, HB0.out.trans (hb1.mono HB0.out.size)⟩
set_option maxHeartbeats 4000000 in
theorem may_73 (m : Ms) (p : Pl) (w : World) (B : Nat) (hm : PlOk w B m p) (hB : B ≤ w.heap.size) (hf : m.fits) (hfd : Fd w) : Calls Tryd.prog 42 #[.agg (m.cells p), .int .i32 73] w (VE w (.bool (decide (mayS m 73)))) := by
  have HB0 : Hid (Below w.heap.size w (w.alloc (.cells (m.cells p) 34))) := hid ((Below.refl _ _).alloc (Nat.le_refl _) _)
  have R1 : Hid (Row (w.alloc (.cells (m.cells p) 34)) w.heap.size 34 (m.cells p).toList) := hid (Row.new _ _ _)
  have a31 : (w.alloc (.cells (m.cells p) 34)).cell? ⟨w.heap.size, 31, none⟩ = some (.slice p.B m.xs.length p.cB) := R1.out.cell 31
  have HD : Hid (decide (mayS m 73) = decide (mayX m.xs)) := hid rfl
  have HR : Hid (∀ W, Below w.heap.size w W → Calls Tryd.prog 55 #[.slice p.B m.xs.length p.cB] W (VE W (.bool (decide (mayX m.xs))))) := hid (fun W hW => mayItems_any m.xs p.B p.cB B W (hm.b.below hW hB) (Nat.le_trans hB hW.size) hm.cb hm.lb hf.2.2.2.2.2.2 (hfd.below hW hfd.1))
  rw [HD.out]
  generalize decide (mayX m.xs) = b at *
  clear HD hm hf hfd
  go_enter Tryd.func42, Tryd.ntmps42
  go_wp2_with (go_at_call 55; refine (HR.out _ HB0.out).mono ?_; rintro e w1 ⟨rfl, hb1⟩)
  go_ret
  exact ⟨rfl, HB0.out.trans (hb1.mono HB0.out.size)⟩
set_option maxHeartbeats 4000000 in
theorem may_66 (m : Ms) (p : Pl) (w : World) : Calls Tryd.prog 42 #[.agg (m.cells p), .int .i32 66] w (VE w (.bool (decide (mayS m 66)))) := by
  have HB0 : Hid (Below w.heap.size w (w.alloc (.cells (m.cells p) 34))) := hid ((Below.refl _ _).alloc (Nat.le_refl _) _)
  have R1 : Hid (Row (w.alloc (.cells (m.cells p) 34)) w.heap.size 34 (m.cells p).toList) := hid (Row.new _ _ _)
  have C0 : Hid (∀ W, Row W w.heap.size 34 (m.cells p).toList ∧ Below w.heap.size w W → W.cell? ⟨w.heap.size, 0, none⟩ = some (.int .i64 m.kind)) := hid fun W h => h.1.cell 0
  have C32 : Hid (∀ W, Row W w.heap.size 34 (m.cells p).toList ∧ Below w.heap.size w W → W.cell? ⟨w.heap.size, 32, none⟩ = some (.string m.body)) := hid fun W h => h.1.cell 32
  have HL := hid (fun W => longest_any m.kind W)
  have HD : Hid (decide (mayS m 66) = decide ((m.body.size : Int) ≤ (if m.kind = 15 then 320 else 200))) := hid rfl
  rw [HD.out]
  generalize (if m.kind = 15 then (320 : Int) else 200) = L at *
  clear HD
  go_enter Tryd.func42, Tryd.ntmps42
  go_wp2_with fail
  refine wp_region_held_drew (S := (fun W => Row W w.heap.size 34 (m.cells p).toList ∧ Below w.heap.size w W)) (by kernel_rfl) (⟨R1.out.drew, HB0.out.drew⟩) (fun hH => ?_)
  refine tk_ (i := 0) (v := .pointer (some ⟨w.heap.size, 32, none⟩)) rfl (Or.inl ⟨by kernel_rfl, fun w' _ => by kernel_rfl⟩) hH ?_
  simp only [Act.put, la1, la3, la4, la5, la6]
  refine tk_ (i := 1) (v := .string m.body) rfl (Or.inl ⟨by rfl, fun w' hw' => by have h := C32.out w' hw'; go_simp⟩) hH ?_
  simp only [Act.put, la1, la2, la3, la4, la5, la6]
  refine tk_ (i := 2) (v := .int .i64 (m.body.size : Int)) rfl (Or.inl ⟨by rfl, fun w' hw' => by clear hw'; go_simp⟩) hH ?_
  simp only [Act.put, la1, la2, la3, la4, la5, la6]
  refine tk_ (i := 3) (v := .pointer (some ⟨w.heap.size, 0, none⟩)) rfl (Or.inl ⟨by kernel_rfl, fun w' _ => by kernel_rfl⟩) hH ?_
  simp only [Act.put, la1, la2, la3, la4, la5, la6]
  refine tk_ (i := 4) (v := .int .i64 m.kind) rfl (Or.inl ⟨by rfl, fun w' hw' => by have h := C0.out w' hw'; go_simp⟩) hH ?_
  simp only [Act.put, la1, la2, la3, la4, la5, la6]
  refine rd1 (i := 5) (by kernel_rfl) rfl (fun K hK => ?_)
  go_simp
  go_at_call 56
  refine (HL.out _).mono ?_
  rintro e w1 ⟨rfl, rfl⟩
  go_wp2_with fail
  refine hK.out _ _ (⟨hH.1, hH.2⟩) (fun hH => ?_)
  clear hK K
  try simp only [Act.put, la1, la2, la3, la4, la5, la6]
  refine tk_ (i := 6) (v := .bool (decide ((m.body.size : Int) ≤ L))) rfl (Or.inl ⟨by rfl, fun w' hw' => by clear hw'; go_simp⟩) hH ?_
  simp only [Act.put, la1, la2, la3, la4, la5, la6]
  refine rd1 (i := 7) (by kernel_rfl) rfl (fun K hK => ?_)
  go_simp
  refine hK.out _ _ (hH) (fun hH => ?_)
  clear hK K
  try simp only [Act.put, la1, la2, la3, la4, la5, la6]
  refine wpAnyH_done (by kernel_rfl) ?_ _
  try simp only [Act.put, la1, la2, la3, la4, la5, la6]
  go_wp2_with fail
  go_ret
  exact ⟨rfl, hH.2⟩
set_option maxHeartbeats 4000000 in
theorem may_num (m : Ms) (p : Pl) (w : World) (c : Nat) (hc : c ∈ [118, 108, 112, 109, 99, 115, 114, 120, 122]) : Calls Tryd.prog 42 #[.agg (m.cells p), .int .i32 (c : Int)] w (VE w (.bool (decide (mayS m c)))) := by
  have HB0 : Hid (Below w.heap.size w (w.alloc (.cells (m.cells p) 34))) := hid ((Below.refl _ _).alloc (Nat.le_refl _) _)
  have R1 : Hid (Row (w.alloc (.cells (m.cells p) 34)) w.heap.size 34 (m.cells p).toList) := hid (Row.new _ _ _)
  have HD : Hid (decide (mayS m c) = wi 0 72057594037927935 [numS m c]) := hid (by
    simp only [List.mem_cons, List.not_mem_nil, or_false] at hc
    rcases hc with rfl | rfl | rfl | rfl | rfl | rfl | rfl | rfl | rfl <;> simp [wi, mayS, Fi])
  have HN : Hid (∀ W, Calls Tryd.prog 57 #[.agg (m.cells p), .int .i32 (c : Int)] W (VE W (.int .i64 (numS m c)))) := hid (fun W => number_any m p c (by
    simp only [List.mem_cons, List.not_mem_nil, or_false] at hc
    rcases hc with rfl | rfl | rfl | rfl | rfl | rfl | rfl | rfl | rfl <;> simp [sgN]) W)
  have HZS := hid mssize
  rw [HD.out]
  clear HD
  generalize numS m c = N at *
  have HW := hid (mwiA 72057594037927935 [N] #[.int .i64 N] 1 (by simp) (by simp) rfl rfl)
  generalize wi 0 72057594037927935 [N] = b at *
  simp only [List.mem_cons, List.not_mem_nil, or_false] at hc
  rcases hc with rfl | rfl | rfl | rfl | rfl | rfl | rfl | rfl | rfl
  all_goals
    go_enter Tryd.func42, Tryd.ntmps42
    go_wp2_with (first
      | ((with_reducible show wpList _ _ _ ({ dst := some 48, op := _, type := _, pos := _, after := _, guard := _ } :: _) _ _); refine wpList_load_row rfl 34 (.tmp 2) rfl w.heap.size rfl 34 (m.cells p) (0, 0) _ (Row.arr R1.out) Tryd.underlying34 rfl HZS.out ?_)
      | (go_at_call 57; refine (HN.out _).mono ?_; rintro e w1 ⟨rfl, hb1⟩)
      | (go_at_call 40; refine (HW.out _ _ (by simp)).mono ?_; rintro e w' ⟨rfl, rfl⟩))
    go_ret
    exact ⟨rfl, (HB0.out.trans (hb1.mono HB0.out.size)).alloc (HB0.out.trans (hb1.mono HB0.out.size)).size _⟩
theorem may_any (m : Ms) (p : Pl) (w : World) (B : Nat) (hm : PlOk w B m p) (hB : B ≤ w.heap.size) (hf : m.fits) (hfd : Fd w) (c : Nat) (hc : c ∈ sgA) :
    Calls Tryd.prog 42 #[.agg (m.cells p), .int .i32 (c : Int)] w (VE w (.bool (decide (mayS m c)))) := by
  by_cases hn : c ∈ [118, 108, 112, 109, 99, 115, 114, 120, 122]
  · exact may_num m p w c hn
  simp only [sgA, List.mem_cons, List.not_mem_nil, or_false] at hc hn
  have h7 : c = 111 ∨ c = 67 ∨ c = 83 ∨ c = 69 ∨ c = 76 ∨ c = 73 ∨ c = 66 := by omega
  clear hc hn
  rcases h7 with rfl | rfl | rfl | rfl | rfl | rfl | rfl
  · exact may_111 m p w
  · exact may_67 m p w
  · exact may_83 m p w
  · exact may_69 m p w
  · exact may_76 m p w B hm hB hf hfd
  · exact may_73 m p w B hm hB hf hfd
  · exact may_66 m p w
set_option maxHeartbeats 4000000 in
theorem empty_67 (m : Ms) (p : Pl) (w : World) : Calls Tryd.prog 43 #[.agg (m.cells p), .int .i32 67] w (VE w (.bool (decide (emptyS m 67)))) := by
  have HB0 : Hid (Below w.heap.size w (w.alloc (.cells (m.cells p) 34))) := hid ((Below.refl _ _).alloc (Nat.le_refl _) _)
  have R1 : Hid (Row (w.alloc (.cells (m.cells p) 34)) w.heap.size 34 (m.cells p).toList) := hid (Row.new _ _ _)
  have HZ := hid msize
  obtain ⟨b, hb⟩ : ∃ b, decide (m.check = mk0) = b := ⟨_, rfl⟩
  have HE := hid hb
  have HD : Hid (decide (emptyS m 67) = b) := hid hb
  rw [HD.out]
  clear HD hb
  go_enter Tryd.func43, Tryd.ntmps43
  go_wp2_with (first
    | ((with_reducible show wpList _ _ _ ({ dst := some 9, op := _, type := _, pos := _, after := _, guard := _ } :: _) _ _); refine wpl_load_midw rfl 27 (.tmp 8) rfl w.heap.size 12 rfl (Array.toList (m.check.cells)) _ (ms_check R1.out) Tryd.underlying27 rfl (by exact HZ.out) ?_)
    | ((with_reducible show wpList _ _ _ ({ dst := some 11, op := _, type := _, pos := _, after := _, guard := _ } :: _) _ _); refine wpl_eqm rfl m.check mk0 _ (.tmp 9) (.tmp 10) _ rfl rfl rfl HE ?_))
  go_ret
  exact ⟨rfl, HB0.out⟩
set_option maxHeartbeats 4000000 in
theorem empty_83 (m : Ms) (p : Pl) (w : World) (hs : m.sums.length = 6) : Calls Tryd.prog 43 #[.agg (m.cells p), .int .i32 83] w (VE w (.bool (decide (emptyS m 83)))) := by
  have HB0 : Hid (Below w.heap.size w (w.alloc (.cells (m.cells p) 34))) := hid ((Below.refl _ _).alloc (Nat.le_refl _) _)
  have R1 : Hid (Row (w.alloc (.cells (m.cells p) 34)) w.heap.size 34 (m.cells p).toList) := hid (Row.new _ _ _)
  have HZ := hid six_size17
  obtain ⟨b, hb⟩ : ∃ b, decide (m.sums = z6) = b := ⟨_, rfl⟩
  have HE := hid hb
  have HD : Hid (decide (emptyS m 83) = b) := hid hb
  have HS := hid hs
  have HS0 : Hid (z6.length = 6) := hid rfl
  rw [HD.out]
  clear HD hb hs
  go_enter Tryd.func43, Tryd.ntmps43
  go_wp2_with (first
    | ((with_reducible show wpList _ _ _ ({ dst := some 15, op := _, type := _, pos := _, after := _, guard := _ } :: _) _ _); refine wpl_load_midw rfl 28 (.tmp 14) rfl w.heap.size 15 rfl (Array.toList (sixV m.sums)) _ (ms_sums R1.out) Tryd.underlying28 rfl (by exact HZ.out) ?_)
    | ((with_reducible show wpList _ _ _ ({ dst := some 17, op := _, type := _, pos := _, after := _, guard := _ } :: _) _ _); refine wpl_eq6 rfl m.sums z6 _ (.tmp 15) (.tmp 16) _ rfl rfl rfl HS HS0 HE ?_))
  go_ret
  exact ⟨rfl, HB0.out⟩
set_option maxHeartbeats 4000000 in
theorem empty_69 (m : Ms) (p : Pl) (w : World) : Calls Tryd.prog 43 #[.agg (m.cells p), .int .i32 69] w (VE w (.bool (decide (emptyS m 69)))) := by
  have HB0 : Hid (Below w.heap.size w (w.alloc (.cells (m.cells p) 34))) := hid ((Below.refl _ _).alloc (Nat.le_refl _) _)
  have R1 : Hid (Row (w.alloc (.cells (m.cells p) 34)) w.heap.size 34 (m.cells p).toList) := hid (Row.new _ _ _)
  have HZ := hid esize
  obtain ⟨b, hb⟩ : ∃ b, decide (m.entry = en0) = b := ⟨_, rfl⟩
  have HE : Hid (b = true ↔ m.entry = en0) := hid (by rw [← hb]; simp)
  have HD : Hid (decide (emptyS m 69) = b) := hid hb
  rw [HD.out]
  clear HD hb
  go_enter Tryd.func43, Tryd.ntmps43
  go_wp2_with (first
    | ((with_reducible show wpList _ _ _ ({ dst := some 21, op := _, type := _, pos := _, after := _, guard := _ } :: _) _ _); refine wpl_load_midw rfl 30 (.tmp 20) rfl w.heap.size 21 rfl (Array.toList (m.entry.cells)) _ (ms_entry R1.out) Tryd.underlying30 rfl (by exact HZ.out) ?_)
    | ((with_reducible show wpList _ _ _ ({ dst := some 23, op := _, type := _, pos := _, after := _, guard := _ } :: _) _ _); refine wpl_eqe2 rfl m.entry en0 _ (.tmp 21) (.tmp 22) _ rfl rfl rfl HE ?_))
  go_ret
  exact ⟨rfl, HB0.out⟩
set_option maxHeartbeats 4000000 in
theorem empty_76 (m : Ms) (p : Pl) (w : World) : Calls Tryd.prog 43 #[.agg (m.cells p), .int .i32 76] w (VE w (.bool (decide (emptyS m 76)))) := by
  have HB0 : Hid (Below w.heap.size w (w.alloc (.cells (m.cells p) 34))) := hid ((Below.refl _ _).alloc (Nat.le_refl _) _)
  have R1 : Hid (Row (w.alloc (.cells (m.cells p) 34)) w.heap.size 34 (m.cells p).toList) := hid (Row.new _ _ _)
  have a30 : (w.alloc (.cells (m.cells p) 34)).cell? ⟨w.heap.size, 30, none⟩ = some (.slice p.A m.es.length p.cA) := R1.out.cell 30
  by_cases h : m.es = []
  · have HD : Hid (decide (emptyS m 76) = true) := hid (decide_eq_true h)
    have hl : m.es.length = 0 := by rw [h]; rfl
    rw [HD.out]
    rw [hl] at a30
    clear HD h
    go_enter Tryd.func43, Tryd.ntmps43
    go_wp2_with fail
    go_ret
    exact ⟨rfl, HB0.out⟩
  · have HD : Hid (decide (emptyS m 76) = false) := hid (decide_eq_false h)
    have hl : ¬ (m.es.length = 0) := fun e => h (List.eq_nil_of_length_eq_zero e)
    have hl2 : ¬ ((m.es.length : Int) = 0) := by omega
    rw [HD.out]
    clear HD h
    go_enter Tryd.func43, Tryd.ntmps43
    go_wp2_with fail
    go_ret
    exact ⟨by simp [hl], HB0.out⟩
set_option maxHeartbeats 4000000 in
theorem empty_73 (m : Ms) (p : Pl) (w : World) : Calls Tryd.prog 43 #[.agg (m.cells p), .int .i32 73] w (VE w (.bool (decide (emptyS m 73)))) := by
  have HB0 : Hid (Below w.heap.size w (w.alloc (.cells (m.cells p) 34))) := hid ((Below.refl _ _).alloc (Nat.le_refl _) _)
  have R1 : Hid (Row (w.alloc (.cells (m.cells p) 34)) w.heap.size 34 (m.cells p).toList) := hid (Row.new _ _ _)
  have a31 : (w.alloc (.cells (m.cells p) 34)).cell? ⟨w.heap.size, 31, none⟩ = some (.slice p.B m.xs.length p.cB) := R1.out.cell 31
  by_cases h : m.xs = []
  · have HD : Hid (decide (emptyS m 73) = true) := hid (decide_eq_true h)
    have hl : m.xs.length = 0 := by rw [h]; rfl
    rw [HD.out]
    rw [hl] at a31
    clear HD h
    go_enter Tryd.func43, Tryd.ntmps43
    go_wp2_with fail
    go_ret
    exact ⟨rfl, HB0.out⟩
  · have HD : Hid (decide (emptyS m 73) = false) := hid (decide_eq_false h)
    have hl : ¬ (m.xs.length = 0) := fun e => h (List.eq_nil_of_length_eq_zero e)
    have hl2 : ¬ ((m.xs.length : Int) = 0) := by omega
    rw [HD.out]
    clear HD h
    go_enter Tryd.func43, Tryd.ntmps43
    go_wp2_with fail
    go_ret
    exact ⟨by simp [hl], HB0.out⟩
set_option maxHeartbeats 4000000 in
theorem empty_66 (m : Ms) (p : Pl) (w : World) : Calls Tryd.prog 43 #[.agg (m.cells p), .int .i32 66] w (VE w (.bool (decide (emptyS m 66)))) := by
  have HB0 : Hid (Below w.heap.size w (w.alloc (.cells (m.cells p) 34))) := hid ((Below.refl _ _).alloc (Nat.le_refl _) _)
  have R1 : Hid (Row (w.alloc (.cells (m.cells p) 34)) w.heap.size 34 (m.cells p).toList) := hid (Row.new _ _ _)
  have a32 : (w.alloc (.cells (m.cells p) 34)).cell? ⟨w.heap.size, 32, none⟩ = some (.string m.body) := R1.out.cell 32
  have HD : Hid (decide (emptyS m 66) = decide (m.body = ⟨#[]⟩)) := hid rfl
  rw [HD.out]
  clear HD
  go_enter Tryd.func43, Tryd.ntmps43
  go_wp2_with fail
  go_ret
  exact ⟨by rw [← ba_empty]; rfl, HB0.out⟩
set_option maxHeartbeats 4000000 in
theorem empty_num (m : Ms) (p : Pl) (w : World) (c : Nat) (hc : c ∈ sgN) : Calls Tryd.prog 43 #[.agg (m.cells p), .int .i32 (c : Int)] w (VE w (.bool (decide (emptyS m c)))) := by
  have HB0 : Hid (Below w.heap.size w (w.alloc (.cells (m.cells p) 34))) := hid ((Below.refl _ _).alloc (Nat.le_refl _) _)
  have R1 : Hid (Row (w.alloc (.cells (m.cells p) 34)) w.heap.size 34 (m.cells p).toList) := hid (Row.new _ _ _)
  have HD : Hid (decide (emptyS m c) = decide (numS m c = 0)) := hid (by
    simp only [sgN, List.mem_cons, List.not_mem_nil, or_false] at hc
    rcases hc with rfl | rfl | rfl | rfl | rfl | rfl | rfl | rfl | rfl | rfl <;> rfl)
  have HN := hid (fun W => number_any m p c hc W)
  have HZS := hid mssize
  rw [HD.out]
  clear HD
  generalize numS m c = N at *
  simp only [sgN, List.mem_cons, List.not_mem_nil, or_false] at hc
  rcases hc with rfl | rfl | rfl | rfl | rfl | rfl | rfl | rfl | rfl | rfl
  all_goals
    go_enter Tryd.func43, Tryd.ntmps43
    go_wp2_with (first
      | ((with_reducible show wpList _ _ _ ({ dst := some 41, op := _, type := _, pos := _, after := _, guard := _ } :: _) _ _); refine wpList_load_row rfl 34 (.tmp 2) rfl w.heap.size rfl 34 (m.cells p) (0, 0) _ (Row.arr R1.out) Tryd.underlying34 rfl HZS.out ?_)
      | (go_at_call 57; refine (HN.out _).mono ?_; rintro e w1 ⟨rfl, hb1⟩))
    go_ret
    exact ⟨by first | rfl | simp, HB0.out.trans (hb1.mono HB0.out.size)⟩
theorem empty_any (m : Ms) (p : Pl) (w : World) (hs : m.sums.length = 6) (c : Nat) (hc : c ∈ sgA) :
    Calls Tryd.prog 43 #[.agg (m.cells p), .int .i32 (c : Int)] w (VE w (.bool (decide (emptyS m c)))) := by
  by_cases hn : c ∈ sgN
  · exact empty_num m p w c hn
  simp only [sgA, sgN, List.mem_cons, List.not_mem_nil, or_false] at hc hn
  have h7 : c = 67 ∨ c = 83 ∨ c = 69 ∨ c = 76 ∨ c = 73 ∨ c = 66 := by omega
  clear hc hn
  rcases h7 with rfl | rfl | rfl | rfl | rfl | rfl
  · exact empty_67 m p w
  · exact empty_83 m p w hs
  · exact empty_69 m p w
  · exact empty_76 m p w
  · exact empty_73 m p w
  · exact empty_66 m p w
end Go.Proofs.YteahbalcielhpaaDoor
