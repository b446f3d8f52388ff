/-
  The walk of package ledger's judgeTransfer.
-/
import Derived.Test.YtgednnjmcjhfmaaGreatDoorM11
import Derived.Deep.QuietTactic
import Derived.BigQuiet
namespace Go.Proofs.YtgednnjmcjhfmaaGreatDoor
open Go.RowKit
set_option maxRecDepth 10000
set_option maxHeartbeats 80000000
/-- where the i-th account lies -/
def ptA (g i : Nat) : Value := .pointer (some ⟨g, i * 4, none⟩)
section
variable (p g : Nat) (va vt : Value) (S : Lg) (a b c d : Nat) (w : World) (h : HasG w 96 p va vt S)
theorem round_no {x y : Nat} (hx : U64 x) (hy : U64 y) (h : U64 (x + y)) : Hid (∀ W : World, Calls Tryz.prog 148 #[.int .u64 (x : Int), .int .u64 (y : Int)] W fun e w' => e = .returned (.bool false) ∧ w' = W) := hid fun W => by
 have := round_any x y W hx hy
 rw [decide_eq_false (fun q => q h)] at this
 exact this.mono fun _ _ hh => ⟨hh.1, hh.2.symm⟩
theorem round_yes {x y : Nat} (hx : U64 x) (hy : U64 y) (h : ¬ U64 (x + y)) : Hid (∀ W : World, Calls Tryz.prog 148 #[.int .u64 (x : Int), .int .u64 (y : Int)] W fun e w' => e = .returned (.bool true) ∧ w' = W) := hid fun W => by
 have := round_any x y W hx hy
 rw [decide_eq_true h] at this
 exact this.mono fun _ _ hh => ⟨hh.1, hh.2.symm⟩
theorem judget_1 (pd pc : Option Addr) : Calls Tryz.prog 128 #[.pointer (some ⟨p, 0, none⟩), .agg #[.int .u64 ((0 : Nat) : Int), .int .u64 (b : Int), .int .u64 (c : Int), .int .u64 (d : Int)], .pointer pd, .pointer pc] w (VE w (.int .i64 ((1 : Nat) : Int))) := by
 go_enter Tryz.func128, Tryz.ntmps128
 go_wp2_with fail
 go_ret
 exact ⟨rfl, (Below.refl _ _).alloc (Nat.le_refl _) _⟩
include h in
theorem judget_2 (pd pc : Option Addr) (h0 : a ≠ 0) (h1 : S.ft a < S.T.length) : Calls Tryz.prog 128 #[.pointer (some ⟨p, 0, none⟩), .agg #[.int .u64 (a : Int), .int .u64 (b : Int), .int .u64 (c : Int), .int .u64 (d : Int)], .pointer pd, .pointer pc] w (VE w (.int .i64 ((2 : Nat) : Int))) := by
 obtain ⟨g, c', -, -, hg⟩ := own_some h.trs (by omega : 0 < S.T.length)
 have HF := hid (fun W (hW : Below w.heap.size w W) => transfer_yes p g (S.ft a) va vt S a W (h.below hW) hg rfl h1)
 have hz : ((a : Int) == 0) = false := ne_nat h0
 clear h h0 h1 hg
 generalize S.ft a = k at *
 go_enter Tryz.func128, Tryz.ntmps128
 go_wp2_with (go_at_call 133; refine (HF.out _ ((Below.refl _ _).alloc (Nat.le_refl _) _)).mono ?_; rintro e w2 ⟨rfl, hb2⟩)
 go_ret
 exact ⟨rfl, ((Below.refl _ _).alloc (Nat.le_refl _) _).trans (hb2.mono (by simp))⟩
include h in
theorem judget_4 (h0 : a ≠ 0) (h1 : ¬ S.ft a < S.T.length) (pd pc : Option Addr) (h2 : b = c) : Calls Tryz.prog 128 #[.pointer (some ⟨p, 0, none⟩), .agg #[.int .u64 (a : Int), .int .u64 (b : Int), .int .u64 (c : Int), .int .u64 (d : Int)], .pointer pd, .pointer pc] w (VE w (.int .i64 ((4 : Nat) : Int))) := by
 have HF := hid (fun W (hW : Below w.heap.size w W) => transfer_no p va vt S a W (h.below hW) h1)
 have hz : ((a : Int) == 0) = false := ne_nat h0
 have HRW := hid (show Row (w.alloc (.cells #[.int .u64 (a : Int), .int .u64 (b : Int), .int .u64 (c : Int), .int .u64 (d : Int)] 82)) w.heap.size 82 (#[.int .u64 (a : Int), .int .u64 (b : Int), .int .u64 (c : Int), .int .u64 (d : Int)] : Array Value).toList from Row.new _ _ _)
 subst h2
 clear h h0 h1
 go_enter Tryz.func128, Tryz.ntmps128
 go_wp2_with (go_at_call 133; refine (HF.out _ ((Below.refl _ _).alloc (Nat.le_refl _) _)).mono ?_; rintro e w2 ⟨rfl, hb2⟩; have hrx := HRW.out.below hb2 (by simp); have hx1 := hrx.at_ 1 _ rfl; have hx2 := hrx.at_ 2 _ rfl; have hx3 := hrx.at_ 3 _ rfl; have HRX := hid hrx; clear hrx)
 go_ret
 exact ⟨rfl, ((Below.refl _ _).alloc (Nat.le_refl _) _).trans (hb2.mono (by simp))⟩
include h in
theorem judget_5 (h0 : a ≠ 0) (h1 : ¬ S.ft a < S.T.length) (pc : Option Addr) (h2 : b ≠ c) : Calls Tryz.prog 128 #[.pointer (some ⟨p, 0, none⟩), .agg #[.int .u64 (a : Int), .int .u64 (b : Int), .int .u64 (c : Int), .int .u64 (d : Int)], .pointer none, .pointer pc] w (VE w (.int .i64 ((5 : Nat) : Int))) := by
 have HF := hid (fun W (hW : Below w.heap.size w W) => transfer_no p va vt S a W (h.below hW) h1)
 have hz : ((a : Int) == 0) = false := ne_nat h0
 have HRW := hid (show Row (w.alloc (.cells #[.int .u64 (a : Int), .int .u64 (b : Int), .int .u64 (c : Int), .int .u64 (d : Int)] 82)) w.heap.size 82 (#[.int .u64 (a : Int), .int .u64 (b : Int), .int .u64 (c : Int), .int .u64 (d : Int)] : Array Value).toList from Row.new _ _ _)
 have hbc := ne_nat h2
 clear h2
 clear h h0 h1
 go_enter Tryz.func128, Tryz.ntmps128
 go_wp2_with (go_at_call 133; refine (HF.out _ ((Below.refl _ _).alloc (Nat.le_refl _) _)).mono ?_; rintro e w2 ⟨rfl, hb2⟩; have hrx := HRW.out.below hb2 (by simp); have hx1 := hrx.at_ 1 _ rfl; have hx2 := hrx.at_ 2 _ rfl; have hx3 := hrx.at_ 3 _ rfl; have HRX := hid hrx; clear hrx)
 go_ret
 exact ⟨rfl, ((Below.refl _ _).alloc (Nat.le_refl _) _).trans (hb2.mono (by simp))⟩
include h in
theorem judget_6 (h0 : a ≠ 0) (h1 : ¬ S.ft a < S.T.length) (ad : Addr) (h2 : b ≠ c) : Calls Tryz.prog 128 #[.pointer (some ⟨p, 0, none⟩), .agg #[.int .u64 (a : Int), .int .u64 (b : Int), .int .u64 (c : Int), .int .u64 (d : Int)], .pointer (some ad), .pointer none] w (VE w (.int .i64 ((6 : Nat) : Int))) := by
 have HF := hid (fun W (hW : Below w.heap.size w W) => transfer_no p va vt S a W (h.below hW) h1)
 have hz : ((a : Int) == 0) = false := ne_nat h0
 have HRW := hid (show Row (w.alloc (.cells #[.int .u64 (a : Int), .int .u64 (b : Int), .int .u64 (c : Int), .int .u64 (d : Int)] 82)) w.heap.size 82 (#[.int .u64 (a : Int), .int .u64 (b : Int), .int .u64 (c : Int), .int .u64 (d : Int)] : Array Value).toList from Row.new _ _ _)
 have hbc := ne_nat h2
 clear h2
 clear h h0 h1
 go_enter Tryz.func128, Tryz.ntmps128
 go_wp2_with (go_at_call 133; refine (HF.out _ ((Below.refl _ _).alloc (Nat.le_refl _) _)).mono ?_; rintro e w2 ⟨rfl, hb2⟩; have hrx := HRW.out.below hb2 (by simp); have hx1 := hrx.at_ 1 _ rfl; have hx2 := hrx.at_ 2 _ rfl; have hx3 := hrx.at_ 3 _ rfl; have HRX := hid hrx; clear hrx)
 go_ret
 exact ⟨rfl, ((Below.refl _ _).alloc (Nat.le_refl _) _).trans (hb2.mono (by simp))⟩
include h in
theorem judget_7 (h0 : a ≠ 0) (h1 : ¬ S.ft a < S.T.length) (ad ac : Addr) (h2 : b ≠ c) (h3 : d = 0) : Calls Tryz.prog 128 #[.pointer (some ⟨p, 0, none⟩), .agg #[.int .u64 (a : Int), .int .u64 (b : Int), .int .u64 (c : Int), .int .u64 (d : Int)], .pointer (some ad), .pointer (some ac)] w (VE w (.int .i64 ((7 : Nat) : Int))) := by
 have HF := hid (fun W (hW : Below w.heap.size w W) => transfer_no p va vt S a W (h.below hW) h1)
 have hz : ((a : Int) == 0) = false := ne_nat h0
 have HRW := hid (show Row (w.alloc (.cells #[.int .u64 (a : Int), .int .u64 (b : Int), .int .u64 (c : Int), .int .u64 (d : Int)] 82)) w.heap.size 82 (#[.int .u64 (a : Int), .int .u64 (b : Int), .int .u64 (c : Int), .int .u64 (d : Int)] : Array Value).toList from Row.new _ _ _)
 have hbc := ne_nat h2
 subst h3
 clear h2
 clear h h0 h1
 go_enter Tryz.func128, Tryz.ntmps128
 go_wp2_with (go_at_call 133; refine (HF.out _ ((Below.refl _ _).alloc (Nat.le_refl _) _)).mono ?_; rintro e w2 ⟨rfl, hb2⟩; have hrx := HRW.out.below hb2 (by simp); have hx1 := hrx.at_ 1 _ rfl; have hx2 := hrx.at_ 2 _ rfl; have hx3 := hrx.at_ 3 (.int .u64 0) rfl; have HRX := hid hrx; clear hrx)
 go_ret
 exact ⟨rfl, ((Below.refl _ _).alloc (Nat.le_refl _) _).trans (hb2.mono (by simp))⟩
include h in
theorem judget_8a (hg : va.ownBlock = some g) (i k : Nat) (hi : i < S.A.length) (hk : k < S.A.length) (h0 : a ≠ 0) (h1 : ¬ S.ft a < S.T.length) (h2 : b ≠ c) (h3 : d ≠ 0) (hd : U64 d) (ho : ¬ U64 (S.A[i].deb + d)) :
  Calls Tryz.prog 128 #[.pointer (some ⟨p, 0, none⟩), .agg #[.int .u64 (a : Int), .int .u64 (b : Int), .int .u64 (c : Int), .int .u64 (d : Int)], ptA g i, ptA g k] w (VE w (.int .i64 ((8 : Nat) : Int))) := by
 have HF := hid (fun W (hW : Below w.heap.size w W) => transfer_no p va vt S a W (h.below hW) h1)
 have hz : ((a : Int) == 0) = false := ne_nat h0
 have HRW := hid (show Row (w.alloc (.cells #[.int .u64 (a : Int), .int .u64 (b : Int), .int .u64 (c : Int), .int .u64 (d : Int)] 82)) w.heap.size 82 (#[.int .u64 (a : Int), .int .u64 (b : Int), .int .u64 (c : Int), .int .u64 (d : Int)] : Array Value).toList from Row.new _ _ _)
 have hbc := ne_nat h2
 have hdz : ((d : Int) == 0) = false := ne_nat h3
 have HC := hid (fun W (hW : Below w.heap.size w W) j (hj : j < 4) => (h.below hW).cellA hg i j hi hj)
 have HC' := hid (fun W (hW : Below w.heap.size w W) j (hj : j < 4) => (h.below hW).cellA hg k j hk hj)
 have HQ1 := round_yes (h.wf.oa _ (List.getElem_mem hi)).1.2.2.1 hd ho
 have HQ2 := HQ1
 clear ho
 have ei : S.A[i].cells = [.int .u64 (S.A[i].id : Int), .int .i64 S.A[i].flags, .int .u64 (S.A[i].deb : Int), .int .u64 (S.A[i].cre : Int)] := rfl
 have ek : S.A[k].cells = [.int .u64 (S.A[k].id : Int), .int .i64 S.A[k].flags, .int .u64 (S.A[k].deb : Int), .int .u64 (S.A[k].cre : Int)] := rfl
 rw [ei] at HC
 rw [ek] at HC'
 generalize S.A[i].flags = fl at *
 generalize S.A[i].deb = db at *
 generalize S.A[i].cre = cr at *
 generalize S.A[i].id = id at *
 generalize S.A[k].flags = fl2 at *
 generalize S.A[k].deb = db2 at *
 generalize S.A[k].cre = cr2 at *
 generalize S.A[k].id = id2 at *
 clear h h0 h1 h2 h3 ei ek hi hk hg
 unfold ptA
 go_enter Tryz.func128, Tryz.ntmps128
 go_wp2_with (go_at_call 133; refine (HF.out _ ((Below.refl _ _).alloc (Nat.le_refl _) _)).mono ?_; rintro e w2 ⟨rfl, hb2⟩; have hrx := HRW.out.below hb2 (by simp); have hx1 := hrx.at_ 1 _ rfl; have hx2 := hrx.at_ 2 _ rfl; have hx3 := hrx.at_ 3 _ rfl; have HRX := hid hrx; clear hrx; have hbw := ((Below.refl w.heap.size w).alloc (Nat.le_refl _) _).trans (hb2.mono (by simp)); have g1 : w2.cell? ⟨g, i * 4 + 1, none⟩ = some (.int .i64 fl) := HC.out w2 hbw 1 (by omega); have g2 : w2.cell? ⟨g, i * 4 + 2, none⟩ = some (.int .u64 (db : Int)) := HC.out w2 hbw 2 (by omega); have g3 : w2.cell? ⟨g, i * 4 + 3, none⟩ = some (.int .u64 (cr : Int)) := HC.out w2 hbw 3 (by omega); have g4 : w2.cell? ⟨g, k * 4 + 3, none⟩ = some (.int .u64 (cr2 : Int)) := HC'.out w2 hbw 3 (by omega); clear hbw)
 go_quiet (first | (go_at_call 148; exact Calls.quiet_of_same (HQ1.out _)) | (go_at_call 148; exact Calls.quiet_of_same (HQ2.out _)))
 go_wp2_with fail
 go_ret
 first | exact ⟨rfl, below_drewN (((Below.refl _ _).alloc (Nat.le_refl _) _).trans (hb2.mono (by simp))) _⟩ | exact ⟨rfl, below_drewN (below_drewN (((Below.refl _ _).alloc (Nat.le_refl _) _).trans (hb2.mono (by simp))) _) _⟩
include h in
theorem judget_8b (hg : va.ownBlock = some g) (i k : Nat) (hi : i < S.A.length) (hk : k < S.A.length) (h0 : a ≠ 0) (h1 : ¬ S.ft a < S.T.length) (h2 : b ≠ c) (h3 : d ≠ 0) (hd : U64 d) (ho : U64 (S.A[i].deb + d)) (ho2 : ¬ U64 (S.A[k].cre + d)) :
  Calls Tryz.prog 128 #[.pointer (some ⟨p, 0, none⟩), .agg #[.int .u64 (a : Int), .int .u64 (b : Int), .int .u64 (c : Int), .int .u64 (d : Int)], ptA g i, ptA g k] w (VE w (.int .i64 ((8 : Nat) : Int))) := by
 have HF := hid (fun W (hW : Below w.heap.size w W) => transfer_no p va vt S a W (h.below hW) h1)
 have hz : ((a : Int) == 0) = false := ne_nat h0
 have HRW := hid (show Row (w.alloc (.cells #[.int .u64 (a : Int), .int .u64 (b : Int), .int .u64 (c : Int), .int .u64 (d : Int)] 82)) w.heap.size 82 (#[.int .u64 (a : Int), .int .u64 (b : Int), .int .u64 (c : Int), .int .u64 (d : Int)] : Array Value).toList from Row.new _ _ _)
 have hbc := ne_nat h2
 have hdz : ((d : Int) == 0) = false := ne_nat h3
 have HC := hid (fun W (hW : Below w.heap.size w W) j (hj : j < 4) => (h.below hW).cellA hg i j hi hj)
 have HC' := hid (fun W (hW : Below w.heap.size w W) j (hj : j < 4) => (h.below hW).cellA hg k j hk hj)
 have HQ1 := round_no (h.wf.oa _ (List.getElem_mem hi)).1.2.2.1 hd ho
 have HQ2 := round_yes (h.wf.oa _ (List.getElem_mem hk)).1.2.2.2 hd ho2
 clear ho ho2
 have ei : S.A[i].cells = [.int .u64 (S.A[i].id : Int), .int .i64 S.A[i].flags, .int .u64 (S.A[i].deb : Int), .int .u64 (S.A[i].cre : Int)] := rfl
 have ek : S.A[k].cells = [.int .u64 (S.A[k].id : Int), .int .i64 S.A[k].flags, .int .u64 (S.A[k].deb : Int), .int .u64 (S.A[k].cre : Int)] := rfl
 rw [ei] at HC
 rw [ek] at HC'
 generalize S.A[i].flags = fl at *
 generalize S.A[i].deb = db at *
 generalize S.A[i].cre = cr at *
 generalize S.A[i].id = id at *
 generalize S.A[k].flags = fl2 at *
 generalize S.A[k].deb = db2 at *
 generalize S.A[k].cre = cr2 at *
 generalize S.A[k].id = id2 at *
 clear h h0 h1 h2 h3 ei ek hi hk hg
 unfold ptA
 go_enter Tryz.func128, Tryz.ntmps128
 go_wp2_with (go_at_call 133; refine (HF.out _ ((Below.refl _ _).alloc (Nat.le_refl _) _)).mono ?_; rintro e w2 ⟨rfl, hb2⟩; have hrx := HRW.out.below hb2 (by simp); have hx1 := hrx.at_ 1 _ rfl; have hx2 := hrx.at_ 2 _ rfl; have hx3 := hrx.at_ 3 _ rfl; have HRX := hid hrx; clear hrx; have hbw := ((Below.refl w.heap.size w).alloc (Nat.le_refl _) _).trans (hb2.mono (by simp)); have g1 : w2.cell? ⟨g, i * 4 + 1, none⟩ = some (.int .i64 fl) := HC.out w2 hbw 1 (by omega); have g2 : w2.cell? ⟨g, i * 4 + 2, none⟩ = some (.int .u64 (db : Int)) := HC.out w2 hbw 2 (by omega); have g3 : w2.cell? ⟨g, i * 4 + 3, none⟩ = some (.int .u64 (cr : Int)) := HC.out w2 hbw 3 (by omega); have g4 : w2.cell? ⟨g, k * 4 + 3, none⟩ = some (.int .u64 (cr2 : Int)) := HC'.out w2 hbw 3 (by omega); clear hbw)
 go_quiet (first | (go_at_call 148; exact Calls.quiet_of_same (HQ1.out _)) | (go_at_call 148; exact Calls.quiet_of_same (HQ2.out _)))
 go_wp2_with fail
 go_ret
 first | exact ⟨rfl, below_drewN (((Below.refl _ _).alloc (Nat.le_refl _) _).trans (hb2.mono (by simp))) _⟩ | exact ⟨rfl, below_drewN (below_drewN (((Below.refl _ _).alloc (Nat.le_refl _) _).trans (hb2.mono (by simp))) _) _⟩
include h in
theorem judget_9 (hg : va.ownBlock = some g) (i k : Nat) (hi : i < S.A.length) (hk : k < S.A.length) (h0 : a ≠ 0) (h1 : ¬ S.ft a < S.T.length) (h2 : b ≠ c) (h3 : d ≠ 0) (hd : U64 d) (ho : U64 (S.A[i].deb + d)) (ho2 : U64 (S.A[k].cre + d)) (hf : S.A[i].flags = 1) (hl : S.A[i].cre < S.A[i].deb + d) :
  Calls Tryz.prog 128 #[.pointer (some ⟨p, 0, none⟩), .agg #[.int .u64 (a : Int), .int .u64 (b : Int), .int .u64 (c : Int), .int .u64 (d : Int)], ptA g i, ptA g k] w (VE w (.int .i64 ((9 : Nat) : Int))) := by
 have HF := hid (fun W (hW : Below w.heap.size w W) => transfer_no p va vt S a W (h.below hW) h1)
 have hz : ((a : Int) == 0) = false := ne_nat h0
 have HRW := hid (show Row (w.alloc (.cells #[.int .u64 (a : Int), .int .u64 (b : Int), .int .u64 (c : Int), .int .u64 (d : Int)] 82)) w.heap.size 82 (#[.int .u64 (a : Int), .int .u64 (b : Int), .int .u64 (c : Int), .int .u64 (d : Int)] : Array Value).toList from Row.new _ _ _)
 have hbc := ne_nat h2
 have hdz : ((d : Int) == 0) = false := ne_nat h3
 have HC := hid (fun W (hW : Below w.heap.size w W) j (hj : j < 4) => (h.below hW).cellA hg i j hi hj)
 have HC' := hid (fun W (hW : Below w.heap.size w W) j (hj : j < 4) => (h.below hW).cellA hg k j hk hj)
 have HQ1 := round_no (h.wf.oa _ (List.getElem_mem hi)).1.2.2.1 hd ho
 have HQ2 := round_no (h.wf.oa _ (List.getElem_mem hk)).1.2.2.2 hd ho2
 have e1 := u64_wrap_small _ _ ho
 clear ho2
 obtain ⟨s, hs⟩ : ∃ s, S.A[i].deb + d = s := ⟨_, rfl⟩
 rw [hs] at e1 hl
 clear hs ho
 have hf1 : (S.A[i].flags == 1) = true := beq_iff_eq.2 hf
 have hl1 : decide (S.A[i].cre < s) = true := decide_eq_true hl
 have hl2 : decide ((S.A[i].cre : Int) < (s : Int)) = true := decide_eq_true (by omega)
 clear hf hl
 have ei : S.A[i].cells = [.int .u64 (S.A[i].id : Int), .int .i64 S.A[i].flags, .int .u64 (S.A[i].deb : Int), .int .u64 (S.A[i].cre : Int)] := rfl
 have ek : S.A[k].cells = [.int .u64 (S.A[k].id : Int), .int .i64 S.A[k].flags, .int .u64 (S.A[k].deb : Int), .int .u64 (S.A[k].cre : Int)] := rfl
 rw [ei] at HC
 rw [ek] at HC'
 generalize S.A[i].flags = fl at *
 generalize S.A[i].deb = db at *
 generalize S.A[i].cre = cr at *
 generalize S.A[i].id = id at *
 generalize S.A[k].flags = fl2 at *
 generalize S.A[k].deb = db2 at *
 generalize S.A[k].cre = cr2 at *
 generalize S.A[k].id = id2 at *
 clear h h0 h1 h2 h3 ei ek hi hk hg
 unfold ptA
 go_enter Tryz.func128, Tryz.ntmps128
 go_wp2_with (go_at_call 133; refine (HF.out _ ((Below.refl _ _).alloc (Nat.le_refl _) _)).mono ?_; rintro e w2 ⟨rfl, hb2⟩; have hrx := HRW.out.below hb2 (by simp); have hx1 := hrx.at_ 1 _ rfl; have hx2 := hrx.at_ 2 _ rfl; have hx3 := hrx.at_ 3 _ rfl; have HRX := hid hrx; clear hrx; have hbw := ((Below.refl w.heap.size w).alloc (Nat.le_refl _) _).trans (hb2.mono (by simp)); have g1 : w2.cell? ⟨g, i * 4 + 1, none⟩ = some (.int .i64 fl) := HC.out w2 hbw 1 (by omega); have g2 : w2.cell? ⟨g, i * 4 + 2, none⟩ = some (.int .u64 (db : Int)) := HC.out w2 hbw 2 (by omega); have g3 : w2.cell? ⟨g, i * 4 + 3, none⟩ = some (.int .u64 (cr : Int)) := HC.out w2 hbw 3 (by omega); have g4 : w2.cell? ⟨g, k * 4 + 3, none⟩ = some (.int .u64 (cr2 : Int)) := HC'.out w2 hbw 3 (by omega); clear hbw)
 go_quiet (first | (go_at_call 148; exact Calls.quiet_of_same (HQ1.out _)) | (go_at_call 148; exact Calls.quiet_of_same (HQ2.out _)))
 go_wp2_with fail
 go_quiet (fail)
 go_wp2_with fail
 go_ret
 first | exact ⟨rfl, below_drewN (((Below.refl _ _).alloc (Nat.le_refl _) _).trans (hb2.mono (by simp))) _⟩ | exact ⟨rfl, below_drewN (below_drewN (((Below.refl _ _).alloc (Nat.le_refl _) _).trans (hb2.mono (by simp))) _) _⟩
include h in
theorem judget_10a (hg : va.ownBlock = some g) (i k : Nat) (hi : i < S.A.length) (hk : k < S.A.length) (h0 : a ≠ 0) (h1 : ¬ S.ft a < S.T.length) (h2 : b ≠ c) (h3 : d ≠ 0) (hd : U64 d) (ho : U64 (S.A[i].deb + d)) (ho2 : U64 (S.A[k].cre + d)) (hf : S.A[i].flags = 1) (hl : ¬ S.A[i].cre < S.A[i].deb + d) (h16 : S.T.length = 16) :
  Calls Tryz.prog 128 #[.pointer (some ⟨p, 0, none⟩), .agg #[.int .u64 (a : Int), .int .u64 (b : Int), .int .u64 (c : Int), .int .u64 (d : Int)], ptA g i, ptA g k] w (VE w (.int .i64 ((10 : Nat) : Int))) := by
 have HF := hid (fun W (hW : Below w.heap.size w W) => transfer_no p va vt S a W (h.below hW) h1)
 have hz : ((a : Int) == 0) = false := ne_nat h0
 have HRW := hid (show Row (w.alloc (.cells #[.int .u64 (a : Int), .int .u64 (b : Int), .int .u64 (c : Int), .int .u64 (d : Int)] 82)) w.heap.size 82 (#[.int .u64 (a : Int), .int .u64 (b : Int), .int .u64 (c : Int), .int .u64 (d : Int)] : Array Value).toList from Row.new _ _ _)
 have hbc := ne_nat h2
 have hdz : ((d : Int) == 0) = false := ne_nat h3
 have HC := hid (fun W (hW : Below w.heap.size w W) j (hj : j < 4) => (h.below hW).cellA hg i j hi hj)
 have HC' := hid (fun W (hW : Below w.heap.size w W) j (hj : j < 4) => (h.below hW).cellA hg k j hk hj)
 have HQ1 := round_no (h.wf.oa _ (List.getElem_mem hi)).1.2.2.1 hd ho
 have HQ2 := round_no (h.wf.oa _ (List.getElem_mem hk)).1.2.2.2 hd ho2
 have e1 := u64_wrap_small _ _ ho
 clear ho2
 obtain ⟨s, hs⟩ : ∃ s, S.A[i].deb + d = s := ⟨_, rfl⟩
 rw [hs] at e1 hl
 clear hs ho
 have hf1 : (S.A[i].flags == 1) = true := beq_iff_eq.2 hf
 have hl1 : decide (S.A[i].cre < s) = false := decide_eq_false hl
 have hl2 : decide ((S.A[i].cre : Int) < (s : Int)) = false := decide_eq_false (by omega)
 clear hf hl
 obtain ⟨A', c', e', hnc, -⟩ := h.vt_shape
 have HB := hid (fun W (hW : Below w.heap.size w W) => (h.below hW).c1)
 rw [e'] at HB
 have hw16 := h.wf.lt
 have hq : ((S.T.length : Int) == 16) = decide (S.T.length = 16) := by
  by_cases e : S.T.length = 16
  ·
   rw [decide_eq_true e, e]; rfl
  ·
   rw [decide_eq_false e]; exact ne_nat e
 generalize S.T.length = n at *
 clear e'
 have hq2 : ((n : Int) == 16) = true := by rw [hq, decide_eq_true h16]
 clear hq h16
 have ei : S.A[i].cells = [.int .u64 (S.A[i].id : Int), .int .i64 S.A[i].flags, .int .u64 (S.A[i].deb : Int), .int .u64 (S.A[i].cre : Int)] := rfl
 have ek : S.A[k].cells = [.int .u64 (S.A[k].id : Int), .int .i64 S.A[k].flags, .int .u64 (S.A[k].deb : Int), .int .u64 (S.A[k].cre : Int)] := rfl
 rw [ei] at HC
 rw [ek] at HC'
 generalize S.A[i].flags = fl at *
 generalize S.A[i].deb = db at *
 generalize S.A[i].cre = cr at *
 generalize S.A[i].id = id at *
 generalize S.A[k].flags = fl2 at *
 generalize S.A[k].deb = db2 at *
 generalize S.A[k].cre = cr2 at *
 generalize S.A[k].id = id2 at *
 clear h h0 h1 h2 h3 ei ek hi hk hg
 unfold ptA
 go_enter Tryz.func128, Tryz.ntmps128
 go_wp2_with (go_at_call 133; refine (HF.out _ ((Below.refl _ _).alloc (Nat.le_refl _) _)).mono ?_; rintro e w2 ⟨rfl, hb2⟩; have hrx := HRW.out.below hb2 (by simp); have hx1 := hrx.at_ 1 _ rfl; have hx2 := hrx.at_ 2 _ rfl; have hx3 := hrx.at_ 3 _ rfl; have HRX := hid hrx; clear hrx; have hbw := ((Below.refl w.heap.size w).alloc (Nat.le_refl _) _).trans (hb2.mono (by simp)); have g1 : w2.cell? ⟨g, i * 4 + 1, none⟩ = some (.int .i64 fl) := HC.out w2 hbw 1 (by omega); have g2 : w2.cell? ⟨g, i * 4 + 2, none⟩ = some (.int .u64 (db : Int)) := HC.out w2 hbw 2 (by omega); have g3 : w2.cell? ⟨g, i * 4 + 3, none⟩ = some (.int .u64 (cr : Int)) := HC.out w2 hbw 3 (by omega); have g4 : w2.cell? ⟨g, k * 4 + 3, none⟩ = some (.int .u64 (cr2 : Int)) := HC'.out w2 hbw 3 (by omega); have g5 := HB.out w2 hbw; clear hbw)
 go_quiet (first | (go_at_call 148; exact Calls.quiet_of_same (HQ1.out _)) | (go_at_call 148; exact Calls.quiet_of_same (HQ2.out _)))
 go_wp2_with fail
 go_quiet (fail)
 go_wp2_with fail
 go_ret
 first | exact ⟨rfl, below_drewN (((Below.refl _ _).alloc (Nat.le_refl _) _).trans (hb2.mono (by simp))) _⟩ | exact ⟨rfl, below_drewN (below_drewN (((Below.refl _ _).alloc (Nat.le_refl _) _).trans (hb2.mono (by simp))) _) _⟩
include h in
theorem judget_10b (hg : va.ownBlock = some g) (i k : Nat) (hi : i < S.A.length) (hk : k < S.A.length) (h0 : a ≠ 0) (h1 : ¬ S.ft a < S.T.length) (h2 : b ≠ c) (h3 : d ≠ 0) (hd : U64 d) (ho : U64 (S.A[i].deb + d)) (ho2 : U64 (S.A[k].cre + d)) (hf : ¬ S.A[i].flags = 1) (h16 : S.T.length = 16) :
  Calls Tryz.prog 128 #[.pointer (some ⟨p, 0, none⟩), .agg #[.int .u64 (a : Int), .int .u64 (b : Int), .int .u64 (c : Int), .int .u64 (d : Int)], ptA g i, ptA g k] w (VE w (.int .i64 ((10 : Nat) : Int))) := by
 have HF := hid (fun W (hW : Below w.heap.size w W) => transfer_no p va vt S a W (h.below hW) h1)
 have hz : ((a : Int) == 0) = false := ne_nat h0
 have HRW := hid (show Row (w.alloc (.cells #[.int .u64 (a : Int), .int .u64 (b : Int), .int .u64 (c : Int), .int .u64 (d : Int)] 82)) w.heap.size 82 (#[.int .u64 (a : Int), .int .u64 (b : Int), .int .u64 (c : Int), .int .u64 (d : Int)] : Array Value).toList from Row.new _ _ _)
 have hbc := ne_nat h2
 have hdz : ((d : Int) == 0) = false := ne_nat h3
 have HC := hid (fun W (hW : Below w.heap.size w W) j (hj : j < 4) => (h.below hW).cellA hg i j hi hj)
 have HC' := hid (fun W (hW : Below w.heap.size w W) j (hj : j < 4) => (h.below hW).cellA hg k j hk hj)
 have HQ1 := round_no (h.wf.oa _ (List.getElem_mem hi)).1.2.2.1 hd ho
 have HQ2 := round_no (h.wf.oa _ (List.getElem_mem hk)).1.2.2.2 hd ho2
 have e1 := u64_wrap_small _ _ ho
 clear ho2
 clear ho e1
 have hf1 : (S.A[i].flags == 1) = false := beq_eq_false_iff_ne.2 hf
 clear hf
 obtain ⟨A', c', e', hnc, -⟩ := h.vt_shape
 have HB := hid (fun W (hW : Below w.heap.size w W) => (h.below hW).c1)
 rw [e'] at HB
 have hw16 := h.wf.lt
 have hq : ((S.T.length : Int) == 16) = decide (S.T.length = 16) := by
  by_cases e : S.T.length = 16
  ·
   rw [decide_eq_true e, e]; rfl
  ·
   rw [decide_eq_false e]; exact ne_nat e
 generalize S.T.length = n at *
 clear e'
 have hq2 : ((n : Int) == 16) = true := by rw [hq, decide_eq_true h16]
 clear hq h16
 have ei : S.A[i].cells = [.int .u64 (S.A[i].id : Int), .int .i64 S.A[i].flags, .int .u64 (S.A[i].deb : Int), .int .u64 (S.A[i].cre : Int)] := rfl
 have ek : S.A[k].cells = [.int .u64 (S.A[k].id : Int), .int .i64 S.A[k].flags, .int .u64 (S.A[k].deb : Int), .int .u64 (S.A[k].cre : Int)] := rfl
 rw [ei] at HC
 rw [ek] at HC'
 generalize S.A[i].flags = fl at *
 generalize S.A[i].deb = db at *
 generalize S.A[i].cre = cr at *
 generalize S.A[i].id = id at *
 generalize S.A[k].flags = fl2 at *
 generalize S.A[k].deb = db2 at *
 generalize S.A[k].cre = cr2 at *
 generalize S.A[k].id = id2 at *
 clear h h0 h1 h2 h3 ei ek hi hk hg
 unfold ptA
 go_enter Tryz.func128, Tryz.ntmps128
 go_wp2_with (go_at_call 133; refine (HF.out _ ((Below.refl _ _).alloc (Nat.le_refl _) _)).mono ?_; rintro e w2 ⟨rfl, hb2⟩; have hrx := HRW.out.below hb2 (by simp); have hx1 := hrx.at_ 1 _ rfl; have hx2 := hrx.at_ 2 _ rfl; have hx3 := hrx.at_ 3 _ rfl; have HRX := hid hrx; clear hrx; have hbw := ((Below.refl w.heap.size w).alloc (Nat.le_refl _) _).trans (hb2.mono (by simp)); have g1 : w2.cell? ⟨g, i * 4 + 1, none⟩ = some (.int .i64 fl) := HC.out w2 hbw 1 (by omega); have g2 : w2.cell? ⟨g, i * 4 + 2, none⟩ = some (.int .u64 (db : Int)) := HC.out w2 hbw 2 (by omega); have g3 : w2.cell? ⟨g, i * 4 + 3, none⟩ = some (.int .u64 (cr : Int)) := HC.out w2 hbw 3 (by omega); have g4 : w2.cell? ⟨g, k * 4 + 3, none⟩ = some (.int .u64 (cr2 : Int)) := HC'.out w2 hbw 3 (by omega); have g5 := HB.out w2 hbw; clear hbw)
 go_quiet (first | (go_at_call 148; exact Calls.quiet_of_same (HQ1.out _)) | (go_at_call 148; exact Calls.quiet_of_same (HQ2.out _)))
 go_wp2_with fail
 go_quiet (fail)
 go_wp2_with fail
 go_ret
 first | exact ⟨rfl, below_drewN (((Below.refl _ _).alloc (Nat.le_refl _) _).trans (hb2.mono (by simp))) _⟩ | exact ⟨rfl, below_drewN (below_drewN (((Below.refl _ _).alloc (Nat.le_refl _) _).trans (hb2.mono (by simp))) _) _⟩
include h in
theorem judget_0a (hg : va.ownBlock = some g) (i k : Nat) (hi : i < S.A.length) (hk : k < S.A.length) (h0 : a ≠ 0) (h1 : ¬ S.ft a < S.T.length) (h2 : b ≠ c) (h3 : d ≠ 0) (hd : U64 d) (ho : U64 (S.A[i].deb + d)) (ho2 : U64 (S.A[k].cre + d)) (hf : S.A[i].flags = 1) (hl : ¬ S.A[i].cre < S.A[i].deb + d) (h16 : ¬ S.T.length = 16) :
  Calls Tryz.prog 128 #[.pointer (some ⟨p, 0, none⟩), .agg #[.int .u64 (a : Int), .int .u64 (b : Int), .int .u64 (c : Int), .int .u64 (d : Int)], ptA g i, ptA g k] w (VE w (.int .i64 ((0 : Nat) : Int))) := by
 have HF := hid (fun W (hW : Below w.heap.size w W) => transfer_no p va vt S a W (h.below hW) h1)
 have hz : ((a : Int) == 0) = false := ne_nat h0
 have HRW := hid (show Row (w.alloc (.cells #[.int .u64 (a : Int), .int .u64 (b : Int), .int .u64 (c : Int), .int .u64 (d : Int)] 82)) w.heap.size 82 (#[.int .u64 (a : Int), .int .u64 (b : Int), .int .u64 (c : Int), .int .u64 (d : Int)] : Array Value).toList from Row.new _ _ _)
 have hbc := ne_nat h2
 have hdz : ((d : Int) == 0) = false := ne_nat h3
 have HC := hid (fun W (hW : Below w.heap.size w W) j (hj : j < 4) => (h.below hW).cellA hg i j hi hj)
 have HC' := hid (fun W (hW : Below w.heap.size w W) j (hj : j < 4) => (h.below hW).cellA hg k j hk hj)
 have HQ1 := round_no (h.wf.oa _ (List.getElem_mem hi)).1.2.2.1 hd ho
 have HQ2 := round_no (h.wf.oa _ (List.getElem_mem hk)).1.2.2.2 hd ho2
 have e1 := u64_wrap_small _ _ ho
 clear ho2
 obtain ⟨s, hs⟩ : ∃ s, S.A[i].deb + d = s := ⟨_, rfl⟩
 rw [hs] at e1 hl
 clear hs ho
 have hf1 : (S.A[i].flags == 1) = true := beq_iff_eq.2 hf
 have hl1 : decide (S.A[i].cre < s) = false := decide_eq_false hl
 have hl2 : decide ((S.A[i].cre : Int) < (s : Int)) = false := decide_eq_false (by omega)
 clear hf hl
 obtain ⟨A', c', e', hnc, -⟩ := h.vt_shape
 have HB := hid (fun W (hW : Below w.heap.size w W) => (h.below hW).c1)
 rw [e'] at HB
 have hw16 := h.wf.lt
 have hq : ((S.T.length : Int) == 16) = decide (S.T.length = 16) := by
  by_cases e : S.T.length = 16
  ·
   rw [decide_eq_true e, e]; rfl
  ·
   rw [decide_eq_false e]; exact ne_nat e
 generalize S.T.length = n at *
 clear e'
 have hq2 : ((n : Int) == 16) = false := by rw [hq, decide_eq_false h16]
 clear hq h16
 have ei : S.A[i].cells = [.int .u64 (S.A[i].id : Int), .int .i64 S.A[i].flags, .int .u64 (S.A[i].deb : Int), .int .u64 (S.A[i].cre : Int)] := rfl
 have ek : S.A[k].cells = [.int .u64 (S.A[k].id : Int), .int .i64 S.A[k].flags, .int .u64 (S.A[k].deb : Int), .int .u64 (S.A[k].cre : Int)] := rfl
 rw [ei] at HC
 rw [ek] at HC'
 generalize S.A[i].flags = fl at *
 generalize S.A[i].deb = db at *
 generalize S.A[i].cre = cr at *
 generalize S.A[i].id = id at *
 generalize S.A[k].flags = fl2 at *
 generalize S.A[k].deb = db2 at *
 generalize S.A[k].cre = cr2 at *
 generalize S.A[k].id = id2 at *
 clear h h0 h1 h2 h3 ei ek hi hk hg
 unfold ptA
 go_enter Tryz.func128, Tryz.ntmps128
 go_wp2_with (go_at_call 133; refine (HF.out _ ((Below.refl _ _).alloc (Nat.le_refl _) _)).mono ?_; rintro e w2 ⟨rfl, hb2⟩; have hrx := HRW.out.below hb2 (by simp); have hx1 := hrx.at_ 1 _ rfl; have hx2 := hrx.at_ 2 _ rfl; have hx3 := hrx.at_ 3 _ rfl; have HRX := hid hrx; clear hrx; have hbw := ((Below.refl w.heap.size w).alloc (Nat.le_refl _) _).trans (hb2.mono (by simp)); have g1 : w2.cell? ⟨g, i * 4 + 1, none⟩ = some (.int .i64 fl) := HC.out w2 hbw 1 (by omega); have g2 : w2.cell? ⟨g, i * 4 + 2, none⟩ = some (.int .u64 (db : Int)) := HC.out w2 hbw 2 (by omega); have g3 : w2.cell? ⟨g, i * 4 + 3, none⟩ = some (.int .u64 (cr : Int)) := HC.out w2 hbw 3 (by omega); have g4 : w2.cell? ⟨g, k * 4 + 3, none⟩ = some (.int .u64 (cr2 : Int)) := HC'.out w2 hbw 3 (by omega); have g5 := HB.out w2 hbw; clear hbw)
 go_quiet (first | (go_at_call 148; exact Calls.quiet_of_same (HQ1.out _)) | (go_at_call 148; exact Calls.quiet_of_same (HQ2.out _)))
 go_wp2_with fail
 go_quiet (fail)
 go_wp2_with fail
 go_ret
 first | exact ⟨rfl, below_drewN (((Below.refl _ _).alloc (Nat.le_refl _) _).trans (hb2.mono (by simp))) _⟩ | exact ⟨rfl, below_drewN (below_drewN (((Below.refl _ _).alloc (Nat.le_refl _) _).trans (hb2.mono (by simp))) _) _⟩
include h in
theorem judget_0b (hg : va.ownBlock = some g) (i k : Nat) (hi : i < S.A.length) (hk : k < S.A.length) (h0 : a ≠ 0) (h1 : ¬ S.ft a < S.T.length) (h2 : b ≠ c) (h3 : d ≠ 0) (hd : U64 d) (ho : U64 (S.A[i].deb + d)) (ho2 : U64 (S.A[k].cre + d)) (hf : ¬ S.A[i].flags = 1) (h16 : ¬ S.T.length = 16) :
  Calls Tryz.prog 128 #[.pointer (some ⟨p, 0, none⟩), .agg #[.int .u64 (a : Int), .int .u64 (b : Int), .int .u64 (c : Int), .int .u64 (d : Int)], ptA g i, ptA g k] w (VE w (.int .i64 ((0 : Nat) : Int))) := by
 have HF := hid (fun W (hW : Below w.heap.size w W) => transfer_no p va vt S a W (h.below hW) h1)
 have hz : ((a : Int) == 0) = false := ne_nat h0
 have HRW := hid (show Row (w.alloc (.cells #[.int .u64 (a : Int), .int .u64 (b : Int), .int .u64 (c : Int), .int .u64 (d : Int)] 82)) w.heap.size 82 (#[.int .u64 (a : Int), .int .u64 (b : Int), .int .u64 (c : Int), .int .u64 (d : Int)] : Array Value).toList from Row.new _ _ _)
 have hbc := ne_nat h2
 have hdz : ((d : Int) == 0) = false := ne_nat h3
 have HC := hid (fun W (hW : Below w.heap.size w W) j (hj : j < 4) => (h.below hW).cellA hg i j hi hj)
 have HC' := hid (fun W (hW : Below w.heap.size w W) j (hj : j < 4) => (h.below hW).cellA hg k j hk hj)
 have HQ1 := round_no (h.wf.oa _ (List.getElem_mem hi)).1.2.2.1 hd ho
 have HQ2 := round_no (h.wf.oa _ (List.getElem_mem hk)).1.2.2.2 hd ho2
 have e1 := u64_wrap_small _ _ ho
 clear ho2
 clear ho e1
 have hf1 : (S.A[i].flags == 1) = false := beq_eq_false_iff_ne.2 hf
 clear hf
 obtain ⟨A', c', e', hnc, -⟩ := h.vt_shape
 have HB := hid (fun W (hW : Below w.heap.size w W) => (h.below hW).c1)
 rw [e'] at HB
 have hw16 := h.wf.lt
 have hq : ((S.T.length : Int) == 16) = decide (S.T.length = 16) := by
  by_cases e : S.T.length = 16
  ·
   rw [decide_eq_true e, e]; rfl
  ·
   rw [decide_eq_false e]; exact ne_nat e
 generalize S.T.length = n at *
 clear e'
 have hq2 : ((n : Int) == 16) = false := by rw [hq, decide_eq_false h16]
 clear hq h16
 have ei : S.A[i].cells = [.int .u64 (S.A[i].id : Int), .int .i64 S.A[i].flags, .int .u64 (S.A[i].deb : Int), .int .u64 (S.A[i].cre : Int)] := rfl
 have ek : S.A[k].cells = [.int .u64 (S.A[k].id : Int), .int .i64 S.A[k].flags, .int .u64 (S.A[k].deb : Int), .int .u64 (S.A[k].cre : Int)] := rfl
 rw [ei] at HC
 rw [ek] at HC'
 generalize S.A[i].flags = fl at *
 generalize S.A[i].deb = db at *
 generalize S.A[i].cre = cr at *
 generalize S.A[i].id = id at *
 generalize S.A[k].flags = fl2 at *
 generalize S.A[k].deb = db2 at *
 generalize S.A[k].cre = cr2 at *
 generalize S.A[k].id = id2 at *
 clear h h0 h1 h2 h3 ei ek hi hk hg
 unfold ptA
 go_enter Tryz.func128, Tryz.ntmps128
 go_wp2_with (go_at_call 133; refine (HF.out _ ((Below.refl _ _).alloc (Nat.le_refl _) _)).mono ?_; rintro e w2 ⟨rfl, hb2⟩; have hrx := HRW.out.below hb2 (by simp); have hx1 := hrx.at_ 1 _ rfl; have hx2 := hrx.at_ 2 _ rfl; have hx3 := hrx.at_ 3 _ rfl; have HRX := hid hrx; clear hrx; have hbw := ((Below.refl w.heap.size w).alloc (Nat.le_refl _) _).trans (hb2.mono (by simp)); have g1 : w2.cell? ⟨g, i * 4 + 1, none⟩ = some (.int .i64 fl) := HC.out w2 hbw 1 (by omega); have g2 : w2.cell? ⟨g, i * 4 + 2, none⟩ = some (.int .u64 (db : Int)) := HC.out w2 hbw 2 (by omega); have g3 : w2.cell? ⟨g, i * 4 + 3, none⟩ = some (.int .u64 (cr : Int)) := HC.out w2 hbw 3 (by omega); have g4 : w2.cell? ⟨g, k * 4 + 3, none⟩ = some (.int .u64 (cr2 : Int)) := HC'.out w2 hbw 3 (by omega); have g5 := HB.out w2 hbw; clear hbw)
 go_quiet (first | (go_at_call 148; exact Calls.quiet_of_same (HQ1.out _)) | (go_at_call 148; exact Calls.quiet_of_same (HQ2.out _)))
 go_wp2_with fail
 go_quiet (fail)
 go_wp2_with fail
 go_ret
 first | exact ⟨rfl, below_drewN (((Below.refl _ _).alloc (Nat.le_refl _) _).trans (hb2.mono (by simp))) _⟩ | exact ⟨rfl, below_drewN (below_drewN (((Below.refl _ _).alloc (Nat.le_refl _) _).trans (hb2.mono (by simp))) _) _⟩
end
/-- where the account with an id lies -/
def ptF (va : Value) (S : Lg) (id : Nat) : Value := if S.fa id < S.A.length then .pointer (va.ownBlock.map fun g => ⟨g, S.fa id * 4, none⟩) else .pointer none
theorem ptF_no {va : Value} {S : Lg} {id : Nat} (h : ¬ S.fa id < S.A.length) : ptF va S id = .pointer none := by unfold ptF; rw [if_neg h]
theorem ptF_yes {va : Value} {S : Lg} {id g : Nat} (h : S.fa id < S.A.length) (hg : va.ownBlock = some g) : ptF va S id = ptA g (S.fa id) := by unfold ptF ptA; rw [if_pos h, hg]; rfl
theorem account_any (p : Nat) (va vt : Value) (S : Lg) (id : Nat) (w : World) (h : HasG w 96 p va vt S) : Calls Tryz.prog 127 #[.pointer (some ⟨p, 0, none⟩), .int .u64 (id : Int)] w (VE w (ptF va S id)) := by
 by_cases hk : S.fa id < S.A.length
 ·
  obtain ⟨g, c, -, -, hg⟩ := own_some h.accs (by omega : 0 < S.A.length)
  rw [ptF_yes hk hg]
  exact account_yes p g (S.fa id) va vt S id w h hg rfl hk
 ·
  rw [ptF_no hk]
  exact account_no p va vt S id w h hk
theorem judget_any (p : Nat) (va vt : Value) (S : Lg) (t : Tr) (w : World) (h : HasG w 96 p va vt S) (hd : U64 t.d) : Calls Tryz.prog 128 #[.pointer (some ⟨p, 0, none⟩), .agg t.cells.toArray, ptF va S t.b, ptF va S t.c] w (VE w (.int .i64 (S.jt t : Int))) := by
 obtain ⟨a, b, c, d⟩ := t
 show Calls Tryz.prog 128 #[.pointer (some ⟨p, 0, none⟩), .agg #[.int .u64 (a : Int), .int .u64 (b : Int), .int .u64 (c : Int), .int .u64 (d : Int)], ptF va S b, ptF va S c] w (VE w (.int .i64 (S.jt ⟨a, b, c, d⟩ : Int)))
 replace hd : U64 d := hd
 have hgen : ∀ id, ∃ o, ptF va S id = .pointer o := fun id => by
  unfold ptF
  split
  ·
   exact ⟨_, rfl⟩
  ·
   exact ⟨_, rfl⟩
 unfold Lg.jt
 by_cases h0 : a = 0
 ·
  rw [if_pos h0]
  subst h0
  obtain ⟨od, e1⟩ := hgen b
  obtain ⟨oc, e2⟩ := hgen c
  rw [e1, e2]
  exact judget_1 p b c d w od oc
 rw [if_neg h0]
 by_cases h1 : S.ft a < S.T.length
 ·
  rw [if_pos h1]
  obtain ⟨od, e1⟩ := hgen b
  obtain ⟨oc, e2⟩ := hgen c
  rw [e1, e2]
  exact judget_2 p va vt S a b c d w h od oc h0 h1
 rw [if_neg h1]
 by_cases h2 : b = c
 ·
  rw [if_pos h2]
  obtain ⟨od, e1⟩ := hgen b
  obtain ⟨oc, e2⟩ := hgen c
  rw [e1, e2]
  exact judget_4 p va vt S a b c d w h h0 h1 od oc h2
 rw [if_neg h2]
 rcases Decidable.em (S.fa b < S.A.length) with hi | hi
 case inr =>
  rw [if_pos hi, ptF_no hi]
  obtain ⟨oc, e2⟩ := hgen c
  rw [e2]
  exact judget_5 p va vt S a b c d w h h0 h1 oc h2
 rw [if_neg (fun q => q hi)]
 obtain ⟨g, c', -, -, hg⟩ := own_some h.accs (by omega : 0 < S.A.length)
 rw [ptF_yes hi hg]
 rcases Decidable.em (S.fa c < S.A.length) with hk | hk
 case inr =>
  rw [if_pos hk, ptF_no hk]
  exact judget_6 p va vt S a b c d w h h0 h1 ⟨g, S.fa b * 4, none⟩ h2
 rw [if_neg (fun q => q hk), ptF_yes hk hg]
 by_cases h3 : d = 0
 ·
  rw [if_pos h3]
  exact judget_7 p va vt S a b c d w h h0 h1 ⟨g, S.fa b * 4, none⟩ ⟨g, S.fa c * 4, none⟩ h2 h3
 rw [if_neg h3, S.ac_get _ hi, S.ac_get _ hk]
 rcases Decidable.em (U64 (S.A[S.fa b].deb + d)) with ho | ho
 case inr =>
  rw [if_pos (.inl ho)]
  exact judget_8a p g va vt S a b c d w h hg _ _ hi hk h0 h1 h2 h3 hd ho
 rcases Decidable.em (U64 (S.A[S.fa c].cre + d)) with ho2 | ho2
 case inr =>
  rw [if_pos (.inr ho2)]
  exact judget_8b p g va vt S a b c d w h hg _ _ hi hk h0 h1 h2 h3 hd ho ho2
 rw [if_neg (by rintro (q | q); exact q ho; exact q ho2)]
 by_cases hf : S.A[S.fa b].flags = 1
 ·
  by_cases hl : S.A[S.fa b].cre < S.A[S.fa b].deb + d
  ·
   rw [if_pos ⟨hf, hl⟩]
   exact judget_9 p g va vt S a b c d w h hg _ _ hi hk h0 h1 h2 h3 hd ho ho2 hf hl
  ·
   rw [if_neg (fun q => hl q.2)]
   by_cases h16 : S.T.length = 16
   ·
    rw [if_pos h16]
    exact judget_10a p g va vt S a b c d w h hg _ _ hi hk h0 h1 h2 h3 hd ho ho2 hf hl h16
   ·
    rw [if_neg h16]
    exact judget_0a p g va vt S a b c d w h hg _ _ hi hk h0 h1 h2 h3 hd ho ho2 hf hl h16
 ·
  rw [if_neg (fun q => hf q.1)]
  by_cases h16 : S.T.length = 16
  ·
   rw [if_pos h16]
   exact judget_10b p g va vt S a b c d w h hg _ _ hi hk h0 h1 h2 h3 hd ho ho2 hf h16
  ·
   rw [if_neg h16]
   exact judget_0b p g va vt S a b c d w h hg _ _ hi hk h0 h1 h2 h3 hd ho ho2 hf h16
end Go.Proofs.YtgednnjmcjhfmaaGreatDoor
