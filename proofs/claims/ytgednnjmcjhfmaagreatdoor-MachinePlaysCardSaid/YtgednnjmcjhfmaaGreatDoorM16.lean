/-
  The walk of the document's Move.
-/
import Derived.Test.YtgednnjmcjhfmaaGreatDoorM11
import Derived.Test.YtgednnjmcjhfmaaGreatDoorM02
import Derived.Test.YtgednnjmcjhfmaaGreatDoorM15
import Derived.Test.YtgednnjmcjhfmaaGreatDoorM14
namespace Go.Proofs.YtgednnjmcjhfmaaGreatDoor
open Go.RowKit
set_option maxRecDepth 10000
set_option maxHeartbeats 80000000
section
variable (p g : Nat) (va vt : Value) (S : Lg) (a b c d : Nat) (w : World) (h : HasG w 57 p va vt S)
theorem over_no {x y : Nat} (hx : U64 x) (hy : U64 y) (h : U64 (x + y)) : Hid (∀ W : World, Calls Tryz.prog 138 #[.int .u64 (x : Int), .int .u64 (y : Int)] W fun e w' => e = .returned (.bool false) ∧ w' = W) := hid fun W => by
 have := over_any x y W hx hy
 rw [decide_eq_false (fun q => q h)] at this
 exact this.mono fun _ _ hh => ⟨hh.1, hh.2.symm⟩
theorem over_yes {x y : Nat} (hx : U64 x) (hy : U64 y) (h : ¬ U64 (x + y)) : Hid (∀ W : World, Calls Tryz.prog 138 #[.int .u64 (x : Int), .int .u64 (y : Int)] W fun e w' => e = .returned (.bool true) ∧ w' = W) := hid fun W => by
 have := over_any x y W hx hy
 rw [decide_eq_true h] at this
 exact this.mono fun _ _ hh => ⟨hh.1, hh.2.symm⟩
theorem rmove_1 : Calls Tryz.prog 101 #[.pointer (some ⟨p, 0, none⟩), .agg #[.int .u64 ((0 : Nat) : Int), .int .u64 (b : Int), .int .u64 (c : Int), .int .u64 (d : Int)]] w (VE w (.int .i64 1)) := by
 go_enter Tryz.func101, Tryz.ntmps101
 go_wp2_with fail
 go_ret
 exact ⟨rfl, (Below.refl _ _).alloc (Nat.le_refl _) _⟩
include h in
theorem rmove_2 (h0 : a ≠ 0) (h1 : S.ft a < S.T.length) : Calls Tryz.prog 101 #[.pointer (some ⟨p, 0, none⟩), .agg #[.int .u64 (a : Int), .int .u64 (b : Int), .int .u64 (c : Int), .int .u64 (d : Int)]] w (VE w (.int .i64 2)) := by
 have HF := hid (fun W (hW : Below w.heap.size w W) => rt_any p va vt S a W (h.below hW))
 have hz : ((a : Int) == 0) = false := ne_nat h0
 rw [idxt_yes h1] at HF
 clear h h0 h1
 generalize S.ft a = k at *
 go_enter Tryz.func101, Tryz.ntmps101
 go_wp2_with (first
  | (go_at_call 137; refine (HF.out _ ((Below.refl _ _).alloc (Nat.le_refl _) _)).mono ?_; rintro e w2 ⟨rfl, rfl⟩))
 go_ret
 exact ⟨rfl, (Below.refl _ _).alloc (Nat.le_refl _) _⟩
include h in
theorem rmove_4 (h0 : a ≠ 0) (h1 : ¬ S.ft a < S.T.length) (h2 : b = c) : Calls Tryz.prog 101 #[.pointer (some ⟨p, 0, none⟩), .agg #[.int .u64 (a : Int), .int .u64 (b : Int), .int .u64 (c : Int), .int .u64 (d : Int)]] w (VE w (.int .i64 4)) := by
 have HF := hid (fun W (hW : Below w.heap.size w W) => rt_any p va vt S a W (h.below hW))
 have hz : ((a : Int) == 0) = false := ne_nat h0
 rw [idxt_no h1] at HF
 subst h2
 clear h h0 h1
 go_enter Tryz.func101, Tryz.ntmps101
 go_wp2_with (first
  | (go_at_call 137; refine (HF.out _ ((Below.refl _ _).alloc (Nat.le_refl _) _)).mono ?_; rintro e w2 ⟨rfl, rfl⟩))
 go_ret
 exact ⟨rfl, (Below.refl _ _).alloc (Nat.le_refl _) _⟩
include h in
theorem rmove_5 (h0 : a ≠ 0) (h1 : ¬ S.ft a < S.T.length) (h2 : b ≠ c) (h3 : ¬ S.fa b < S.A.length) : Calls Tryz.prog 101 #[.pointer (some ⟨p, 0, none⟩), .agg #[.int .u64 (a : Int), .int .u64 (b : Int), .int .u64 (c : Int), .int .u64 (d : Int)]] w (VE w (.int .i64 5)) := by
 have HF := hid (fun W (hW : Below w.heap.size w W) => rt_any p va vt S a W (h.below hW))
 have hz : ((a : Int) == 0) = false := ne_nat h0
 rw [idxt_no h1] at HF
 have hbc := ne_nat h2
 have HI := hid (fun W (hW : Below w.heap.size w W) => ra_any p va vt S b W (h.below hW))
 rw [idxa_no h3] at HI
 clear h h0 h1 h2 h3
 go_enter Tryz.func101, Tryz.ntmps101
 go_wp2_with (first
  | (go_at_call 137; refine (HF.out _ ((Below.refl _ _).alloc (Nat.le_refl _) _)).mono ?_; rintro e w2 ⟨rfl, rfl⟩)
  | (go_at_call 136; refine (HI.out _ ((Below.refl _ _).alloc (Nat.le_refl _) _)).mono ?_; rintro e w2 ⟨rfl, rfl⟩; clear HI))
 go_ret
 exact ⟨rfl, (Below.refl _ _).alloc (Nat.le_refl _) _⟩
include h in
theorem rmove_6 (h0 : a ≠ 0) (h1 : ¬ S.ft a < S.T.length) (h2 : b ≠ c) (h3 : S.fa b < S.A.length) (h4 : ¬ S.fa c < S.A.length) : Calls Tryz.prog 101 #[.pointer (some ⟨p, 0, none⟩), .agg #[.int .u64 (a : Int), .int .u64 (b : Int), .int .u64 (c : Int), .int .u64 (d : Int)]] w (VE w (.int .i64 6)) := by
 have HF := hid (fun W (hW : Below w.heap.size w W) => rt_any p va vt S a W (h.below hW))
 have hz : ((a : Int) == 0) = false := ne_nat h0
 rw [idxt_no h1] at HF
 have hbc := ne_nat h2
 have HI := hid (fun W (hW : Below w.heap.size w W) => ra_any p va vt S b W (h.below hW))
 have HK := hid (fun W (hW : Below w.heap.size w W) => ra_any p va vt S c W (h.below hW))
 rw [idxa_yes h3] at HI
 rw [idxa_no h4] at HK
 clear h h0 h1 h2 h3 h4
 generalize S.fa b = i at *
 go_enter Tryz.func101, Tryz.ntmps101
 go_wp2_with (first
  | (go_at_call 137; refine (HF.out _ ((Below.refl _ _).alloc (Nat.le_refl _) _)).mono ?_; rintro e w2 ⟨rfl, rfl⟩)
  | (go_at_call 136; refine (HI.out _ ((Below.refl _ _).alloc (Nat.le_refl _) _)).mono ?_; rintro e w2 ⟨rfl, rfl⟩; clear HI)
  | (go_at_call 136; refine (HK.out _ ((Below.refl _ _).alloc (Nat.le_refl _) _)).mono ?_; rintro e w2 ⟨rfl, rfl⟩))
 go_ret
 exact ⟨rfl, (Below.refl _ _).alloc (Nat.le_refl _) _⟩
include h in
theorem rmove_7 (h0 : a ≠ 0) (h1 : ¬ S.ft a < S.T.length) (h2 : b ≠ c) (h3 : S.fa b < S.A.length) (h4 : S.fa c < S.A.length) (h5 : d = 0) : Calls Tryz.prog 101 #[.pointer (some ⟨p, 0, none⟩), .agg #[.int .u64 (a : Int), .int .u64 (b : Int), .int .u64 (c : Int), .int .u64 (d : Int)]] w (VE w (.int .i64 7)) := by
 have HF := hid (fun W (hW : Below w.heap.size w W) => rt_any p va vt S a W (h.below hW))
 have hz : ((a : Int) == 0) = false := ne_nat h0
 rw [idxt_no h1] at HF
 have hbc := ne_nat h2
 have HI := hid (fun W (hW : Below w.heap.size w W) => ra_any p va vt S b W (h.below hW))
 have HK := hid (fun W (hW : Below w.heap.size w W) => ra_any p va vt S c W (h.below hW))
 rw [idxa_yes h3] at HI
 rw [idxa_yes h4] at HK
 subst h5
 clear h h0 h1 h2 h3 h4
 generalize S.fa b = i at *
 generalize S.fa c = k at *
 go_enter Tryz.func101, Tryz.ntmps101
 go_wp2_with (first
  | (go_at_call 137; refine (HF.out _ ((Below.refl _ _).alloc (Nat.le_refl _) _)).mono ?_; rintro e w2 ⟨rfl, rfl⟩)
  | (go_at_call 136; refine (HI.out _ ((Below.refl _ _).alloc (Nat.le_refl _) _)).mono ?_; rintro e w2 ⟨rfl, rfl⟩; clear HI)
  | (go_at_call 136; refine (HK.out _ ((Below.refl _ _).alloc (Nat.le_refl _) _)).mono ?_; rintro e w2 ⟨rfl, rfl⟩))
 go_ret
 exact ⟨rfl, (Below.refl _ _).alloc (Nat.le_refl _) _⟩
include h in
theorem rmove_8a (hg : va.ownBlock = some g) (i k : Nat) (hei : S.fa b = i) (hek : S.fa c = k) (hi : i < S.A.length) (hk : k < S.A.length) (h1 : ¬ S.ft a < S.T.length) (h2 : b ≠ c) (h3 : d ≠ 0) (hd : U64 d) (h0 : a ≠ 0) (ho : ¬ U64 (S.A[i].deb + d)) : Calls Tryz.prog 101 #[.pointer (some ⟨p, 0, none⟩), .agg #[.int .u64 (a : Int), .int .u64 (b : Int), .int .u64 (c : Int), .int .u64 (d : Int)]] w (VE w (.int .i64 8)) := by
 have HF := hid (fun W (hW : Below w.heap.size w W) => rt_any p va vt S a W (h.below hW))
 have hz : ((a : Int) == 0) = false := ne_nat h0
 rw [idxt_no h1] at HF
 have hbc := ne_nat h2
 have HI := hid (fun W (hW : Below w.heap.size w W) => ra_any p va vt S b W (h.below hW))
 have HK := hid (fun W (hW : Below w.heap.size w W) => ra_any p va vt S c W (h.below hW))
 rw [idxa_yes (by rw [hei]; exact hi), hei] at HI
 rw [idxa_yes (by rw [hek]; exact hk), hek] at HK
 have hdz : ((d : Int) == 0) = false := ne_nat h3
 obtain ⟨A', cc, e', hnc, -⟩ := h.va_shape
 obtain ⟨g', c'', e'', -, hg'⟩ := own_some h.accs (by omega : 0 < S.A.length)
 rw [hg] at hg'
 cases hg'
 rw [e''] at e'
 simp only [Value.slice.injEq] at e'
 obtain ⟨rfl, -, rfl⟩ := e'
 have hc0 := h.c0
 rw [e''] at hc0
 have hplt := h.box.lt
 have hglt := (h.accs.lt g hg).2
 have gc1 : w.cell? ⟨g, i * 4 + 1, none⟩ = some (.int .i64 S.A[i].flags) := h.cellA hg i 1 hi (by decide)
 have gc2 : w.cell? ⟨g, i * 4 + 2, none⟩ = some (.int .u64 (S.A[i].deb : Int)) := h.cellA hg i 2 hi (by decide)
 have gc3 : w.cell? ⟨g, i * 4 + 3, none⟩ = some (.int .u64 (S.A[i].cre : Int)) := h.cellA hg i 3 hi (by decide)
 have gc4 : w.cell? ⟨g, k * 4 + 3, none⟩ = some (.int .u64 (S.A[k].cre : Int)) := h.cellA hg k 3 hk (by decide)
 have HQ1 := over_yes (h.wf.oa _ (List.getElem_mem hi)).1.2.2.1 hd ho
 have HQ2 := HQ1
 clear ho
 have hin : (i : Int) < (S.A.length : Int) := by omega
 have hkn : (k : Int) < (S.A.length : Int) := by omega
 have hn8 : (S.A.length : Int) ≤ 8 := by have := h.wf.la; omega
 have ci0 : (0 : Int) ≤ (i : Int) := by omega
 have ck0 : (0 : Int) ≤ (k : Int) := by omega
 generalize S.A[i].flags = fl at *
 generalize S.A[i].deb = db at *
 generalize S.A[i].cre = cr at *
 generalize S.A[k].cre = cr2 at *
 generalize S.A.length = n at *
 clear h h0 h1 h2 h3 hg hei hek e''
 go_enter Tryz.func101, Tryz.ntmps101
 go_wp2_with (first
  | (go_at_call 137; refine (HF.out _ ((Below.refl _ _).alloc (Nat.le_refl _) _)).mono ?_; rintro e w2 ⟨rfl, rfl⟩)
  | (go_at_call 136; refine (HI.out _ ((Below.refl _ _).alloc (Nat.le_refl _) _)).mono ?_; rintro e w2 ⟨rfl, rfl⟩; clear HI)
  | (go_at_call 136; refine (HK.out _ ((Below.refl _ _).alloc (Nat.le_refl _) _)).mono ?_; rintro e w2 ⟨rfl, rfl⟩))
 go_quiet (first | (go_at_call 138; exact Calls.quiet_of_same (HQ1.out _)) | (go_at_call 138; exact Calls.quiet_of_same (HQ2.out _)))
 go_wp2_with fail
 go_ret
 first | exact ⟨rfl, below_drewN ((Below.refl _ _).alloc (Nat.le_refl _) _) _⟩ | exact ⟨rfl, below_drewN (below_drewN ((Below.refl _ _).alloc (Nat.le_refl _) _) _) _⟩
include h in
theorem rmove_8b (hg : va.ownBlock = some g) (i k : Nat) (hei : S.fa b = i) (hek : S.fa c = k) (hi : i < S.A.length) (hk : k < S.A.length) (h1 : ¬ S.ft a < S.T.length) (h2 : b ≠ c) (h3 : d ≠ 0) (hd : U64 d) (h0 : a ≠ 0) (ho : U64 (S.A[i].deb + d)) (ho2 : ¬ U64 (S.A[k].cre + d)) : Calls Tryz.prog 101 #[.pointer (some ⟨p, 0, none⟩), .agg #[.int .u64 (a : Int), .int .u64 (b : Int), .int .u64 (c : Int), .int .u64 (d : Int)]] w (VE w (.int .i64 8)) := by
 have HF := hid (fun W (hW : Below w.heap.size w W) => rt_any p va vt S a W (h.below hW))
 have hz : ((a : Int) == 0) = false := ne_nat h0
 rw [idxt_no h1] at HF
 have hbc := ne_nat h2
 have HI := hid (fun W (hW : Below w.heap.size w W) => ra_any p va vt S b W (h.below hW))
 have HK := hid (fun W (hW : Below w.heap.size w W) => ra_any p va vt S c W (h.below hW))
 rw [idxa_yes (by rw [hei]; exact hi), hei] at HI
 rw [idxa_yes (by rw [hek]; exact hk), hek] at HK
 have hdz : ((d : Int) == 0) = false := ne_nat h3
 obtain ⟨A', cc, e', hnc, -⟩ := h.va_shape
 obtain ⟨g', c'', e'', -, hg'⟩ := own_some h.accs (by omega : 0 < S.A.length)
 rw [hg] at hg'
 cases hg'
 rw [e''] at e'
 simp only [Value.slice.injEq] at e'
 obtain ⟨rfl, -, rfl⟩ := e'
 have hc0 := h.c0
 rw [e''] at hc0
 have hplt := h.box.lt
 have hglt := (h.accs.lt g hg).2
 have gc1 : w.cell? ⟨g, i * 4 + 1, none⟩ = some (.int .i64 S.A[i].flags) := h.cellA hg i 1 hi (by decide)
 have gc2 : w.cell? ⟨g, i * 4 + 2, none⟩ = some (.int .u64 (S.A[i].deb : Int)) := h.cellA hg i 2 hi (by decide)
 have gc3 : w.cell? ⟨g, i * 4 + 3, none⟩ = some (.int .u64 (S.A[i].cre : Int)) := h.cellA hg i 3 hi (by decide)
 have gc4 : w.cell? ⟨g, k * 4 + 3, none⟩ = some (.int .u64 (S.A[k].cre : Int)) := h.cellA hg k 3 hk (by decide)
 have HQ1 := over_no (h.wf.oa _ (List.getElem_mem hi)).1.2.2.1 hd ho
 have HQ2 := over_yes (h.wf.oa _ (List.getElem_mem hk)).1.2.2.2 hd ho2
 clear ho ho2
 have hin : (i : Int) < (S.A.length : Int) := by omega
 have hkn : (k : Int) < (S.A.length : Int) := by omega
 have hn8 : (S.A.length : Int) ≤ 8 := by have := h.wf.la; omega
 have ci0 : (0 : Int) ≤ (i : Int) := by omega
 have ck0 : (0 : Int) ≤ (k : Int) := by omega
 generalize S.A[i].flags = fl at *
 generalize S.A[i].deb = db at *
 generalize S.A[i].cre = cr at *
 generalize S.A[k].cre = cr2 at *
 generalize S.A.length = n at *
 clear h h0 h1 h2 h3 hg hei hek e''
 go_enter Tryz.func101, Tryz.ntmps101
 go_wp2_with (first
  | (go_at_call 137; refine (HF.out _ ((Below.refl _ _).alloc (Nat.le_refl _) _)).mono ?_; rintro e w2 ⟨rfl, rfl⟩)
  | (go_at_call 136; refine (HI.out _ ((Below.refl _ _).alloc (Nat.le_refl _) _)).mono ?_; rintro e w2 ⟨rfl, rfl⟩; clear HI)
  | (go_at_call 136; refine (HK.out _ ((Below.refl _ _).alloc (Nat.le_refl _) _)).mono ?_; rintro e w2 ⟨rfl, rfl⟩))
 go_quiet (first | (go_at_call 138; exact Calls.quiet_of_same (HQ1.out _)) | (go_at_call 138; exact Calls.quiet_of_same (HQ2.out _)))
 go_wp2_with fail
 go_ret
 first | exact ⟨rfl, below_drewN ((Below.refl _ _).alloc (Nat.le_refl _) _) _⟩ | exact ⟨rfl, below_drewN (below_drewN ((Below.refl _ _).alloc (Nat.le_refl _) _) _) _⟩
include h in
theorem rmove_9 (hg : va.ownBlock = some g) (i k : Nat) (hei : S.fa b = i) (hek : S.fa c = k) (hi : i < S.A.length) (hk : k < S.A.length) (h1 : ¬ S.ft a < S.T.length) (h2 : b ≠ c) (h3 : d ≠ 0) (hd : U64 d) (h0 : a ≠ 0) (ho : U64 (S.A[i].deb + d)) (ho2 : U64 (S.A[k].cre + d)) (hf : S.A[i].flags = 1) (hl : S.A[i].cre < S.A[i].deb + d) : Calls Tryz.prog 101 #[.pointer (some ⟨p, 0, none⟩), .agg #[.int .u64 (a : Int), .int .u64 (b : Int), .int .u64 (c : Int), .int .u64 (d : Int)]] w (VE w (.int .i64 9)) := by
 have HF := hid (fun W (hW : Below w.heap.size w W) => rt_any p va vt S a W (h.below hW))
 have hz : ((a : Int) == 0) = false := ne_nat h0
 rw [idxt_no h1] at HF
 have hbc := ne_nat h2
 have HI := hid (fun W (hW : Below w.heap.size w W) => ra_any p va vt S b W (h.below hW))
 have HK := hid (fun W (hW : Below w.heap.size w W) => ra_any p va vt S c W (h.below hW))
 rw [idxa_yes (by rw [hei]; exact hi), hei] at HI
 rw [idxa_yes (by rw [hek]; exact hk), hek] at HK
 have hdz : ((d : Int) == 0) = false := ne_nat h3
 obtain ⟨A', cc, e', hnc, -⟩ := h.va_shape
 obtain ⟨g', c'', e'', -, hg'⟩ := own_some h.accs (by omega : 0 < S.A.length)
 rw [hg] at hg'
 cases hg'
 rw [e''] at e'
 simp only [Value.slice.injEq] at e'
 obtain ⟨rfl, -, rfl⟩ := e'
 have hc0 := h.c0
 rw [e''] at hc0
 have hplt := h.box.lt
 have hglt := (h.accs.lt g hg).2
 have gc1 : w.cell? ⟨g, i * 4 + 1, none⟩ = some (.int .i64 S.A[i].flags) := h.cellA hg i 1 hi (by decide)
 have gc2 : w.cell? ⟨g, i * 4 + 2, none⟩ = some (.int .u64 (S.A[i].deb : Int)) := h.cellA hg i 2 hi (by decide)
 have gc3 : w.cell? ⟨g, i * 4 + 3, none⟩ = some (.int .u64 (S.A[i].cre : Int)) := h.cellA hg i 3 hi (by decide)
 have gc4 : w.cell? ⟨g, k * 4 + 3, none⟩ = some (.int .u64 (S.A[k].cre : Int)) := h.cellA hg k 3 hk (by decide)
 have HQ1 := over_no (h.wf.oa _ (List.getElem_mem hi)).1.2.2.1 hd ho
 have HQ2 := over_no (h.wf.oa _ (List.getElem_mem hk)).1.2.2.2 hd ho2
 have e1 := u64_wrap_small _ _ ho
 clear ho2
 obtain ⟨s, hs⟩ : ∃ s, S.A[i].deb + d = s := ⟨_, rfl⟩
 rw [hs] at e1 hl
 clear hs ho
 have hf1 : (S.A[i].flags == 1) = true := beq_iff_eq.2 hf
 have hl1 : decide (S.A[i].cre < s) = true := decide_eq_true hl
 have hl2 : decide ((S.A[i].cre : Int) < (s : Int)) = true := decide_eq_true (by omega)
 clear hf hl
 have hin : (i : Int) < (S.A.length : Int) := by omega
 have hkn : (k : Int) < (S.A.length : Int) := by omega
 have hn8 : (S.A.length : Int) ≤ 8 := by have := h.wf.la; omega
 have ci0 : (0 : Int) ≤ (i : Int) := by omega
 have ck0 : (0 : Int) ≤ (k : Int) := by omega
 generalize S.A[i].flags = fl at *
 generalize S.A[i].deb = db at *
 generalize S.A[i].cre = cr at *
 generalize S.A[k].cre = cr2 at *
 generalize S.A.length = n at *
 clear h h0 h1 h2 h3 hg hei hek e''
 go_enter Tryz.func101, Tryz.ntmps101
 go_wp2_with (first
  | (go_at_call 137; refine (HF.out _ ((Below.refl _ _).alloc (Nat.le_refl _) _)).mono ?_; rintro e w2 ⟨rfl, rfl⟩)
  | (go_at_call 136; refine (HI.out _ ((Below.refl _ _).alloc (Nat.le_refl _) _)).mono ?_; rintro e w2 ⟨rfl, rfl⟩; clear HI)
  | (go_at_call 136; refine (HK.out _ ((Below.refl _ _).alloc (Nat.le_refl _) _)).mono ?_; rintro e w2 ⟨rfl, rfl⟩))
 go_quiet (first | (go_at_call 138; exact Calls.quiet_of_same (HQ1.out _)) | (go_at_call 138; exact Calls.quiet_of_same (HQ2.out _)))
 go_wp2_with fail
 go_quiet (fail)
 go_wp2_with fail
 go_ret
 first | exact ⟨rfl, below_drewN ((Below.refl _ _).alloc (Nat.le_refl _) _) _⟩ | exact ⟨rfl, below_drewN (below_drewN ((Below.refl _ _).alloc (Nat.le_refl _) _) _) _⟩
include h in
theorem rmove_10a (hg : va.ownBlock = some g) (i k : Nat) (hei : S.fa b = i) (hek : S.fa c = k) (hi : i < S.A.length) (hk : k < S.A.length) (h1 : ¬ S.ft a < S.T.length) (h2 : b ≠ c) (h3 : d ≠ 0) (hd : U64 d) (h0 : a ≠ 0) (ho : U64 (S.A[i].deb + d)) (ho2 : U64 (S.A[k].cre + d)) (hf : S.A[i].flags = 1) (hl : ¬ S.A[i].cre < S.A[i].deb + d) (h16 : S.T.length = 16) : Calls Tryz.prog 101 #[.pointer (some ⟨p, 0, none⟩), .agg #[.int .u64 (a : Int), .int .u64 (b : Int), .int .u64 (c : Int), .int .u64 (d : Int)]] w (VE w (.int .i64 10)) := by
 have HF := hid (fun W (hW : Below w.heap.size w W) => rt_any p va vt S a W (h.below hW))
 have hz : ((a : Int) == 0) = false := ne_nat h0
 rw [idxt_no h1] at HF
 have hbc := ne_nat h2
 have HI := hid (fun W (hW : Below w.heap.size w W) => ra_any p va vt S b W (h.below hW))
 have HK := hid (fun W (hW : Below w.heap.size w W) => ra_any p va vt S c W (h.below hW))
 rw [idxa_yes (by rw [hei]; exact hi), hei] at HI
 rw [idxa_yes (by rw [hek]; exact hk), hek] at HK
 have hdz : ((d : Int) == 0) = false := ne_nat h3
 obtain ⟨A', cc, e', hnc, -⟩ := h.va_shape
 obtain ⟨g', c'', e'', -, hg'⟩ := own_some h.accs (by omega : 0 < S.A.length)
 rw [hg] at hg'
 cases hg'
 rw [e''] at e'
 simp only [Value.slice.injEq] at e'
 obtain ⟨rfl, -, rfl⟩ := e'
 have hc0 := h.c0
 rw [e''] at hc0
 have hplt := h.box.lt
 have hglt := (h.accs.lt g hg).2
 have gc1 : w.cell? ⟨g, i * 4 + 1, none⟩ = some (.int .i64 S.A[i].flags) := h.cellA hg i 1 hi (by decide)
 have gc2 : w.cell? ⟨g, i * 4 + 2, none⟩ = some (.int .u64 (S.A[i].deb : Int)) := h.cellA hg i 2 hi (by decide)
 have gc3 : w.cell? ⟨g, i * 4 + 3, none⟩ = some (.int .u64 (S.A[i].cre : Int)) := h.cellA hg i 3 hi (by decide)
 have gc4 : w.cell? ⟨g, k * 4 + 3, none⟩ = some (.int .u64 (S.A[k].cre : Int)) := h.cellA hg k 3 hk (by decide)
 have HQ1 := over_no (h.wf.oa _ (List.getElem_mem hi)).1.2.2.1 hd ho
 have HQ2 := over_no (h.wf.oa _ (List.getElem_mem hk)).1.2.2.2 hd ho2
 have e1 := u64_wrap_small _ _ ho
 clear ho2
 obtain ⟨s, hs⟩ : ∃ s, S.A[i].deb + d = s := ⟨_, rfl⟩
 rw [hs] at e1 hl
 clear hs ho
 have hf1 : (S.A[i].flags == 1) = true := beq_iff_eq.2 hf
 have hl1 : decide (S.A[i].cre < s) = false := decide_eq_false hl
 have hl2 : decide ((S.A[i].cre : Int) < (s : Int)) = false := decide_eq_false (by omega)
 clear hf hl
 obtain ⟨A3, c3, e3, -, -⟩ := h.vt_shape
 have hc1 := h.c1
 rw [e3, h16] at hc1
 clear e3
 have hin : (i : Int) < (S.A.length : Int) := by omega
 have hkn : (k : Int) < (S.A.length : Int) := by omega
 have hn8 : (S.A.length : Int) ≤ 8 := by have := h.wf.la; omega
 have ci0 : (0 : Int) ≤ (i : Int) := by omega
 have ck0 : (0 : Int) ≤ (k : Int) := by omega
 generalize S.A[i].flags = fl at *
 generalize S.A[i].deb = db at *
 generalize S.A[i].cre = cr at *
 generalize S.A[k].cre = cr2 at *
 generalize S.A.length = n at *
 clear h h0 h1 h2 h3 hg hei hek e''
 go_enter Tryz.func101, Tryz.ntmps101
 go_wp2_with (first
  | (go_at_call 137; refine (HF.out _ ((Below.refl _ _).alloc (Nat.le_refl _) _)).mono ?_; rintro e w2 ⟨rfl, rfl⟩)
  | (go_at_call 136; refine (HI.out _ ((Below.refl _ _).alloc (Nat.le_refl _) _)).mono ?_; rintro e w2 ⟨rfl, rfl⟩; clear HI)
  | (go_at_call 136; refine (HK.out _ ((Below.refl _ _).alloc (Nat.le_refl _) _)).mono ?_; rintro e w2 ⟨rfl, rfl⟩))
 go_quiet (first | (go_at_call 138; exact Calls.quiet_of_same (HQ1.out _)) | (go_at_call 138; exact Calls.quiet_of_same (HQ2.out _)))
 go_wp2_with fail
 go_quiet (fail)
 go_wp2_with fail
 go_ret
 first | exact ⟨rfl, below_drewN ((Below.refl _ _).alloc (Nat.le_refl _) _) _⟩ | exact ⟨rfl, below_drewN (below_drewN ((Below.refl _ _).alloc (Nat.le_refl _) _) _) _⟩
include h in
theorem rmove_10b (hg : va.ownBlock = some g) (i k : Nat) (hei : S.fa b = i) (hek : S.fa c = k) (hi : i < S.A.length) (hk : k < S.A.length) (h1 : ¬ S.ft a < S.T.length) (h2 : b ≠ c) (h3 : d ≠ 0) (hd : U64 d) (h0 : a ≠ 0) (ho : U64 (S.A[i].deb + d)) (ho2 : U64 (S.A[k].cre + d)) (hf : ¬ S.A[i].flags = 1) (h16 : S.T.length = 16) : Calls Tryz.prog 101 #[.pointer (some ⟨p, 0, none⟩), .agg #[.int .u64 (a : Int), .int .u64 (b : Int), .int .u64 (c : Int), .int .u64 (d : Int)]] w (VE w (.int .i64 10)) := by
 have HF := hid (fun W (hW : Below w.heap.size w W) => rt_any p va vt S a W (h.below hW))
 have hz : ((a : Int) == 0) = false := ne_nat h0
 rw [idxt_no h1] at HF
 have hbc := ne_nat h2
 have HI := hid (fun W (hW : Below w.heap.size w W) => ra_any p va vt S b W (h.below hW))
 have HK := hid (fun W (hW : Below w.heap.size w W) => ra_any p va vt S c W (h.below hW))
 rw [idxa_yes (by rw [hei]; exact hi), hei] at HI
 rw [idxa_yes (by rw [hek]; exact hk), hek] at HK
 have hdz : ((d : Int) == 0) = false := ne_nat h3
 obtain ⟨A', cc, e', hnc, -⟩ := h.va_shape
 obtain ⟨g', c'', e'', -, hg'⟩ := own_some h.accs (by omega : 0 < S.A.length)
 rw [hg] at hg'
 cases hg'
 rw [e''] at e'
 simp only [Value.slice.injEq] at e'
 obtain ⟨rfl, -, rfl⟩ := e'
 have hc0 := h.c0
 rw [e''] at hc0
 have hplt := h.box.lt
 have hglt := (h.accs.lt g hg).2
 have gc1 : w.cell? ⟨g, i * 4 + 1, none⟩ = some (.int .i64 S.A[i].flags) := h.cellA hg i 1 hi (by decide)
 have gc2 : w.cell? ⟨g, i * 4 + 2, none⟩ = some (.int .u64 (S.A[i].deb : Int)) := h.cellA hg i 2 hi (by decide)
 have gc3 : w.cell? ⟨g, i * 4 + 3, none⟩ = some (.int .u64 (S.A[i].cre : Int)) := h.cellA hg i 3 hi (by decide)
 have gc4 : w.cell? ⟨g, k * 4 + 3, none⟩ = some (.int .u64 (S.A[k].cre : Int)) := h.cellA hg k 3 hk (by decide)
 have HQ1 := over_no (h.wf.oa _ (List.getElem_mem hi)).1.2.2.1 hd ho
 have HQ2 := over_no (h.wf.oa _ (List.getElem_mem hk)).1.2.2.2 hd ho2
 have e1 := u64_wrap_small _ _ ho
 clear ho2
 clear ho e1
 have hf1 : (S.A[i].flags == 1) = false := beq_eq_false_iff_ne.2 hf
 clear hf
 obtain ⟨A3, c3, e3, -, -⟩ := h.vt_shape
 have hc1 := h.c1
 rw [e3, h16] at hc1
 clear e3
 have hin : (i : Int) < (S.A.length : Int) := by omega
 have hkn : (k : Int) < (S.A.length : Int) := by omega
 have hn8 : (S.A.length : Int) ≤ 8 := by have := h.wf.la; omega
 have ci0 : (0 : Int) ≤ (i : Int) := by omega
 have ck0 : (0 : Int) ≤ (k : Int) := by omega
 generalize S.A[i].flags = fl at *
 generalize S.A[i].deb = db at *
 generalize S.A[i].cre = cr at *
 generalize S.A[k].cre = cr2 at *
 generalize S.A.length = n at *
 clear h h0 h1 h2 h3 hg hei hek e''
 go_enter Tryz.func101, Tryz.ntmps101
 go_wp2_with (first
  | (go_at_call 137; refine (HF.out _ ((Below.refl _ _).alloc (Nat.le_refl _) _)).mono ?_; rintro e w2 ⟨rfl, rfl⟩)
  | (go_at_call 136; refine (HI.out _ ((Below.refl _ _).alloc (Nat.le_refl _) _)).mono ?_; rintro e w2 ⟨rfl, rfl⟩; clear HI)
  | (go_at_call 136; refine (HK.out _ ((Below.refl _ _).alloc (Nat.le_refl _) _)).mono ?_; rintro e w2 ⟨rfl, rfl⟩))
 go_quiet (first | (go_at_call 138; exact Calls.quiet_of_same (HQ1.out _)) | (go_at_call 138; exact Calls.quiet_of_same (HQ2.out _)))
 go_wp2_with fail
 go_quiet (fail)
 go_wp2_with fail
 go_ret
 first | exact ⟨rfl, below_drewN ((Below.refl _ _).alloc (Nat.le_refl _) _) _⟩ | exact ⟨rfl, below_drewN (below_drewN ((Below.refl _ _).alloc (Nat.le_refl _) _) _) _⟩
include h in
theorem rmove_0a (hg : va.ownBlock = some g) (i k : Nat) (hei : S.fa b = i) (hek : S.fa c = k) (hi : i < S.A.length) (hk : k < S.A.length) (h1 : ¬ S.ft a < S.T.length) (h2 : b ≠ c) (h3 : d ≠ 0) (hd : U64 d) (h0 : a ≠ 0) (ho : U64 (S.A[i].deb + d)) (ho2 : U64 (S.A[k].cre + d)) (hf : S.A[i].flags = 1) (hl : ¬ S.A[i].cre < S.A[i].deb + d) (ht : (⟨a, b, c, d⟩ : Tr).ok) (hm : S.Moves ⟨a, b, c, d⟩) :
  Calls Tryz.prog 101 #[.pointer (some ⟨p, 0, none⟩), .agg #[.int .u64 (a : Int), .int .u64 (b : Int), .int .u64 (c : Int), .int .u64 (d : Int)]] w fun e w' => e = .returned (.int .i64 0) ∧ Gw 57 p w (fpG p va vt) ⟨S.paid ⟨a, b, c, d⟩, S.T ++ [⟨a, b, c, d⟩]⟩ w' := by
 have HF := hid (fun W (hW : Below w.heap.size w W) => rt_any p va vt S a W (h.below hW))
 have hz : ((a : Int) == 0) = false := ne_nat h0
 have hoc := ho2
 have hob := ho
 rw [idxt_no h1] at HF
 have hbc := ne_nat h2
 have HI := hid (fun W (hW : Below w.heap.size w W) => ra_any p va vt S b W (h.below hW))
 have HK := hid (fun W (hW : Below w.heap.size w W) => ra_any p va vt S c W (h.below hW))
 rw [idxa_yes (by rw [hei]; exact hi), hei] at HI
 rw [idxa_yes (by rw [hek]; exact hk), hek] at HK
 have hdz : ((d : Int) == 0) = false := ne_nat h3
 obtain ⟨A', cc, e', hnc, -⟩ := h.va_shape
 obtain ⟨g', c'', e'', -, hg'⟩ := own_some h.accs (by omega : 0 < S.A.length)
 rw [hg] at hg'
 cases hg'
 rw [e''] at e'
 simp only [Value.slice.injEq] at e'
 obtain ⟨rfl, -, rfl⟩ := e'
 have hc0 := h.c0
 rw [e''] at hc0
 have hplt := h.box.lt
 have hglt := (h.accs.lt g hg).2
 have gc1 : w.cell? ⟨g, i * 4 + 1, none⟩ = some (.int .i64 S.A[i].flags) := h.cellA hg i 1 hi (by decide)
 have gc2 : w.cell? ⟨g, i * 4 + 2, none⟩ = some (.int .u64 (S.A[i].deb : Int)) := h.cellA hg i 2 hi (by decide)
 have gc3 : w.cell? ⟨g, i * 4 + 3, none⟩ = some (.int .u64 (S.A[i].cre : Int)) := h.cellA hg i 3 hi (by decide)
 have gc4 : w.cell? ⟨g, k * 4 + 3, none⟩ = some (.int .u64 (S.A[k].cre : Int)) := h.cellA hg k 3 hk (by decide)
 have HQ1 := over_no (h.wf.oa _ (List.getElem_mem hi)).1.2.2.1 hd ho
 have HQ2 := over_no (h.wf.oa _ (List.getElem_mem hk)).1.2.2.2 hd ho2
 have e1 := u64_wrap_small _ _ ho
 obtain ⟨s, hs⟩ : ∃ s, S.A[i].deb + d = s := ⟨_, rfl⟩
 rw [hs] at e1 hl
 clear hs
 have hf1 : (S.A[i].flags == 1) = true := beq_iff_eq.2 hf
 have hl1 : decide (S.A[i].cre < s) = false := decide_eq_false hl
 have hl2 : decide ((S.A[i].cre : Int) < (s : Int)) = false := decide_eq_false (by omega)
 clear hf hl
 have e1 := u64_wrap_small _ _ hob
 have e2 := u64_wrap_small _ _ hoc
 clear hob hoc
 obtain ⟨A3, c3, e3, hnc3, -⟩ := h.vt_shape
 have hc1 := h.c1
 have hnt : S.T.length + 1 ≤ 16 := by
  have := h.wf.lt
  have := hm.room
  omega
 obtain ⟨nt, hnt2⟩ : ∃ nt, S.T.length = nt := ⟨_, rfl⟩
 have HNT2 := hid hnt2
 have hc1' := hc1
 rw [e3, hnt2] at hc1
 have h16b : ¬ (16 : Int) ≤ (nt : Int) := by omega
 have HH := hid h
 have HLW := hid h.lt
 have HROOM := hid hnt
 have hn16 : S.T.length ≤ 16 := by omega
 have cs_one : ∀ u ∈ ([.int .u64 (a : Int), .int .u64 (b : Int), .int .u64 (c : Int), .int .u64 (d : Int)] : List Value), u.oneCell' = true := cs_one4 rfl rfl rfl rfl
 have HRW := hid (show Row (w.alloc (.cells #[.int .u64 (a : Int), .int .u64 (b : Int), .int .u64 (c : Int), .int .u64 (d : Int)] 82)) w.heap.size 82 [.int .u64 (a : Int), .int .u64 (b : Int), .int .u64 (c : Int), .int .u64 (d : Int)] from Row.new _ _ _)
 have hik : i ≠ k := by have := hm.ne; simp only [hei, hek] at this; exact this
 have HP : Hid (S.paid ⟨a, b, c, d⟩ = (S.A.set i (deb_ d S.A[i])).set k (cre_ d S.A[k])) := hid (by
  rw [paid_set hm]
  simp only [hei, hek])
 have HFB : Hid ((deb_ d S.A[i]).flat) := hid (by
  have := h.wf.oa _ (List.getElem_mem hi)
  exact ⟨⟨this.1.1, this.1.2.1, ho, this.1.2.2.2⟩, this.2⟩)
 have HFC : Hid ((cre_ d S.A[k]).flat) := hid (by
  have := h.wf.oa _ (List.getElem_mem hk)
  exact ⟨⟨this.1.1, this.1.2.1, this.1.2.2.1, ho2⟩, this.2⟩)
 obtain ⟨XN, hXN⟩ : ∃ XN : Tr, XN = ⟨a, b, c, d⟩ := ⟨_, rfl⟩
 have HXN : Hid XN.ok := hid (by rw [hXN]; exact ht)
 have HEX : Hid (XN.cells = [.int .u64 (a : Int), .int .u64 (b : Int), .int .u64 (c : Int), .int .u64 (d : Int)]) := hid (by rw [hXN]; rfl)
 rw [← hXN] at HP ⊢
 obtain ⟨SP, hSP⟩ : ∃ SP, SP = S.paid XN := ⟨_, rfl⟩
 rw [← hSP] at HP ⊢
 have HG := hid hg
 have HEV := hid e''
 have hin : (i : Int) < (S.A.length : Int) := by omega
 have hkn : (k : Int) < (S.A.length : Int) := by omega
 have hn8 : (S.A.length : Int) ≤ 8 := by have := h.wf.la; omega
 have ci0 : (0 : Int) ≤ (i : Int) := by omega
 have ck0 : (0 : Int) ≤ (k : Int) := by omega
 have HRANGE := hid (show ∀ W : World, Row W w.heap.size 82 [.int .u64 (a : Int), .int .u64 (b : Int), .int .u64 (c : Int), .int .u64 (d : Int)] → W.cell? ⟨w.heap.size, 3, none⟩ = some (.int .u64 (d : Int)) from fun W hr => hr.at_ 3 _ rfl)
 clear h h0 h1 h2 h3 hg hei hek e'' ht hm hnt hnt2 hXN hSP ho ho2 e3 hc1' hnc3
 go_enter Tryz.func101, Tryz.ntmps101
 go_wp2_with (first
  | (go_at_call 137; refine (HF.out _ ((Below.refl _ _).alloc (Nat.le_refl _) _)).mono ?_; rintro e w2 ⟨rfl, rfl⟩)
  | (go_at_call 136; refine (HI.out _ ((Below.refl _ _).alloc (Nat.le_refl _) _)).mono ?_; rintro e w2 ⟨rfl, rfl⟩; clear HI)
  | (go_at_call 136; refine (HK.out _ ((Below.refl _ _).alloc (Nat.le_refl _) _)).mono ?_; rintro e w2 ⟨rfl, rfl⟩))
 go_quiet (first | (go_at_call 138; exact Calls.quiet_of_same (HQ1.out _)) | (go_at_call 138; exact Calls.quiet_of_same (HQ2.out _)))
 go_wp2_with fail
 go_quiet (fail)
 go_wp2_with fail
 have HB0 : Hid (Below w.heap.size w (w.alloc (.cells #[.int .u64 (a : Int), .int .u64 (b : Int), .int .u64 (c : Int), .int .u64 (d : Int)] 82))) := hid ((Below.refl _ _).alloc (Nat.le_refl _) _)
 refine name_wp (fun w3 hw3 => ?_)
 have HW3 := hid hw3
 clear hw3
 have HRX3 : Hid (Row w3 w.heap.size 82 [.int .u64 (a : Int), .int .u64 (b : Int), .int .u64 (c : Int), .int .u64 (d : Int)]) := hid (by rw [HW3.out]; exact HRW.out)
 have HB3 : Hid (Below w.heap.size w w3) := hid (by rw [HW3.out]; first | exact below_drewN HB0.out _ | exact below_drewN (below_drewN HB0.out _) _)
 have h3 := hid (HH.out.below HB3.out)
 have HNE : Hid (∀ b ∈ fpG p va vt, b ≠ w.heap.size) := hid fun b hb => by have := HLW.out b hb; omega
 have HNEP : Hid (p ≠ w.heap.size) := hid (HNE.out p (by simp [fpG]))
 have HNEG : Hid (w.heap.size ≠ g) := hid (Ne.symm (HNE.out g (by simp [fpG, HG.out])))
 have HNPG : Hid (p ≠ g) := hid (fun e => HH.out.n1 (by rw [HG.out, e]))
 clear gc1 gc2 gc3 gc4 hc0 hc1 HF HQ1 HQ2 HB0 HRW HK hplt hglt hf1 hl1 hl2
 have c3 := HRANGE.out _ HRX3.out
 have cv := h3.out.c0
 rw [HEV.out] at cv
 have HS : Hid (w3.drew.cell? ⟨w.heap.size, 3, none⟩ = some (.int .u64 (d : Int)) ∧ w3.drew.cell? ⟨p, 0, none⟩ = some (.slice (some ⟨g, 0, none⟩) S.A.length c'')) := hid ⟨c3, cv⟩
 have gc : w3.cell? ⟨g, i * 4 + 2, none⟩ = some (.int .u64 (S.A[i].deb : Int)) := h3.out.cellA HG.out i 2 hi (by decide)
 have gf : w3.frozen? ⟨g, i * 4 + 2, none⟩ = false := h3.out.frozenA HG.out _
 have HT := hid (h3.out.turn HG.out i 2 (.int .u64 ((S.A[i].deb + d : Nat) : Int)) (deb_ d S.A[i]) hi (by decide) (by rfl) HFB.out).drew
 have HTR : Hid (Row (w3.setCell ⟨g, i * 4 + 2, none⟩ (.int .u64 ((S.A[i].deb + d : Nat) : Int))).drew w.heap.size 82 [.int .u64 (a : Int), .int .u64 (b : Int), .int .u64 (c : Int), .int .u64 (d : Int)]) := hid (Row.far HRX3.out (p := ⟨g, i * 4 + 2, none⟩) HNEG.out _)
 have HTF := hid (Fr.turn (p := p) (va := va) (vt := vt) w3 (i * 4 + 2) (.int .u64 ((S.A[i].deb + d : Nat) : Int)) HG.out).drew
 clear c3 cv
 obtain ⟨n0, hn0⟩ : ∃ n, S.A[i].deb = n := ⟨_, rfl⟩
 rw [hn0] at gc HT HTR HTF e1
 clear hn0
 refine wp_region_held_drew (S := fun w' => w'.cell? ⟨w.heap.size, 3, none⟩ = some (.int .u64 (d : Int)) ∧ w'.cell? ⟨p, 0, none⟩ = some (.slice (some ⟨g, 0, none⟩) S.A.length c'')) (by kernel_rfl) HS.out (fun hH => ?_)
 refine tk_ (i := 0) (v := .pointer (some ⟨p, 0, none⟩)) rfl (Or.inl ⟨by rfl, fun w' hw' => by clear hw' ; go_simp⟩) hH ?_
 simp only [Act.put]
 refine tk_ (i := 1) (v := .pointer (some ⟨p, 0, none⟩)) rfl (Or.inl ⟨by rfl, fun w' hw' => by clear hw' ; go_simp⟩) hH ?_
 simp only [Act.put]
 refine tk_ (i := 2) (v := .pointer (some ⟨p, 0, none⟩)) rfl (Or.inl ⟨by rfl, fun w' hw' => by clear hw' ; go_simp⟩) hH ?_
 simp only [Act.put]
 refine tk_ (i := 3) (v := .slice (some ⟨g, 0, none⟩) S.A.length c'') rfl (Or.inl ⟨by rfl, fun w' hw' => by have h := hw'.2; go_simp⟩) hH ?_
 simp only [Act.put]
 refine tk_ (i := 4) (v := .int .i64 (i : Int)) rfl (Or.inl ⟨by rfl, fun w' hw' => by clear hw' ; go_simp⟩) hH ?_
 simp only [Act.put]
 refine tk_ (i := 5) (v := .pointer (some ⟨p, 0, none⟩)) rfl (Or.inl ⟨by rfl, fun w' hw' => by clear hw' ; go_simp⟩) hH ?_
 simp only [Act.put]
 refine tk_ (i := 6) (v := .pointer (some ⟨p, 0, none⟩)) rfl (Or.inl ⟨by rfl, fun w' hw' => by clear hw' ; go_simp⟩) hH ?_
 simp only [Act.put]
 refine tk_ (i := 7) (v := .pointer (some ⟨p, 0, none⟩)) rfl (Or.inl ⟨by rfl, fun w' hw' => by clear hw' ; go_simp⟩) hH ?_
 simp only [Act.put]
 refine tk_ (i := 8) (v := .slice (some ⟨g, 0, none⟩) S.A.length c'') rfl (Or.inl ⟨by rfl, fun w' hw' => by have h := hw'.2; go_simp⟩) hH ?_
 simp only [Act.put]
 refine tk_ (i := 9) (v := .int .i64 (i : Int)) rfl (Or.inl ⟨by rfl, fun w' hw' => by clear hw' ; go_simp⟩) hH ?_
 simp only [Act.put]
 refine tk_ (i := 10) (v := .pointer (some ⟨g, i * 4, none⟩)) rfl (Or.inl ⟨by rfl, fun w' hw' => by clear hw' ; go_simp⟩) hH ?_
 simp only [Act.put]
 refine tk_ (i := 11) (v := .pointer (some ⟨g, i * 4 + 2, none⟩)) rfl (Or.inl ⟨by rfl, fun w' hw' => by clear hw' ; go_simp⟩) hH ?_
 simp only [Act.put]
 refine tk_ (i := 13) (v := .pointer (some ⟨w.heap.size, 3, none⟩)) rfl (Or.inl ⟨by rfl, fun w' hw' => by clear hw' ; go_simp⟩) hH ?_
 simp only [Act.put]
 refine tk_ (i := 14) (v := .int .u64 (d : Int)) rfl (Or.inl ⟨by rfl, fun w' hw' => by have h := hw'.1; go_simp⟩) hH ?_
 simp only [Act.put]
 refine rd1 (i := 12) (by kernel_rfl) rfl (fun K hK => ?_)
 go_simp
 refine hK.out _ _ hH (fun hH => ?_)
 clear hK K
 refine tk_ (i := 15) (v := .int .u64 ((n0 + d : Nat) : Int)) rfl (Or.inl ⟨by rfl, fun w' hw' => by clear hw' ; go_simp⟩) hH ?_
 simp only [Act.put]
 refine tk_ (i := 16) (v := .pointer (some ⟨g, i * 4, none⟩)) rfl (Or.inl ⟨by rfl, fun w' hw' => by clear hw' ; go_simp⟩) hH ?_
 simp only [Act.put]
 refine tk_ (i := 17) (v := .pointer (some ⟨g, i * 4 + 2, none⟩)) rfl (Or.inl ⟨by rfl, fun w' hw' => by clear hw' ; go_simp⟩) hH ?_
 simp only [Act.put]
 refine rd1 (i := 18) (by kernel_rfl) rfl (fun K hK => ?_)
 go_simp
 refine hK.out _ _ ⟨(World.cell?_setCell_far _ _ _ _ (Ne.symm HNEG.out)).trans hH.1, (World.cell?_setCell_far _ _ _ _ (Ne.symm HNPG.out)).trans hH.2⟩ (fun hH => ?_)
 clear hK K hH
 refine wpAnyH_done (by kernel_rfl) ?_ _
 try simp only [Act.put]
 clear gc gf HS e1
 rw [Int.natCast_add] at HT HTR HTF
 generalize (w3.setCell ⟨g, i * 4 + 2, none⟩ (.int .u64 ((n0 : Int) + (d : Int)))).drew = w4 at *
 go_wp2_with fail
 have HRX4 := hid HTR.out
 have h4 := hid HT.out
 have HF4 := hid (((Fr.of_below HB3.out).mono (fq := fpG p va vt) (by simp)).trans HTF.out (fun b hb _ => hb))
 clear HTR HT HTF
 have c3 := HRANGE.out _ HRX4.out
 have cv := h4.out.c0
 rw [HEV.out] at cv
 have HS : Hid (w4.drew.cell? ⟨w.heap.size, 3, none⟩ = some (.int .u64 (d : Int)) ∧ w4.drew.cell? ⟨p, 0, none⟩ = some (.slice (some ⟨g, 0, none⟩) S.A.length c'')) := hid ⟨c3, cv⟩
 have gc : w4.cell? ⟨g, k * 4 + 3, none⟩ = some (.int .u64 (S.A[k].cre : Int)) := (by rw [h4.out.cellA HG.out k 3 (by simpa using hk) (by decide)]; simp only [List.getElem_set_ne hik]; rfl)
 have gf : w4.frozen? ⟨g, k * 4 + 3, none⟩ = false := h4.out.frozenA HG.out _
 have HT := hid (h4.out.turn HG.out k 3 (.int .u64 ((S.A[k].cre + d : Nat) : Int)) (cre_ d S.A[k]) (by simpa using hk) (by decide) (by simp only [List.getElem_set_ne hik]; rfl) HFC.out).drew
 have HTR : Hid (Row (w4.setCell ⟨g, k * 4 + 3, none⟩ (.int .u64 ((S.A[k].cre + d : Nat) : Int))).drew w.heap.size 82 [.int .u64 (a : Int), .int .u64 (b : Int), .int .u64 (c : Int), .int .u64 (d : Int)]) := hid (Row.far HRX4.out (p := ⟨g, k * 4 + 3, none⟩) HNEG.out _)
 have HTF := hid (Fr.turn (p := p) (va := va) (vt := vt) w4 (k * 4 + 3) (.int .u64 ((S.A[k].cre + d : Nat) : Int)) HG.out).drew
 clear c3 cv
 obtain ⟨n1, hn1⟩ : ∃ n, S.A[k].cre = n := ⟨_, rfl⟩
 rw [hn1] at gc HT HTR HTF e2
 clear hn1
 refine wp_region_held_drew (S := fun w' => w'.cell? ⟨w.heap.size, 3, none⟩ = some (.int .u64 (d : Int)) ∧ w'.cell? ⟨p, 0, none⟩ = some (.slice (some ⟨g, 0, none⟩) S.A.length c'')) (by kernel_rfl) HS.out (fun hH => ?_)
 refine tk_ (i := 0) (v := .pointer (some ⟨p, 0, none⟩)) rfl (Or.inl ⟨by rfl, fun w' hw' => by clear hw' ; go_simp⟩) hH ?_
 simp only [Act.put]
 refine tk_ (i := 1) (v := .pointer (some ⟨p, 0, none⟩)) rfl (Or.inl ⟨by rfl, fun w' hw' => by clear hw' ; go_simp⟩) hH ?_
 simp only [Act.put]
 refine tk_ (i := 2) (v := .pointer (some ⟨p, 0, none⟩)) rfl (Or.inl ⟨by rfl, fun w' hw' => by clear hw' ; go_simp⟩) hH ?_
 simp only [Act.put]
 refine tk_ (i := 3) (v := .slice (some ⟨g, 0, none⟩) S.A.length c'') rfl (Or.inl ⟨by rfl, fun w' hw' => by have h := hw'.2; go_simp⟩) hH ?_
 simp only [Act.put]
 refine tk_ (i := 4) (v := .int .i64 (k : Int)) rfl (Or.inl ⟨by rfl, fun w' hw' => by clear hw' ; go_simp⟩) hH ?_
 simp only [Act.put]
 refine tk_ (i := 5) (v := .pointer (some ⟨p, 0, none⟩)) rfl (Or.inl ⟨by rfl, fun w' hw' => by clear hw' ; go_simp⟩) hH ?_
 simp only [Act.put]
 refine tk_ (i := 6) (v := .pointer (some ⟨p, 0, none⟩)) rfl (Or.inl ⟨by rfl, fun w' hw' => by clear hw' ; go_simp⟩) hH ?_
 simp only [Act.put]
 refine tk_ (i := 7) (v := .pointer (some ⟨p, 0, none⟩)) rfl (Or.inl ⟨by rfl, fun w' hw' => by clear hw' ; go_simp⟩) hH ?_
 simp only [Act.put]
 refine tk_ (i := 8) (v := .slice (some ⟨g, 0, none⟩) S.A.length c'') rfl (Or.inl ⟨by rfl, fun w' hw' => by have h := hw'.2; go_simp⟩) hH ?_
 simp only [Act.put]
 refine tk_ (i := 9) (v := .int .i64 (k : Int)) rfl (Or.inl ⟨by rfl, fun w' hw' => by clear hw' ; go_simp⟩) hH ?_
 simp only [Act.put]
 refine tk_ (i := 10) (v := .pointer (some ⟨g, k * 4, none⟩)) rfl (Or.inl ⟨by rfl, fun w' hw' => by clear hw' ; go_simp⟩) hH ?_
 simp only [Act.put]
 refine tk_ (i := 11) (v := .pointer (some ⟨g, k * 4 + 3, none⟩)) rfl (Or.inl ⟨by rfl, fun w' hw' => by clear hw' ; go_simp⟩) hH ?_
 simp only [Act.put]
 refine tk_ (i := 13) (v := .pointer (some ⟨w.heap.size, 3, none⟩)) rfl (Or.inl ⟨by rfl, fun w' hw' => by clear hw' ; go_simp⟩) hH ?_
 simp only [Act.put]
 refine tk_ (i := 14) (v := .int .u64 (d : Int)) rfl (Or.inl ⟨by rfl, fun w' hw' => by have h := hw'.1; go_simp⟩) hH ?_
 simp only [Act.put]
 refine rd1 (i := 12) (by kernel_rfl) rfl (fun K hK => ?_)
 go_simp
 refine hK.out _ _ hH (fun hH => ?_)
 clear hK K
 refine tk_ (i := 15) (v := .int .u64 ((n1 + d : Nat) : Int)) rfl (Or.inl ⟨by rfl, fun w' hw' => by clear hw' ; go_simp⟩) hH ?_
 simp only [Act.put]
 refine tk_ (i := 16) (v := .pointer (some ⟨g, k * 4, none⟩)) rfl (Or.inl ⟨by rfl, fun w' hw' => by clear hw' ; go_simp⟩) hH ?_
 simp only [Act.put]
 refine tk_ (i := 17) (v := .pointer (some ⟨g, k * 4 + 3, none⟩)) rfl (Or.inl ⟨by rfl, fun w' hw' => by clear hw' ; go_simp⟩) hH ?_
 simp only [Act.put]
 refine rd1 (i := 18) (by kernel_rfl) rfl (fun K hK => ?_)
 go_simp
 refine hK.out _ _ ⟨(World.cell?_setCell_far _ _ _ _ (Ne.symm HNEG.out)).trans hH.1, (World.cell?_setCell_far _ _ _ _ (Ne.symm HNPG.out)).trans hH.2⟩ (fun hH => ?_)
 clear hK K hH
 refine wpAnyH_done (by kernel_rfl) ?_ _
 try simp only [Act.put]
 clear gc gf HS e2
 rw [Int.natCast_add] at HT HTR HTF
 generalize (w4.setCell ⟨g, k * 4 + 3, none⟩ (.int .u64 ((n1 : Int) + (d : Int)))).drew = w5 at *
 go_wp2_with fail
 have HRX5 := hid HTR.out
 have h5 := hid HT.out
 have HF5 := hid (HF4.out.trans HTF.out (fun b hb _ => hb))
 clear HTR HT HTF
 rw [← HP.out] at h5
 have HRX := hid HRX5.out
 have HRG : Hid (w5.drew.rangeAt w.heap.size 0 [.int .u64 (a : Int), .int .u64 (b : Int), .int .u64 (c : Int), .int .u64 (d : Int)]) := hid fun j v hv => by rw [Nat.zero_add]; exact HRX.out.at_ j v hv
 have hc3 := h5.out.c1
 have HC := hid hc3
 have HLT := hid h5.out.box.lt
 clear h3 h4 HRX3 HRX4 HRX5 HF4 HB3
 have HNP : Hid ((⟨p, 1, none⟩ : Addr).block ≠ w.heap.size) := HNEP
 refine wp_region_held_drew (S := fun w' => w'.rangeAt w.heap.size 0 [.int .u64 (a : Int), .int .u64 (b : Int), .int .u64 (c : Int), .int .u64 (d : Int)]) (by kernel_rfl) HRG.out (fun hH => ?_)
 refine tk_ (i := 0) (v := .pointer (some ⟨p, 0, none⟩)) rfl (Or.inl ⟨by rfl, fun w' hw' => by clear hw' ; go_simp⟩) hH ?_
 simp only [Act.put]
 refine tk_ (i := 1) (v := .pointer (some ⟨p, 0, none⟩)) rfl (Or.inl ⟨by rfl, fun w' hw' => by clear hw' ; go_simp⟩) hH ?_
 simp only [Act.put]
 refine tk_ (i := 2) (v := .pointer (some ⟨p, 0, none⟩)) rfl (Or.inl ⟨by rfl, fun w' hw' => by clear hw' ; go_simp⟩) hH ?_
 simp only [Act.put]
 refine tk_ (i := 3) (v := .pointer (some ⟨p, 1, none⟩)) rfl (Or.inl ⟨by rfl, fun w' hw' => by clear hw' ; go_simp⟩) hH ?_
 simp only [Act.put]
 refine tk_ (i := 5) (v := .agg ([.int .u64 (a : Int), .int .u64 (b : Int), .int .u64 (c : Int), .int .u64 (d : Int)]).toArray) rfl
  (yieldsIf_load_mid (by rfl) 82 (.tmp 3) rfl w.heap.size 0 rfl _ _ (fun _ hw => hw) Tryz.underlying82 rfl trSize) hH ?_
 simp only [Act.put]
 obtain ⟨i0, hi, hz0, hz1, hz2⟩ := info_parts trInfo
 have hnews : Hid (∀ j u, ([.int .u64 (a : Int), .int .u64 (b : Int), .int .u64 (c : Int), .int .u64 (d : Int)])[j]? = some u → ((w5).drew.alloc (.cells ([.int .u64 (a : Int), .int .u64 (b : Int), .int .u64 (c : Int), .int .u64 (d : Int)]).toArray 82)).cell? ((⟨(w5).heap.size, 0, none⟩ : Addr).add j) = some u) := hid (by
  have := World.news_of_block (heap_alloc_new (w5).drew (.cells ([.int .u64 (a : Int), .int .u64 (b : Int), .int .u64 (c : Int), .int .u64 (d : Int)]).toArray 82))
  simpa using this)
 refine wpAnyH_ready (rs := [4, 6]) (by kernel_rfl) (by simp) ?_
 refine AllReadyH.cons rfl (fun K hK => ?_) (AllReadyH.cons rfl (fun K hK => ?_) AllReadyH.nil)
 ·
  go_simp
  refine hK.out _ _ hH (fun hH => ?_)
  clear hK K
  refine rd1 (i := 6) (by kernel_rfl) rfl (fun K hK => ?_)
  rw [if_pos (by rfl)]
  refine wp_slice1 55 82 (.tmp 137) rfl i0 _ 4 Tryz.underlying55 hi hz0 hz1 (by decide) (by decide) [.int .u64 (a : Int), .int .u64 (b : Int), .int .u64 (c : Int), .int .u64 (d : Int)] (by kernel_rfl) rfl ?_
  simp only [Act.put]
  refine hK.out _ _ (World.rangeAt_alloc hH _) (fun hH => ?_)
  clear hK K
  refine rd1 (i := 7) (by kernel_rfl) rfl (fun K hK => ?_)
  refine step_append_lies _ rfl (.tmp 136) (.tmp 138) 55 rfl 0 82 i0 _ 4 32 Tryz.underlying55 hi hz0 hz1 hz2 rfl (by decide) vt S.T.length _ (by kernel_rfl) ((h5.out.trs.drew).alloc _) ⟨w5.heap.size, 0, none⟩ 1 1 [.int .u64 (a : Int), .int .u64 (b : Int), .int .u64 (c : Int), .int .u64 (d : Int)] (by kernel_rfl) rfl hnews.out cs_one (by decide) (le_maxLen (by omega)) (by omega) (Nat.zero_le _) (w5.heap.size + 1) (by simp) ?_
  intro g' cap w9 ho4 hg4 hat hlt4
  have HAP := hid (app_factst h5.out HRX.out HNE.out hg4)
  have hH4 := HAP.out.2.2
  simp only [Act.put]
  refine hK.out _ _ hH4 (fun hH => ?_)
  clear hK K hH4
  refine tk_ (i := 8) (v := .pointer (some ⟨p, 0, none⟩)) rfl (Or.inl ⟨by rfl, fun w' hw' => by clear hw' ; go_simp⟩) hH ?_
  simp only [Act.put]
  refine tk_ (i := 9) (v := .pointer (some ⟨p, 1, none⟩)) rfl (Or.inl ⟨by rfl, fun w' hw' => by clear hw' ; go_simp⟩) hH ?_
  simp only [Act.put]
  have c4 := HAP.out.1.at_ 1 _ rfl
  have f4 := HAP.out.1.frozen 1
  have HO4 := hid ho4
  have HAT := hid hat
  clear ho4 hat hg4
  refine rd1 (i := 10) (by kernel_rfl) rfl (fun K hK => ?_)
  go_simp
  refine hK.out _ _ (fun j v hv => (World.cell?_setCell_far _ _ _ _ HNP.out).trans (hH j v hv)) (fun hH => ?_)
  clear hK K hH
  refine wpAnyH_done (by kernel_rfl) ?_ _
  try simp only [Act.put]
  have HM := hid (h5.out.moreT (X := 57) (x := XN) HAP.out.2.1 (by have h := HO4.out; rw [← HEX.out] at h; exact h) (vend HAT.out) HROOM.out HXN.out)
  clear c4 f4
  generalize (w9.setCell ⟨p, 1, none⟩ (.slice (some ⟨g', 0, none⟩) (S.T.length + 1) cap)) = w10 at *
  go_wp2_with fail
  go_ret
  refine ⟨rfl, ⟨fpG p va (.slice (some ⟨g', 0, none⟩) (S.T.length + 1) cap), ⟨_, _, rfl, HM.out.1⟩, ?_, ?_⟩⟩
  ·
   exact HF5.out.trans HM.out.2.1 (by intro b hb _; exact hb)
  ·
   intro b hb
   rcases HM.out.2.2 b hb with h | h
   ·
    exact .inl h
   ·
    have := HF5.out.size
    right; omega
 ·
  rw [if_pos (by rfl)]
  refine wp_slice1 55 82 (.tmp 137) rfl i0 _ 4 Tryz.underlying55 hi hz0 hz1 (by decide) (by decide) [.int .u64 (a : Int), .int .u64 (b : Int), .int .u64 (c : Int), .int .u64 (d : Int)] (by kernel_rfl) rfl ?_
  simp only [Act.put]
  refine hK.out _ _ (World.rangeAt_alloc hH _) (fun hH => ?_)
  clear hK K
  have c32 : ((w5).alloc (.cells ([.int .u64 (a : Int), .int .u64 (b : Int), .int .u64 (c : Int), .int .u64 (d : Int)]).toArray 82)).cell? ⟨p, 1, none⟩ = some vt := (World.cell?_alloc_lt _ _ _ HLT.out).trans HC.out
  refine rd1 (i := 4) (by kernel_rfl) rfl (fun K hK => ?_)
  go_simp
  refine hK.out _ _ hH (fun hH => ?_)
  clear hK K c32
  refine rd1 (i := 7) (by kernel_rfl) rfl (fun K hK => ?_)
  refine step_append_lies _ rfl (.tmp 136) (.tmp 138) 55 rfl 0 82 i0 _ 4 32 Tryz.underlying55 hi hz0 hz1 hz2 rfl (by decide) vt S.T.length _ (by kernel_rfl) ((h5.out.trs.drew).alloc _) ⟨w5.heap.size, 0, none⟩ 1 1 [.int .u64 (a : Int), .int .u64 (b : Int), .int .u64 (c : Int), .int .u64 (d : Int)] (by kernel_rfl) rfl hnews.out cs_one (by decide) (le_maxLen (by omega)) (by omega) (Nat.zero_le _) (w5.heap.size + 1) (by simp) ?_
  intro g' cap w9 ho4 hg4 hat hlt4
  have HAP := hid (app_factst h5.out HRX.out HNE.out hg4)
  have hH4 := HAP.out.2.2
  simp only [Act.put]
  refine hK.out _ _ hH4 (fun hH => ?_)
  clear hK K hH4
  refine tk_ (i := 8) (v := .pointer (some ⟨p, 0, none⟩)) rfl (Or.inl ⟨by rfl, fun w' hw' => by clear hw' ; go_simp⟩) hH ?_
  simp only [Act.put]
  refine tk_ (i := 9) (v := .pointer (some ⟨p, 1, none⟩)) rfl (Or.inl ⟨by rfl, fun w' hw' => by clear hw' ; go_simp⟩) hH ?_
  simp only [Act.put]
  have c4 := HAP.out.1.at_ 1 _ rfl
  have f4 := HAP.out.1.frozen 1
  have HO4 := hid ho4
  have HAT := hid hat
  clear ho4 hat hg4
  refine rd1 (i := 10) (by kernel_rfl) rfl (fun K hK => ?_)
  go_simp
  refine hK.out _ _ (fun j v hv => (World.cell?_setCell_far _ _ _ _ HNP.out).trans (hH j v hv)) (fun hH => ?_)
  clear hK K hH
  refine wpAnyH_done (by kernel_rfl) ?_ _
  try simp only [Act.put]
  have HM := hid (h5.out.moreT (X := 57) (x := XN) HAP.out.2.1 (by have h := HO4.out; rw [← HEX.out] at h; exact h) (vend HAT.out) HROOM.out HXN.out)
  clear c4 f4
  generalize (w9.setCell ⟨p, 1, none⟩ (.slice (some ⟨g', 0, none⟩) (S.T.length + 1) cap)) = w10 at *
  go_wp2_with fail
  go_ret
  refine ⟨rfl, ⟨fpG p va (.slice (some ⟨g', 0, none⟩) (S.T.length + 1) cap), ⟨_, _, rfl, HM.out.1⟩, ?_, ?_⟩⟩
  ·
   exact HF5.out.trans HM.out.2.1 (by intro b hb _; exact hb)
  ·
   intro b hb
   rcases HM.out.2.2 b hb with h | h
   ·
    exact .inl h
   ·
    have := HF5.out.size
    right; omega
include h in
theorem rmove_0b (hg : va.ownBlock = some g) (i k : Nat) (hei : S.fa b = i) (hek : S.fa c = k) (hi : i < S.A.length) (hk : k < S.A.length) (h1 : ¬ S.ft a < S.T.length) (h2 : b ≠ c) (h3 : d ≠ 0) (hd : U64 d) (h0 : a ≠ 0) (ho : U64 (S.A[i].deb + d)) (ho2 : U64 (S.A[k].cre + d)) (hf : ¬ S.A[i].flags = 1) (ht : (⟨a, b, c, d⟩ : Tr).ok) (hm : S.Moves ⟨a, b, c, d⟩) :
  Calls Tryz.prog 101 #[.pointer (some ⟨p, 0, none⟩), .agg #[.int .u64 (a : Int), .int .u64 (b : Int), .int .u64 (c : Int), .int .u64 (d : Int)]] w fun e w' => e = .returned (.int .i64 0) ∧ Gw 57 p w (fpG p va vt) ⟨S.paid ⟨a, b, c, d⟩, S.T ++ [⟨a, b, c, d⟩]⟩ w' := by
 have HF := hid (fun W (hW : Below w.heap.size w W) => rt_any p va vt S a W (h.below hW))
 have hz : ((a : Int) == 0) = false := ne_nat h0
 have hoc := ho2
 have hob := ho
 rw [idxt_no h1] at HF
 have hbc := ne_nat h2
 have HI := hid (fun W (hW : Below w.heap.size w W) => ra_any p va vt S b W (h.below hW))
 have HK := hid (fun W (hW : Below w.heap.size w W) => ra_any p va vt S c W (h.below hW))
 rw [idxa_yes (by rw [hei]; exact hi), hei] at HI
 rw [idxa_yes (by rw [hek]; exact hk), hek] at HK
 have hdz : ((d : Int) == 0) = false := ne_nat h3
 obtain ⟨A', cc, e', hnc, -⟩ := h.va_shape
 obtain ⟨g', c'', e'', -, hg'⟩ := own_some h.accs (by omega : 0 < S.A.length)
 rw [hg] at hg'
 cases hg'
 rw [e''] at e'
 simp only [Value.slice.injEq] at e'
 obtain ⟨rfl, -, rfl⟩ := e'
 have hc0 := h.c0
 rw [e''] at hc0
 have hplt := h.box.lt
 have hglt := (h.accs.lt g hg).2
 have gc1 : w.cell? ⟨g, i * 4 + 1, none⟩ = some (.int .i64 S.A[i].flags) := h.cellA hg i 1 hi (by decide)
 have gc2 : w.cell? ⟨g, i * 4 + 2, none⟩ = some (.int .u64 (S.A[i].deb : Int)) := h.cellA hg i 2 hi (by decide)
 have gc3 : w.cell? ⟨g, i * 4 + 3, none⟩ = some (.int .u64 (S.A[i].cre : Int)) := h.cellA hg i 3 hi (by decide)
 have gc4 : w.cell? ⟨g, k * 4 + 3, none⟩ = some (.int .u64 (S.A[k].cre : Int)) := h.cellA hg k 3 hk (by decide)
 have HQ1 := over_no (h.wf.oa _ (List.getElem_mem hi)).1.2.2.1 hd ho
 have HQ2 := over_no (h.wf.oa _ (List.getElem_mem hk)).1.2.2.2 hd ho2
 have e1 := u64_wrap_small _ _ ho
 clear e1
 have hf1 : (S.A[i].flags == 1) = false := beq_eq_false_iff_ne.2 hf
 clear hf
 have e1 := u64_wrap_small _ _ hob
 have e2 := u64_wrap_small _ _ hoc
 clear hob hoc
 obtain ⟨A3, c3, e3, hnc3, -⟩ := h.vt_shape
 have hc1 := h.c1
 have hnt : S.T.length + 1 ≤ 16 := by
  have := h.wf.lt
  have := hm.room
  omega
 obtain ⟨nt, hnt2⟩ : ∃ nt, S.T.length = nt := ⟨_, rfl⟩
 have HNT2 := hid hnt2
 have hc1' := hc1
 rw [e3, hnt2] at hc1
 have h16b : ¬ (16 : Int) ≤ (nt : Int) := by omega
 have HH := hid h
 have HLW := hid h.lt
 have HROOM := hid hnt
 have hn16 : S.T.length ≤ 16 := by omega
 have cs_one : ∀ u ∈ ([.int .u64 (a : Int), .int .u64 (b : Int), .int .u64 (c : Int), .int .u64 (d : Int)] : List Value), u.oneCell' = true := cs_one4 rfl rfl rfl rfl
 have HRW := hid (show Row (w.alloc (.cells #[.int .u64 (a : Int), .int .u64 (b : Int), .int .u64 (c : Int), .int .u64 (d : Int)] 82)) w.heap.size 82 [.int .u64 (a : Int), .int .u64 (b : Int), .int .u64 (c : Int), .int .u64 (d : Int)] from Row.new _ _ _)
 have hik : i ≠ k := by have := hm.ne; simp only [hei, hek] at this; exact this
 have HP : Hid (S.paid ⟨a, b, c, d⟩ = (S.A.set i (deb_ d S.A[i])).set k (cre_ d S.A[k])) := hid (by
  rw [paid_set hm]
  simp only [hei, hek])
 have HFB : Hid ((deb_ d S.A[i]).flat) := hid (by
  have := h.wf.oa _ (List.getElem_mem hi)
  exact ⟨⟨this.1.1, this.1.2.1, ho, this.1.2.2.2⟩, this.2⟩)
 have HFC : Hid ((cre_ d S.A[k]).flat) := hid (by
  have := h.wf.oa _ (List.getElem_mem hk)
  exact ⟨⟨this.1.1, this.1.2.1, this.1.2.2.1, ho2⟩, this.2⟩)
 obtain ⟨XN, hXN⟩ : ∃ XN : Tr, XN = ⟨a, b, c, d⟩ := ⟨_, rfl⟩
 have HXN : Hid XN.ok := hid (by rw [hXN]; exact ht)
 have HEX : Hid (XN.cells = [.int .u64 (a : Int), .int .u64 (b : Int), .int .u64 (c : Int), .int .u64 (d : Int)]) := hid (by rw [hXN]; rfl)
 rw [← hXN] at HP ⊢
 obtain ⟨SP, hSP⟩ : ∃ SP, SP = S.paid XN := ⟨_, rfl⟩
 rw [← hSP] at HP ⊢
 have HG := hid hg
 have HEV := hid e''
 have hin : (i : Int) < (S.A.length : Int) := by omega
 have hkn : (k : Int) < (S.A.length : Int) := by omega
 have hn8 : (S.A.length : Int) ≤ 8 := by have := h.wf.la; omega
 have ci0 : (0 : Int) ≤ (i : Int) := by omega
 have ck0 : (0 : Int) ≤ (k : Int) := by omega
 have HRANGE := hid (show ∀ W : World, Row W w.heap.size 82 [.int .u64 (a : Int), .int .u64 (b : Int), .int .u64 (c : Int), .int .u64 (d : Int)] → W.cell? ⟨w.heap.size, 3, none⟩ = some (.int .u64 (d : Int)) from fun W hr => hr.at_ 3 _ rfl)
 clear h h0 h1 h2 h3 hg hei hek e'' ht hm hnt hnt2 hXN hSP ho ho2 e3 hc1' hnc3
 go_enter Tryz.func101, Tryz.ntmps101
 go_wp2_with (first
  | (go_at_call 137; refine (HF.out _ ((Below.refl _ _).alloc (Nat.le_refl _) _)).mono ?_; rintro e w2 ⟨rfl, rfl⟩)
  | (go_at_call 136; refine (HI.out _ ((Below.refl _ _).alloc (Nat.le_refl _) _)).mono ?_; rintro e w2 ⟨rfl, rfl⟩; clear HI)
  | (go_at_call 136; refine (HK.out _ ((Below.refl _ _).alloc (Nat.le_refl _) _)).mono ?_; rintro e w2 ⟨rfl, rfl⟩))
 go_quiet (first | (go_at_call 138; exact Calls.quiet_of_same (HQ1.out _)) | (go_at_call 138; exact Calls.quiet_of_same (HQ2.out _)))
 go_wp2_with fail
 go_quiet (fail)
 go_wp2_with fail
 have HB0 : Hid (Below w.heap.size w (w.alloc (.cells #[.int .u64 (a : Int), .int .u64 (b : Int), .int .u64 (c : Int), .int .u64 (d : Int)] 82))) := hid ((Below.refl _ _).alloc (Nat.le_refl _) _)
 refine name_wp (fun w3 hw3 => ?_)
 have HW3 := hid hw3
 clear hw3
 have HRX3 : Hid (Row w3 w.heap.size 82 [.int .u64 (a : Int), .int .u64 (b : Int), .int .u64 (c : Int), .int .u64 (d : Int)]) := hid (by rw [HW3.out]; exact HRW.out)
 have HB3 : Hid (Below w.heap.size w w3) := hid (by rw [HW3.out]; first | exact below_drewN HB0.out _ | exact below_drewN (below_drewN HB0.out _) _)
 have h3 := hid (HH.out.below HB3.out)
 have HNE : Hid (∀ b ∈ fpG p va vt, b ≠ w.heap.size) := hid fun b hb => by have := HLW.out b hb; omega
 have HNEP : Hid (p ≠ w.heap.size) := hid (HNE.out p (by simp [fpG]))
 have HNEG : Hid (w.heap.size ≠ g) := hid (Ne.symm (HNE.out g (by simp [fpG, HG.out])))
 have HNPG : Hid (p ≠ g) := hid (fun e => HH.out.n1 (by rw [HG.out, e]))
 clear gc1 gc2 gc3 gc4 hc0 hc1 HF HQ1 HQ2 HB0 HRW HK hplt hglt hf1
 have c3 := HRANGE.out _ HRX3.out
 have cv := h3.out.c0
 rw [HEV.out] at cv
 have HS : Hid (w3.drew.cell? ⟨w.heap.size, 3, none⟩ = some (.int .u64 (d : Int)) ∧ w3.drew.cell? ⟨p, 0, none⟩ = some (.slice (some ⟨g, 0, none⟩) S.A.length c'')) := hid ⟨c3, cv⟩
 have gc : w3.cell? ⟨g, i * 4 + 2, none⟩ = some (.int .u64 (S.A[i].deb : Int)) := h3.out.cellA HG.out i 2 hi (by decide)
 have gf : w3.frozen? ⟨g, i * 4 + 2, none⟩ = false := h3.out.frozenA HG.out _
 have HT := hid (h3.out.turn HG.out i 2 (.int .u64 ((S.A[i].deb + d : Nat) : Int)) (deb_ d S.A[i]) hi (by decide) (by rfl) HFB.out).drew
 have HTR : Hid (Row (w3.setCell ⟨g, i * 4 + 2, none⟩ (.int .u64 ((S.A[i].deb + d : Nat) : Int))).drew w.heap.size 82 [.int .u64 (a : Int), .int .u64 (b : Int), .int .u64 (c : Int), .int .u64 (d : Int)]) := hid (Row.far HRX3.out (p := ⟨g, i * 4 + 2, none⟩) HNEG.out _)
 have HTF := hid (Fr.turn (p := p) (va := va) (vt := vt) w3 (i * 4 + 2) (.int .u64 ((S.A[i].deb + d : Nat) : Int)) HG.out).drew
 clear c3 cv
 obtain ⟨n0, hn0⟩ : ∃ n, S.A[i].deb = n := ⟨_, rfl⟩
 rw [hn0] at gc HT HTR HTF e1
 clear hn0
 refine wp_region_held_drew (S := fun w' => w'.cell? ⟨w.heap.size, 3, none⟩ = some (.int .u64 (d : Int)) ∧ w'.cell? ⟨p, 0, none⟩ = some (.slice (some ⟨g, 0, none⟩) S.A.length c'')) (by kernel_rfl) HS.out (fun hH => ?_)
 refine tk_ (i := 0) (v := .pointer (some ⟨p, 0, none⟩)) rfl (Or.inl ⟨by rfl, fun w' hw' => by clear hw' ; go_simp⟩) hH ?_
 simp only [Act.put]
 refine tk_ (i := 1) (v := .pointer (some ⟨p, 0, none⟩)) rfl (Or.inl ⟨by rfl, fun w' hw' => by clear hw' ; go_simp⟩) hH ?_
 simp only [Act.put]
 refine tk_ (i := 2) (v := .pointer (some ⟨p, 0, none⟩)) rfl (Or.inl ⟨by rfl, fun w' hw' => by clear hw' ; go_simp⟩) hH ?_
 simp only [Act.put]
 refine tk_ (i := 3) (v := .slice (some ⟨g, 0, none⟩) S.A.length c'') rfl (Or.inl ⟨by rfl, fun w' hw' => by have h := hw'.2; go_simp⟩) hH ?_
 simp only [Act.put]
 refine tk_ (i := 4) (v := .int .i64 (i : Int)) rfl (Or.inl ⟨by rfl, fun w' hw' => by clear hw' ; go_simp⟩) hH ?_
 simp only [Act.put]
 refine tk_ (i := 5) (v := .pointer (some ⟨p, 0, none⟩)) rfl (Or.inl ⟨by rfl, fun w' hw' => by clear hw' ; go_simp⟩) hH ?_
 simp only [Act.put]
 refine tk_ (i := 6) (v := .pointer (some ⟨p, 0, none⟩)) rfl (Or.inl ⟨by rfl, fun w' hw' => by clear hw' ; go_simp⟩) hH ?_
 simp only [Act.put]
 refine tk_ (i := 7) (v := .pointer (some ⟨p, 0, none⟩)) rfl (Or.inl ⟨by rfl, fun w' hw' => by clear hw' ; go_simp⟩) hH ?_
 simp only [Act.put]
 refine tk_ (i := 8) (v := .slice (some ⟨g, 0, none⟩) S.A.length c'') rfl (Or.inl ⟨by rfl, fun w' hw' => by have h := hw'.2; go_simp⟩) hH ?_
 simp only [Act.put]
 refine tk_ (i := 9) (v := .int .i64 (i : Int)) rfl (Or.inl ⟨by rfl, fun w' hw' => by clear hw' ; go_simp⟩) hH ?_
 simp only [Act.put]
 refine tk_ (i := 10) (v := .pointer (some ⟨g, i * 4, none⟩)) rfl (Or.inl ⟨by rfl, fun w' hw' => by clear hw' ; go_simp⟩) hH ?_
 simp only [Act.put]
 refine tk_ (i := 11) (v := .pointer (some ⟨g, i * 4 + 2, none⟩)) rfl (Or.inl ⟨by rfl, fun w' hw' => by clear hw' ; go_simp⟩) hH ?_
 simp only [Act.put]
 refine tk_ (i := 13) (v := .pointer (some ⟨w.heap.size, 3, none⟩)) rfl (Or.inl ⟨by rfl, fun w' hw' => by clear hw' ; go_simp⟩) hH ?_
 simp only [Act.put]
 refine tk_ (i := 14) (v := .int .u64 (d : Int)) rfl (Or.inl ⟨by rfl, fun w' hw' => by have h := hw'.1; go_simp⟩) hH ?_
 simp only [Act.put]
 refine rd1 (i := 12) (by kernel_rfl) rfl (fun K hK => ?_)
 go_simp
 refine hK.out _ _ hH (fun hH => ?_)
 clear hK K
 refine tk_ (i := 15) (v := .int .u64 ((n0 + d : Nat) : Int)) rfl (Or.inl ⟨by rfl, fun w' hw' => by clear hw' ; go_simp⟩) hH ?_
 simp only [Act.put]
 refine tk_ (i := 16) (v := .pointer (some ⟨g, i * 4, none⟩)) rfl (Or.inl ⟨by rfl, fun w' hw' => by clear hw' ; go_simp⟩) hH ?_
 simp only [Act.put]
 refine tk_ (i := 17) (v := .pointer (some ⟨g, i * 4 + 2, none⟩)) rfl (Or.inl ⟨by rfl, fun w' hw' => by clear hw' ; go_simp⟩) hH ?_
 simp only [Act.put]
 refine rd1 (i := 18) (by kernel_rfl) rfl (fun K hK => ?_)
 go_simp
 refine hK.out _ _ ⟨(World.cell?_setCell_far _ _ _ _ (Ne.symm HNEG.out)).trans hH.1, (World.cell?_setCell_far _ _ _ _ (Ne.symm HNPG.out)).trans hH.2⟩ (fun hH => ?_)
 clear hK K hH
 refine wpAnyH_done (by kernel_rfl) ?_ _
 try simp only [Act.put]
 clear gc gf HS e1
 rw [Int.natCast_add] at HT HTR HTF
 generalize (w3.setCell ⟨g, i * 4 + 2, none⟩ (.int .u64 ((n0 : Int) + (d : Int)))).drew = w4 at *
 go_wp2_with fail
 have HRX4 := hid HTR.out
 have h4 := hid HT.out
 have HF4 := hid (((Fr.of_below HB3.out).mono (fq := fpG p va vt) (by simp)).trans HTF.out (fun b hb _ => hb))
 clear HTR HT HTF
 have c3 := HRANGE.out _ HRX4.out
 have cv := h4.out.c0
 rw [HEV.out] at cv
 have HS : Hid (w4.drew.cell? ⟨w.heap.size, 3, none⟩ = some (.int .u64 (d : Int)) ∧ w4.drew.cell? ⟨p, 0, none⟩ = some (.slice (some ⟨g, 0, none⟩) S.A.length c'')) := hid ⟨c3, cv⟩
 have gc : w4.cell? ⟨g, k * 4 + 3, none⟩ = some (.int .u64 (S.A[k].cre : Int)) := (by rw [h4.out.cellA HG.out k 3 (by simpa using hk) (by decide)]; simp only [List.getElem_set_ne hik]; rfl)
 have gf : w4.frozen? ⟨g, k * 4 + 3, none⟩ = false := h4.out.frozenA HG.out _
 have HT := hid (h4.out.turn HG.out k 3 (.int .u64 ((S.A[k].cre + d : Nat) : Int)) (cre_ d S.A[k]) (by simpa using hk) (by decide) (by simp only [List.getElem_set_ne hik]; rfl) HFC.out).drew
 have HTR : Hid (Row (w4.setCell ⟨g, k * 4 + 3, none⟩ (.int .u64 ((S.A[k].cre + d : Nat) : Int))).drew w.heap.size 82 [.int .u64 (a : Int), .int .u64 (b : Int), .int .u64 (c : Int), .int .u64 (d : Int)]) := hid (Row.far HRX4.out (p := ⟨g, k * 4 + 3, none⟩) HNEG.out _)
 have HTF := hid (Fr.turn (p := p) (va := va) (vt := vt) w4 (k * 4 + 3) (.int .u64 ((S.A[k].cre + d : Nat) : Int)) HG.out).drew
 clear c3 cv
 obtain ⟨n1, hn1⟩ : ∃ n, S.A[k].cre = n := ⟨_, rfl⟩
 rw [hn1] at gc HT HTR HTF e2
 clear hn1
 refine wp_region_held_drew (S := fun w' => w'.cell? ⟨w.heap.size, 3, none⟩ = some (.int .u64 (d : Int)) ∧ w'.cell? ⟨p, 0, none⟩ = some (.slice (some ⟨g, 0, none⟩) S.A.length c'')) (by kernel_rfl) HS.out (fun hH => ?_)
 refine tk_ (i := 0) (v := .pointer (some ⟨p, 0, none⟩)) rfl (Or.inl ⟨by rfl, fun w' hw' => by clear hw' ; go_simp⟩) hH ?_
 simp only [Act.put]
 refine tk_ (i := 1) (v := .pointer (some ⟨p, 0, none⟩)) rfl (Or.inl ⟨by rfl, fun w' hw' => by clear hw' ; go_simp⟩) hH ?_
 simp only [Act.put]
 refine tk_ (i := 2) (v := .pointer (some ⟨p, 0, none⟩)) rfl (Or.inl ⟨by rfl, fun w' hw' => by clear hw' ; go_simp⟩) hH ?_
 simp only [Act.put]
 refine tk_ (i := 3) (v := .slice (some ⟨g, 0, none⟩) S.A.length c'') rfl (Or.inl ⟨by rfl, fun w' hw' => by have h := hw'.2; go_simp⟩) hH ?_
 simp only [Act.put]
 refine tk_ (i := 4) (v := .int .i64 (k : Int)) rfl (Or.inl ⟨by rfl, fun w' hw' => by clear hw' ; go_simp⟩) hH ?_
 simp only [Act.put]
 refine tk_ (i := 5) (v := .pointer (some ⟨p, 0, none⟩)) rfl (Or.inl ⟨by rfl, fun w' hw' => by clear hw' ; go_simp⟩) hH ?_
 simp only [Act.put]
 refine tk_ (i := 6) (v := .pointer (some ⟨p, 0, none⟩)) rfl (Or.inl ⟨by rfl, fun w' hw' => by clear hw' ; go_simp⟩) hH ?_
 simp only [Act.put]
 refine tk_ (i := 7) (v := .pointer (some ⟨p, 0, none⟩)) rfl (Or.inl ⟨by rfl, fun w' hw' => by clear hw' ; go_simp⟩) hH ?_
 simp only [Act.put]
 refine tk_ (i := 8) (v := .slice (some ⟨g, 0, none⟩) S.A.length c'') rfl (Or.inl ⟨by rfl, fun w' hw' => by have h := hw'.2; go_simp⟩) hH ?_
 simp only [Act.put]
 refine tk_ (i := 9) (v := .int .i64 (k : Int)) rfl (Or.inl ⟨by rfl, fun w' hw' => by clear hw' ; go_simp⟩) hH ?_
 simp only [Act.put]
 refine tk_ (i := 10) (v := .pointer (some ⟨g, k * 4, none⟩)) rfl (Or.inl ⟨by rfl, fun w' hw' => by clear hw' ; go_simp⟩) hH ?_
 simp only [Act.put]
 refine tk_ (i := 11) (v := .pointer (some ⟨g, k * 4 + 3, none⟩)) rfl (Or.inl ⟨by rfl, fun w' hw' => by clear hw' ; go_simp⟩) hH ?_
 simp only [Act.put]
 refine tk_ (i := 13) (v := .pointer (some ⟨w.heap.size, 3, none⟩)) rfl (Or.inl ⟨by rfl, fun w' hw' => by clear hw' ; go_simp⟩) hH ?_
 simp only [Act.put]
 refine tk_ (i := 14) (v := .int .u64 (d : Int)) rfl (Or.inl ⟨by rfl, fun w' hw' => by have h := hw'.1; go_simp⟩) hH ?_
 simp only [Act.put]
 refine rd1 (i := 12) (by kernel_rfl) rfl (fun K hK => ?_)
 go_simp
 refine hK.out _ _ hH (fun hH => ?_)
 clear hK K
 refine tk_ (i := 15) (v := .int .u64 ((n1 + d : Nat) : Int)) rfl (Or.inl ⟨by rfl, fun w' hw' => by clear hw' ; go_simp⟩) hH ?_
 simp only [Act.put]
 refine tk_ (i := 16) (v := .pointer (some ⟨g, k * 4, none⟩)) rfl (Or.inl ⟨by rfl, fun w' hw' => by clear hw' ; go_simp⟩) hH ?_
 simp only [Act.put]
 refine tk_ (i := 17) (v := .pointer (some ⟨g, k * 4 + 3, none⟩)) rfl (Or.inl ⟨by rfl, fun w' hw' => by clear hw' ; go_simp⟩) hH ?_
 simp only [Act.put]
 refine rd1 (i := 18) (by kernel_rfl) rfl (fun K hK => ?_)
 go_simp
 refine hK.out _ _ ⟨(World.cell?_setCell_far _ _ _ _ (Ne.symm HNEG.out)).trans hH.1, (World.cell?_setCell_far _ _ _ _ (Ne.symm HNPG.out)).trans hH.2⟩ (fun hH => ?_)
 clear hK K hH
 refine wpAnyH_done (by kernel_rfl) ?_ _
 try simp only [Act.put]
 clear gc gf HS e2
 rw [Int.natCast_add] at HT HTR HTF
 generalize (w4.setCell ⟨g, k * 4 + 3, none⟩ (.int .u64 ((n1 : Int) + (d : Int)))).drew = w5 at *
 go_wp2_with fail
 have HRX5 := hid HTR.out
 have h5 := hid HT.out
 have HF5 := hid (HF4.out.trans HTF.out (fun b hb _ => hb))
 clear HTR HT HTF
 rw [← HP.out] at h5
 have HRX := hid HRX5.out
 have HRG : Hid (w5.drew.rangeAt w.heap.size 0 [.int .u64 (a : Int), .int .u64 (b : Int), .int .u64 (c : Int), .int .u64 (d : Int)]) := hid fun j v hv => by rw [Nat.zero_add]; exact HRX.out.at_ j v hv
 have hc3 := h5.out.c1
 have HC := hid hc3
 have HLT := hid h5.out.box.lt
 clear h3 h4 HRX3 HRX4 HRX5 HF4 HB3
 have HNP : Hid ((⟨p, 1, none⟩ : Addr).block ≠ w.heap.size) := HNEP
 refine wp_region_held_drew (S := fun w' => w'.rangeAt w.heap.size 0 [.int .u64 (a : Int), .int .u64 (b : Int), .int .u64 (c : Int), .int .u64 (d : Int)]) (by kernel_rfl) HRG.out (fun hH => ?_)
 refine tk_ (i := 0) (v := .pointer (some ⟨p, 0, none⟩)) rfl (Or.inl ⟨by rfl, fun w' hw' => by clear hw' ; go_simp⟩) hH ?_
 simp only [Act.put]
 refine tk_ (i := 1) (v := .pointer (some ⟨p, 0, none⟩)) rfl (Or.inl ⟨by rfl, fun w' hw' => by clear hw' ; go_simp⟩) hH ?_
 simp only [Act.put]
 refine tk_ (i := 2) (v := .pointer (some ⟨p, 0, none⟩)) rfl (Or.inl ⟨by rfl, fun w' hw' => by clear hw' ; go_simp⟩) hH ?_
 simp only [Act.put]
 refine tk_ (i := 3) (v := .pointer (some ⟨p, 1, none⟩)) rfl (Or.inl ⟨by rfl, fun w' hw' => by clear hw' ; go_simp⟩) hH ?_
 simp only [Act.put]
 refine tk_ (i := 5) (v := .agg ([.int .u64 (a : Int), .int .u64 (b : Int), .int .u64 (c : Int), .int .u64 (d : Int)]).toArray) rfl
  (yieldsIf_load_mid (by rfl) 82 (.tmp 3) rfl w.heap.size 0 rfl _ _ (fun _ hw => hw) Tryz.underlying82 rfl trSize) hH ?_
 simp only [Act.put]
 obtain ⟨i0, hi, hz0, hz1, hz2⟩ := info_parts trInfo
 have hnews : Hid (∀ j u, ([.int .u64 (a : Int), .int .u64 (b : Int), .int .u64 (c : Int), .int .u64 (d : Int)])[j]? = some u → ((w5).drew.alloc (.cells ([.int .u64 (a : Int), .int .u64 (b : Int), .int .u64 (c : Int), .int .u64 (d : Int)]).toArray 82)).cell? ((⟨(w5).heap.size, 0, none⟩ : Addr).add j) = some u) := hid (by
  have := World.news_of_block (heap_alloc_new (w5).drew (.cells ([.int .u64 (a : Int), .int .u64 (b : Int), .int .u64 (c : Int), .int .u64 (d : Int)]).toArray 82))
  simpa using this)
 refine wpAnyH_ready (rs := [4, 6]) (by kernel_rfl) (by simp) ?_
 refine AllReadyH.cons rfl (fun K hK => ?_) (AllReadyH.cons rfl (fun K hK => ?_) AllReadyH.nil)
 ·
  go_simp
  refine hK.out _ _ hH (fun hH => ?_)
  clear hK K
  refine rd1 (i := 6) (by kernel_rfl) rfl (fun K hK => ?_)
  rw [if_pos (by rfl)]
  refine wp_slice1 55 82 (.tmp 137) rfl i0 _ 4 Tryz.underlying55 hi hz0 hz1 (by decide) (by decide) [.int .u64 (a : Int), .int .u64 (b : Int), .int .u64 (c : Int), .int .u64 (d : Int)] (by kernel_rfl) rfl ?_
  simp only [Act.put]
  refine hK.out _ _ (World.rangeAt_alloc hH _) (fun hH => ?_)
  clear hK K
  refine rd1 (i := 7) (by kernel_rfl) rfl (fun K hK => ?_)
  refine step_append_lies _ rfl (.tmp 136) (.tmp 138) 55 rfl 0 82 i0 _ 4 32 Tryz.underlying55 hi hz0 hz1 hz2 rfl (by decide) vt S.T.length _ (by kernel_rfl) ((h5.out.trs.drew).alloc _) ⟨w5.heap.size, 0, none⟩ 1 1 [.int .u64 (a : Int), .int .u64 (b : Int), .int .u64 (c : Int), .int .u64 (d : Int)] (by kernel_rfl) rfl hnews.out cs_one (by decide) (le_maxLen (by omega)) (by omega) (Nat.zero_le _) (w5.heap.size + 1) (by simp) ?_
  intro g' cap w9 ho4 hg4 hat hlt4
  have HAP := hid (app_factst h5.out HRX.out HNE.out hg4)
  have hH4 := HAP.out.2.2
  simp only [Act.put]
  refine hK.out _ _ hH4 (fun hH => ?_)
  clear hK K hH4
  refine tk_ (i := 8) (v := .pointer (some ⟨p, 0, none⟩)) rfl (Or.inl ⟨by rfl, fun w' hw' => by clear hw' ; go_simp⟩) hH ?_
  simp only [Act.put]
  refine tk_ (i := 9) (v := .pointer (some ⟨p, 1, none⟩)) rfl (Or.inl ⟨by rfl, fun w' hw' => by clear hw' ; go_simp⟩) hH ?_
  simp only [Act.put]
  have c4 := HAP.out.1.at_ 1 _ rfl
  have f4 := HAP.out.1.frozen 1
  have HO4 := hid ho4
  have HAT := hid hat
  clear ho4 hat hg4
  refine rd1 (i := 10) (by kernel_rfl) rfl (fun K hK => ?_)
  go_simp
  refine hK.out _ _ (fun j v hv => (World.cell?_setCell_far _ _ _ _ HNP.out).trans (hH j v hv)) (fun hH => ?_)
  clear hK K hH
  refine wpAnyH_done (by kernel_rfl) ?_ _
  try simp only [Act.put]
  have HM := hid (h5.out.moreT (X := 57) (x := XN) HAP.out.2.1 (by have h := HO4.out; rw [← HEX.out] at h; exact h) (vend HAT.out) HROOM.out HXN.out)
  clear c4 f4
  generalize (w9.setCell ⟨p, 1, none⟩ (.slice (some ⟨g', 0, none⟩) (S.T.length + 1) cap)) = w10 at *
  go_wp2_with fail
  go_ret
  refine ⟨rfl, ⟨fpG p va (.slice (some ⟨g', 0, none⟩) (S.T.length + 1) cap), ⟨_, _, rfl, HM.out.1⟩, ?_, ?_⟩⟩
  ·
   exact HF5.out.trans HM.out.2.1 (by intro b hb _; exact hb)
  ·
   intro b hb
   rcases HM.out.2.2 b hb with h | h
   ·
    exact .inl h
   ·
    have := HF5.out.size
    right; omega
 ·
  rw [if_pos (by rfl)]
  refine wp_slice1 55 82 (.tmp 137) rfl i0 _ 4 Tryz.underlying55 hi hz0 hz1 (by decide) (by decide) [.int .u64 (a : Int), .int .u64 (b : Int), .int .u64 (c : Int), .int .u64 (d : Int)] (by kernel_rfl) rfl ?_
  simp only [Act.put]
  refine hK.out _ _ (World.rangeAt_alloc hH _) (fun hH => ?_)
  clear hK K
  have c32 : ((w5).alloc (.cells ([.int .u64 (a : Int), .int .u64 (b : Int), .int .u64 (c : Int), .int .u64 (d : Int)]).toArray 82)).cell? ⟨p, 1, none⟩ = some vt := (World.cell?_alloc_lt _ _ _ HLT.out).trans HC.out
  refine rd1 (i := 4) (by kernel_rfl) rfl (fun K hK => ?_)
  go_simp
  refine hK.out _ _ hH (fun hH => ?_)
  clear hK K c32
  refine rd1 (i := 7) (by kernel_rfl) rfl (fun K hK => ?_)
  refine step_append_lies _ rfl (.tmp 136) (.tmp 138) 55 rfl 0 82 i0 _ 4 32 Tryz.underlying55 hi hz0 hz1 hz2 rfl (by decide) vt S.T.length _ (by kernel_rfl) ((h5.out.trs.drew).alloc _) ⟨w5.heap.size, 0, none⟩ 1 1 [.int .u64 (a : Int), .int .u64 (b : Int), .int .u64 (c : Int), .int .u64 (d : Int)] (by kernel_rfl) rfl hnews.out cs_one (by decide) (le_maxLen (by omega)) (by omega) (Nat.zero_le _) (w5.heap.size + 1) (by simp) ?_
  intro g' cap w9 ho4 hg4 hat hlt4
  have HAP := hid (app_factst h5.out HRX.out HNE.out hg4)
  have hH4 := HAP.out.2.2
  simp only [Act.put]
  refine hK.out _ _ hH4 (fun hH => ?_)
  clear hK K hH4
  refine tk_ (i := 8) (v := .pointer (some ⟨p, 0, none⟩)) rfl (Or.inl ⟨by rfl, fun w' hw' => by clear hw' ; go_simp⟩) hH ?_
  simp only [Act.put]
  refine tk_ (i := 9) (v := .pointer (some ⟨p, 1, none⟩)) rfl (Or.inl ⟨by rfl, fun w' hw' => by clear hw' ; go_simp⟩) hH ?_
  simp only [Act.put]
  have c4 := HAP.out.1.at_ 1 _ rfl
  have f4 := HAP.out.1.frozen 1
  have HO4 := hid ho4
  have HAT := hid hat
  clear ho4 hat hg4
  refine rd1 (i := 10) (by kernel_rfl) rfl (fun K hK => ?_)
  go_simp
  refine hK.out _ _ (fun j v hv => (World.cell?_setCell_far _ _ _ _ HNP.out).trans (hH j v hv)) (fun hH => ?_)
  clear hK K hH
  refine wpAnyH_done (by kernel_rfl) ?_ _
  try simp only [Act.put]
  have HM := hid (h5.out.moreT (X := 57) (x := XN) HAP.out.2.1 (by have h := HO4.out; rw [← HEX.out] at h; exact h) (vend HAT.out) HROOM.out HXN.out)
  clear c4 f4
  generalize (w9.setCell ⟨p, 1, none⟩ (.slice (some ⟨g', 0, none⟩) (S.T.length + 1) cap)) = w10 at *
  go_wp2_with fail
  go_ret
  refine ⟨rfl, ⟨fpG p va (.slice (some ⟨g', 0, none⟩) (S.T.length + 1) cap), ⟨_, _, rfl, HM.out.1⟩, ?_, ?_⟩⟩
  ·
   exact HF5.out.trans HM.out.2.1 (by intro b hb _; exact hb)
  ·
   intro b hb
   rcases HM.out.2.2 b hb with h | h
   ·
    exact .inl h
   ·
    have := HF5.out.size
    right; omega
end
end Go.Proofs.YtgednnjmcjhfmaaGreatDoor
