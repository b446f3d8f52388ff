/-
  The walks of the document's Eight, At, fits, Bytes.
-/
import Derived.Test.YtdcoiehhnllhmaaDoorM12
import Derived.Test.YtdcoiehhnllhmaaDoorM03
import Derived.Test.YtdcoiehhnllhmaaDoorM05
import Derived.Test.YtdcoiehhnllhmaaDoorM10
namespace Go.Proofs.YtdcoiehhnllhmaaDoor
open Go.RowKit
set_option maxRecDepth 10000

theorem rput_eight (W : World) (n B : Nat) (A : Option Addr) (c : Nat) (hn : U64 n) (hr : Rd W B A []) (hB : B ≤ W.heap.size) :
    Calls Tryd.prog 92 #[.slice A 0 c, .int .u64 (n : Int), .int .i64 8] W
    fun e w' => ∃ A c, e = .returned (.tuple #[.slice A 8 c, .int .i64 0]) ∧ Rd w' w'.heap.size A (bvs (le n 8)) ∧ Below W.heap.size W w' := by
  have h := rput_any A [] 0 c n B 8 W hr rfl hB (by omega) (hid hn)
  have e : putS [] n 8 = (le n 8, 0) := by
    unfold putS
    rw [if_pos ⟨by omega, by omega, Nat.div_eq_of_lt (by simpa using hn)⟩]
    rfl
  rw [e] at h
  refine h.mono fun e w' hh => ?_
  obtain ⟨A', c', e1, ho, hb⟩ := BE.len hh (le_len _ _)
  obtain ⟨A2, c2, e2, _, _, hrd⟩ := own_shape ho
  cases e2
  exact ⟨A', c', e1, hrd, hb⟩
set_option maxHeartbeats 400000 in
theorem eight_any (n : Nat) (w : World) (hn : U64 n) : Calls Tryd.prog 69 #[.int .u64 (n : Int)] w (SE w (le n 8)) := by
  have HP := hid (fun W A c B (h1 : Rd W B A []) h2 => rput_eight W n B A c hn h1 h2)
  have HL := hid (le_len 8 n)
  go_enter Tryd.func69, Tryd.ntmps69
  go_wp2_with (first
    | (go_at_call 92; refine (HP.out _ _ _ 0 Rd.nil (Nat.zero_le _)).mono ?_; rintro e w1 ⟨A, c, rfl, hrd, hb⟩)
    | (with_reducible refine wpl_str rfl _ 57 9 rfl 5 Tryd.underlying57 Tryd.underlying5 Tryd.underlying9 A 8 c rfl w1.heap.size (le n 8) ?_ (hid hrd) (hid HL.out.symm)))
  go_ret
  exact ⟨rfl, ((Below.refl _ _).alloc (Nat.le_refl _) _).trans (hb.mono (by simp))⟩
/-- the number at i -/
def at8 (bs : List UInt8) (i : Nat) : Nat := leV ((bs.drop i).take 8)
theorem takeS_eight (bs : List UInt8) (i : Nat) (h : i + 8 ≤ bs.length) : takeS bs i 8 = (at8 bs i, 0) := by
  unfold takeS
  rw [if_neg (by omega), if_neg (by omega)]
  rfl
set_option maxHeartbeats 400000 in
theorem at_any (s : ByteArray) (i : Nat) (w : World) (h : i + 8 ≤ s.size) (hs : s.size ≤ 140737488355328) :
    Calls Tryd.prog 51 #[.string s, .int .i64 (i : Int)] w (VE w (.int .u64 (at8 (sb s) i : Int))) := by
  have HP := hid (fun W A c B (hr : Rd W B A (bvs (sb s))) => by
    have := rtake_any A (sb s) s.size c B i 8 W hr (sb_len s).symm hs
    rw [takeS_eight (sb s) i (by rw [sb_len]; exact h)] at this
    exact this)
  generalize at8 (sb s) i = x at HP
  go_enter Tryd.func51, Tryd.ntmps51
  go_wp2_with (first
    | (with_reducible refine wpl_bytes rfl _ _ _ rfl 5 Tryd.underlying9 Tryd.underlying57 Tryd.underlying5 s rfl ?_; intro g c k0 w1 HG HC HR HB)
    | (go_at_call 80; refine (HP.out w1 _ c (g + 1) (by
        have := (HR.rd (B := g + 1) (by omega)).take (bvs (sb s)).length
        rwa [List.take_left] at this)).mono ?_; rintro e w2 ⟨rfl, hb2⟩))
  go_ret
  exact ⟨rfl, HB.trans (hb2.mono HB.size)⟩
theorem cat_size (a b : ByteArray) : (a ++ b).size = a.size + b.size := ByteArray.size_append
/-- the document's Eight, its text a variable -/
theorem eight_of (n : Nat) (x : Int) (hx : (n : Int) = x) (hn : U64 n) (W : World) : Calls Tryd.prog 69 #[.int .u64 x] W fun e w' => e = .returned (.string ⟨(le n 8).toArray⟩) ∧ Below W.heap.size W w' := by
  subst hx
  exact eight_any n W hn
theorem fits12_any (n l : Int) (b : Bool) (w : World) (h : b = f9 n l) : Calls Tryd.prog 68 #[.int .i64 n, .int .i64 l] w fun e w' => e = .returned (.bool b) ∧ w = w' := by
  subst h
  unfold f9
  by_cases h0 : l ≤ n
  · by_cases h1 : n ≤ 72057594037927935
    · go_enter Tryd.func68, Tryd.ntmps68
      go_wp2
      go_ret
      exact ⟨by simp [h0, h1], rfl⟩
    · go_enter Tryd.func68, Tryd.ntmps68
      go_wp2
      go_ret
      exact ⟨by simp [h1], rfl⟩
  · have h2 : decide (l ≤ n) = false := by simp; omega
    go_enter Tryd.func68, Tryd.ntmps68
    go_wp2
    go_ret
    exact ⟨by first | (simp; done) | (simp; omega), rfl⟩
/-- what Bytes answers -/
def bytesS (s : St) : List UInt8 × Bool := if SRt s then (s.bytes, true) else ([], false)
set_option maxHeartbeats 1000000 in
theorem rbytes_1 (opn view under : Int) (parent sum : Nat) (w : World) (H1 : Hid (∀ W, Calls Tryd.prog 68 #[.int .i64 opn, .int .i64 1] W fun e w' => e = .returned (.bool false) ∧ W = w')) :
    Calls Tryd.prog 41 #[.agg #[.int .i64 opn, .int .i64 view, .int .i64 under, .int .u64 (parent : Int), .int .u64 (sum : Int)]] w fun e w' => e = .returned (.tuple #[.string ⟨#[]⟩, .bool false]) ∧ Below w.heap.size w w' := by
  go_enter Tryd.func41, Tryd.ntmps41
  go_wp2_with (first
    | (go_at_call 68; refine (H1.out _).mono ?_; rintro e w' ⟨rfl, rfl⟩; clear H1))
  go_ret2
  exact ⟨rfl, (Below.refl _ _).alloc (Nat.le_refl _) _⟩
set_option maxHeartbeats 1000000 in
theorem rbytes_2 (opn view under : Int) (parent sum : Nat) (w : World) (H1 : Hid (∀ W, Calls Tryd.prog 68 #[.int .i64 opn, .int .i64 1] W fun e w' => e = .returned (.bool true) ∧ W = w')) (H2 : Hid (∀ W, Calls Tryd.prog 68 #[.int .i64 view, .int .i64 0] W fun e w' => e = .returned (.bool false) ∧ W = w')) :
    Calls Tryd.prog 41 #[.agg #[.int .i64 opn, .int .i64 view, .int .i64 under, .int .u64 (parent : Int), .int .u64 (sum : Int)]] w fun e w' => e = .returned (.tuple #[.string ⟨#[]⟩, .bool false]) ∧ Below w.heap.size w w' := by
  go_enter Tryd.func41, Tryd.ntmps41
  go_wp2_with (first
    | (go_at_call 68; refine (H1.out _).mono ?_; rintro e w' ⟨rfl, rfl⟩; clear H1)
    | (go_at_call 68; refine (H2.out _).mono ?_; rintro e w' ⟨rfl, rfl⟩; clear H2))
  go_ret2
  exact ⟨rfl, (Below.refl _ _).alloc (Nat.le_refl _) _⟩
set_option maxHeartbeats 1000000 in
theorem rbytes_3 (opn view under : Int) (parent sum : Nat) (w : World) (H1 : Hid (∀ W, Calls Tryd.prog 68 #[.int .i64 opn, .int .i64 1] W fun e w' => e = .returned (.bool true) ∧ W = w')) (H2 : Hid (∀ W, Calls Tryd.prog 68 #[.int .i64 view, .int .i64 0] W fun e w' => e = .returned (.bool true) ∧ W = w')) (H3 : Hid (∀ W, Calls Tryd.prog 68 #[.int .i64 under, .int .i64 0] W fun e w' => e = .returned (.bool false) ∧ W = w')) :
    Calls Tryd.prog 41 #[.agg #[.int .i64 opn, .int .i64 view, .int .i64 under, .int .u64 (parent : Int), .int .u64 (sum : Int)]] w fun e w' => e = .returned (.tuple #[.string ⟨#[]⟩, .bool false]) ∧ Below w.heap.size w w' := by
  go_enter Tryd.func41, Tryd.ntmps41
  go_wp2_with (first
    | (go_at_call 68; refine (H1.out _).mono ?_; rintro e w' ⟨rfl, rfl⟩; clear H1)
    | (go_at_call 68; refine (H2.out _).mono ?_; rintro e w' ⟨rfl, rfl⟩; clear H2)
    | (go_at_call 68; refine (H3.out _).mono ?_; rintro e w' ⟨rfl, rfl⟩; clear H3))
  go_ret2
  exact ⟨rfl, (Below.refl _ _).alloc (Nat.le_refl _) _⟩
set_option maxHeartbeats 1000000 in
theorem rbytes_4 (opn view under : Int) (parent sum : Nat) (w : World) (H1 : Hid (∀ W, Calls Tryd.prog 68 #[.int .i64 opn, .int .i64 1] W fun e w' => e = .returned (.bool true) ∧ W = w')) (H2 : Hid (∀ W, Calls Tryd.prog 68 #[.int .i64 view, .int .i64 0] W fun e w' => e = .returned (.bool true) ∧ W = w')) (H3 : Hid (∀ W, Calls Tryd.prog 68 #[.int .i64 under, .int .i64 0] W fun e w' => e = .returned (.bool true) ∧ W = w')) (h4 : view < under) :
    Calls Tryd.prog 41 #[.agg #[.int .i64 opn, .int .i64 view, .int .i64 under, .int .u64 (parent : Int), .int .u64 (sum : Int)]] w fun e w' => e = .returned (.tuple #[.string ⟨#[]⟩, .bool false]) ∧ Below w.heap.size w w' := by
  go_enter Tryd.func41, Tryd.ntmps41
  go_wp2_with (first
    | (go_at_call 68; refine (H1.out _).mono ?_; rintro e w' ⟨rfl, rfl⟩; clear H1)
    | (go_at_call 68; refine (H2.out _).mono ?_; rintro e w' ⟨rfl, rfl⟩; clear H2)
    | (go_at_call 68; refine (H3.out _).mono ?_; rintro e w' ⟨rfl, rfl⟩; clear H3))
  go_ret2
  exact ⟨rfl, (Below.refl _ _).alloc (Nat.le_refl _) _⟩
set_option maxHeartbeats 2000000 in
theorem rbytes_yes (opn view under : Int) (parent sum : Nat) (BS B0 B1 B2 B3 B4 : ByteArray) (w : World) (H1 : Hid (∀ W, Calls Tryd.prog 68 #[.int .i64 opn, .int .i64 1] W fun e w' => e = .returned (.bool true) ∧ W = w')) (H2 : Hid (∀ W, Calls Tryd.prog 68 #[.int .i64 view, .int .i64 0] W fun e w' => e = .returned (.bool true) ∧ W = w')) (H3 : Hid (∀ W, Calls Tryd.prog 68 #[.int .i64 under, .int .i64 0] W fun e w' => e = .returned (.bool true) ∧ W = w')) (h4 : ¬ view < under)
    (HE0 : Hid (∀ W, Calls Tryd.prog 69 #[.int .u64 (IntKind.u64.wrap opn)] W fun e w' => e = .returned (.string B0) ∧ Below W.heap.size W w'))
    (HE1 : Hid (∀ W, Calls Tryd.prog 69 #[.int .u64 (IntKind.u64.wrap view)] W fun e w' => e = .returned (.string B1) ∧ Below W.heap.size W w'))
    (HE2 : Hid (∀ W, Calls Tryd.prog 69 #[.int .u64 (IntKind.u64.wrap under)] W fun e w' => e = .returned (.string B2) ∧ Below W.heap.size W w'))
    (HE3 : Hid (∀ W, Calls Tryd.prog 69 #[.int .u64 (parent : Int)] W fun e w' => e = .returned (.string B3) ∧ Below W.heap.size W w'))
    (HE4 : Hid (∀ W, Calls Tryd.prog 69 #[.int .u64 (sum : Int)] W fun e w' => e = .returned (.string B4) ∧ Below W.heap.size W w'))
    (HX : Hid (B0 ++ B1 ++ B2 ++ B3 ++ B4 = BS)) (HZ : Hid (B0.size = 8 ∧ B1.size = 8 ∧ B2.size = 8 ∧ B3.size = 8 ∧ B4.size = 8)) :
    Calls Tryd.prog 41 #[.agg #[.int .i64 opn, .int .i64 view, .int .i64 under, .int .u64 (parent : Int), .int .u64 (sum : Int)]] w fun e w' => e = .returned (.tuple #[.string BS, .bool true]) ∧ Below w.heap.size w w' := by
  have HRW : Hid (Row (w.alloc (.cells #[.int .i64 opn, .int .i64 view, .int .i64 under, .int .u64 (parent : Int), .int .u64 (sum : Int)] 26)) w.heap.size 26 (#[.int .i64 opn, .int .i64 view, .int .i64 under, .int .u64 (parent : Int), .int .u64 (sum : Int)] : Array Value).toList) := hid (Row.new _ _ _)
  have HB0 := hid ((Below.refl w.heap.size w).alloc (Nat.le_refl _) (.cells #[.int .i64 opn, .int .i64 view, .int .i64 under, .int .u64 (parent : Int), .int .u64 (sum : Int)] 26))
  have HC : Hid (∀ j v, (#[.int .i64 opn, .int .i64 view, .int .i64 under, .int .u64 (parent : Int), .int .u64 (sum : Int)] : Array Value).toList[j]? = some v → ∀ W, Below (w.alloc (.cells #[.int .i64 opn, .int .i64 view, .int .i64 under, .int .u64 (parent : Int), .int .u64 (sum : Int)] 26)).heap.size (w.alloc (.cells #[.int .i64 opn, .int .i64 view, .int .i64 under, .int .u64 (parent : Int), .int .u64 (sum : Int)] 26)) W → W.cell? ⟨w.heap.size, j, none⟩ = some v) := hid fun j v hv W hW => by
    rw [(HRW.out.below hW HRW.out.lt).cell]
    exact hv
  have HC0 := hid (HC.out 0 _ rfl)
  have HC1 := hid (HC.out 1 _ rfl)
  have HC2 := hid (HC.out 2 _ rfl)
  have HC3 := hid (HC.out 3 _ rfl)
  have HC4 := hid (HC.out 4 _ rfl)
  clear HC
  have hnl : decide (view < under) = false := by simpa using h4
  clear h4
  obtain ⟨W0, hW0⟩ : ∃ W0, W0 = w.alloc (.cells #[.int .i64 opn, .int .i64 view, .int .i64 under, .int .u64 (parent : Int), .int .u64 (sum : Int)] 26) := ⟨_, rfl⟩
  rw [← hW0] at HRW HB0 HC0 HC1 HC2 HC3 HC4
  have HW0 := hid hW0
  clear hW0
  go_enter Tryd.func41, Tryd.ntmps41
  go_wp2_with (first
    | (go_at_call 68; refine (H1.out _).mono ?_; rintro e w' ⟨rfl, rfl⟩; clear H1)
    | (go_at_call 68; refine (H2.out _).mono ?_; rintro e w' ⟨rfl, rfl⟩; clear H2)
    | (go_at_call 68; refine (H3.out _).mono ?_; rintro e w' ⟨rfl, rfl⟩; clear H3))
  rw [← HW0.out]
  clear HRW
  obtain ⟨z0, z1, z2, z3, z4⟩ := HZ.out
  have hq2 : ¬ (9223372036854775807 < B0.size + B1.size) := by omega
  have hq3 : ¬ (9223372036854775807 < B0.size + B1.size + B2.size) := by omega
  have hq4 : ¬ (9223372036854775807 < B0.size + B1.size + B2.size + B3.size) := by omega
  have hq5 : ¬ (9223372036854775807 < B0.size + B1.size + B2.size + B3.size + B4.size) := by omega
  clear z0 z1 z2 z3 z4
  refine wp_region_held_drew (S := fun W => Below W0.heap.size W0 W) (by kernel_rfl) ((Below.refl _ _).drew) (fun hH => ?_)
  refine wpAnyH_take (i := 0) (v := .pointer (some ⟨w.heap.size, 0, none⟩)) rfl (by kernel_rfl) (by kernel_rfl) (by kernel_rfl) (fun _ _ _ h => h) (Or.inl ⟨by rfl, fun w' hw' => by clear hw'; go_simp⟩) hH ?_
  simp only [Act.put]
  refine wpAnyH_take (i := 1) (v := .int .i64 opn) rfl (by kernel_rfl) (by kernel_rfl) (by kernel_rfl) (fun _ _ _ h => h) (Or.inl ⟨by rfl, fun w' hw' => by have h := HC0.out w' hw'; go_simp⟩) hH ?_
  simp only [Act.put]
  refine wpAnyH_take (i := 2) (v := .int .u64 (IntKind.u64.wrap opn)) rfl (by kernel_rfl) (by kernel_rfl) (by kernel_rfl) (fun _ _ _ h => h) (Or.inl ⟨by rfl, fun w' hw' => by clear hw'; go_simp⟩) hH ?_
  simp only [Act.put]
  refine wpAnyH_take (i := 4) (v := .pointer (some ⟨w.heap.size, 1, none⟩)) rfl (by kernel_rfl) (by kernel_rfl) (by kernel_rfl) (fun _ _ _ h => h) (Or.inl ⟨by rfl, fun w' hw' => by clear hw'; go_simp⟩) hH ?_
  simp only [Act.put]
  refine wpAnyH_take (i := 5) (v := .int .i64 view) rfl (by kernel_rfl) (by kernel_rfl) (by kernel_rfl) (fun _ _ _ h => h) (Or.inl ⟨by rfl, fun w' hw' => by have h := HC1.out w' hw'; go_simp⟩) hH ?_
  simp only [Act.put]
  refine wpAnyH_take (i := 6) (v := .int .u64 (IntKind.u64.wrap view)) rfl (by kernel_rfl) (by kernel_rfl) (by kernel_rfl) (fun _ _ _ h => h) (Or.inl ⟨by rfl, fun w' hw' => by clear hw'; go_simp⟩) hH ?_
  simp only [Act.put]
  refine wpAnyH_take (i := 9) (v := .pointer (some ⟨w.heap.size, 2, none⟩)) rfl (by kernel_rfl) (by kernel_rfl) (by kernel_rfl) (fun _ _ _ h => h) (Or.inl ⟨by rfl, fun w' hw' => by clear hw'; go_simp⟩) hH ?_
  simp only [Act.put]
  refine wpAnyH_take (i := 10) (v := .int .i64 under) rfl (by kernel_rfl) (by kernel_rfl) (by kernel_rfl) (fun _ _ _ h => h) (Or.inl ⟨by rfl, fun w' hw' => by have h := HC2.out w' hw'; go_simp⟩) hH ?_
  simp only [Act.put]
  refine wpAnyH_take (i := 11) (v := .int .u64 (IntKind.u64.wrap under)) rfl (by kernel_rfl) (by kernel_rfl) (by kernel_rfl) (fun _ _ _ h => h) (Or.inl ⟨by rfl, fun w' hw' => by clear hw'; go_simp⟩) hH ?_
  simp only [Act.put]
  refine wpAnyH_take (i := 14) (v := .pointer (some ⟨w.heap.size, 3, none⟩)) rfl (by kernel_rfl) (by kernel_rfl) (by kernel_rfl) (fun _ _ _ h => h) (Or.inl ⟨by rfl, fun w' hw' => by clear hw'; go_simp⟩) hH ?_
  simp only [Act.put]
  refine wpAnyH_take (i := 15) (v := .int .u64 (parent : Int)) rfl (by kernel_rfl) (by kernel_rfl) (by kernel_rfl) (fun _ _ _ h => h) (Or.inl ⟨by rfl, fun w' hw' => by have h := HC3.out w' hw'; go_simp⟩) hH ?_
  simp only [Act.put]
  refine wpAnyH_take (i := 18) (v := .pointer (some ⟨w.heap.size, 4, none⟩)) rfl (by kernel_rfl) (by kernel_rfl) (by kernel_rfl) (fun _ _ _ h => h) (Or.inl ⟨by rfl, fun w' hw' => by clear hw'; go_simp⟩) hH ?_
  simp only [Act.put]
  refine wpAnyH_take (i := 19) (v := .int .u64 (sum : Int)) rfl (by kernel_rfl) (by kernel_rfl) (by kernel_rfl) (fun _ _ _ h => h) (Or.inl ⟨by rfl, fun w' hw' => by have h := HC4.out w' hw'; go_simp⟩) hH ?_
  simp only [Act.put]
  refine wpAnyH_ready (rs := [3]) (by kernel_rfl) (by simp) ?_
  refine AllReadyH.cons rfl (fun K hK => ?_) AllReadyH.nil
  go_simp
  go_at_call 69
  refine (HE0.out _).mono ?_
  rintro e w2 ⟨rfl, hb2⟩
  go_wp2_with fail
  refine hK.out _ _ (hH.trans (hb2.mono hH.size)) (fun hH => ?_)
  clear hK K
  try simp only [Act.put]
  refine wpAnyH_ready (rs := [7]) (by kernel_rfl) (by simp) ?_
  refine AllReadyH.cons rfl (fun K hK => ?_) AllReadyH.nil
  go_simp
  go_at_call 69
  refine (HE1.out _).mono ?_
  rintro e w3 ⟨rfl, hb3⟩
  go_wp2_with fail
  refine hK.out _ _ (hH.trans (hb3.mono hH.size)) (fun hH => ?_)
  clear hK K
  try simp only [Act.put]
  refine wpAnyH_take (i := 8) (v := .string (B0 ++ B1)) rfl (by kernel_rfl) (by kernel_rfl) (by kernel_rfl) (fun _ _ _ h => h) (Or.inl ⟨by rfl, fun w' hw' => by clear hw'; go_simp⟩) hH ?_
  simp only [Act.put]
  refine wpAnyH_ready (rs := [12]) (by kernel_rfl) (by simp) ?_
  refine AllReadyH.cons rfl (fun K hK => ?_) AllReadyH.nil
  go_simp
  go_at_call 69
  refine (HE2.out _).mono ?_
  rintro e w4 ⟨rfl, hb4⟩
  go_wp2_with fail
  refine hK.out _ _ (hH.trans (hb4.mono hH.size)) (fun hH => ?_)
  clear hK K
  try simp only [Act.put]
  refine wpAnyH_take (i := 13) (v := .string (B0 ++ B1 ++ B2)) rfl (by kernel_rfl) (by kernel_rfl) (by kernel_rfl) (fun _ _ _ h => h) (Or.inl ⟨by rfl, fun w' hw' => by clear hw'; go_simp⟩) hH ?_
  simp only [Act.put]
  refine wpAnyH_ready (rs := [16]) (by kernel_rfl) (by simp) ?_
  refine AllReadyH.cons rfl (fun K hK => ?_) AllReadyH.nil
  go_simp
  go_at_call 69
  refine (HE3.out _).mono ?_
  rintro e w5 ⟨rfl, hb5⟩
  go_wp2_with fail
  refine hK.out _ _ (hH.trans (hb5.mono hH.size)) (fun hH => ?_)
  clear hK K
  try simp only [Act.put]
  refine wpAnyH_take (i := 17) (v := .string (B0 ++ B1 ++ B2 ++ B3)) rfl (by kernel_rfl) (by kernel_rfl) (by kernel_rfl) (fun _ _ _ h => h) (Or.inl ⟨by rfl, fun w' hw' => by clear hw'; go_simp⟩) hH ?_
  simp only [Act.put]
  refine wpAnyH_ready (rs := [20]) (by kernel_rfl) (by simp) ?_
  refine AllReadyH.cons rfl (fun K hK => ?_) AllReadyH.nil
  go_simp
  go_at_call 69
  refine (HE4.out _).mono ?_
  rintro e w6 ⟨rfl, hb6⟩
  go_wp2_with fail
  refine hK.out _ _ (hH.trans (hb6.mono hH.size)) (fun hH => ?_)
  clear hK K
  try simp only [Act.put]
  refine wpAnyH_take (i := 21) (v := .string (B0 ++ B1 ++ B2 ++ B3 ++ B4)) rfl (by kernel_rfl) (by kernel_rfl) (by kernel_rfl) (fun _ _ _ h => h) (Or.inl ⟨by rfl, fun w' hw' => by clear hw'; go_simp⟩) hH ?_
  simp only [Act.put]
  refine wpAnyH_ready (rs := [22]) (by kernel_rfl) (by simp) ?_
  refine AllReadyH.cons rfl (fun K hK => ?_) AllReadyH.nil
  go_simp
  refine hK.out _ _ (hH) (fun hH => ?_)
  clear hK K
  try simp only [Act.put]
  refine wpAnyH_ready (rs := [23]) (by kernel_rfl) (by simp) ?_
  refine AllReadyH.cons rfl (fun K hK => ?_) AllReadyH.nil
  go_simp
  refine hK.out _ _ (hH) (fun hH => ?_)
  clear hK K
  try simp only [Act.put]
  refine wpAnyH_done (by kernel_rfl) ?_ _
  try simp only [Act.put]
  go_wp2_with fail
  rw [HX.out]
  go_ret2
  exact ⟨rfl, HB0.out.trans (hH.mono HB0.out.size)⟩
theorem srt_f9 (s : St) : SRt s ↔ f9 s.opn 1 = true ∧ f9 s.view 0 = true ∧ f9 s.under 0 = true ∧ ¬ s.view < s.under := by
  unfold SRt f9
  simp only [decide_eq_true_eq]
  omega
theorem rbyT_any (s : St) (hf : s.fits) (w : World) : Calls Tryd.prog 41 #[s.val] w fun e w' => e = .returned (.tuple #[.string ⟨(bytesS s).1.toArray⟩, .bool (bytesS s).2]) ∧ Below w.heap.size w w' := by
  have H1 := hid (fun W => fits12_any s.opn 1 _ W rfl)
  have H2 := hid (fun W => fits12_any s.view 0 _ W rfl)
  have H3 := hid (fun W => fits12_any s.under 0 _ W rfl)
  have hi := srt_f9 s
  obtain ⟨opn, view, under, parent, sum⟩ := s
  simp only at H1 H2 H3 hi
  by_cases h : SRt ⟨opn, view, under, parent, sum⟩
  · obtain ⟨a1, a2, a3, a4⟩ := hi.1 h
    rw [a1] at H1
    rw [a2] at H2
    rw [a3] at H3
    have e : bytesS ⟨opn, view, under, parent, sum⟩ = (le (un opn) 8 ++ le (un view) 8 ++ le (un under) 8 ++ le parent 8 ++ le sum 8, true) := by
      unfold bytesS
      rw [if_pos h]
      simp [St.bytes, St.nums, nb]
    rw [e]
    obtain ⟨-, h4, h5⟩ := hf
    refine rbytes_yes opn view under parent sum _ ⟨(le (un opn) 8).toArray⟩ ⟨(le (un view) 8).toArray⟩ ⟨(le (un under) 8).toArray⟩ ⟨(le parent 8).toArray⟩ ⟨(le sum 8).toArray⟩ w H1 H2 H3 a4 (hid fun W => eight_of _ _ (un_wrap opn).symm (un_lt _) W) (hid fun W => eight_of _ _ (un_wrap view).symm (un_lt _) W) (hid fun W => eight_of _ _ (un_wrap under).symm (un_lt _) W) (hid fun W => eight_of _ _ rfl h4 W) (hid fun W => eight_of _ _ rfl h5 W) (hid ?_) (hid ?_)
    · rw [cat_mk, cat_mk, cat_mk, cat_mk]
    · have hs : ∀ n, (⟨(le n 8).toArray⟩ : ByteArray).size = 8 := fun n => by
        rw [← sb_len, sb_mk, le_len]
      exact ⟨hs _, hs _, hs _, hs _, hs _⟩
  · have e : bytesS ⟨opn, view, under, parent, sum⟩ = ([], false) := if_neg h
    rw [e]
    by_cases a1 : f9 opn 1 = true
    · rw [a1] at H1
      by_cases a2 : f9 view 0 = true
      · rw [a2] at H2
        by_cases a3 : f9 under 0 = true
        · rw [a3] at H3
          exact rbytes_4 opn view under parent sum w H1 H2 H3 (Decidable.not_not.1 fun a4 => h (hi.2 ⟨a1, a2, a3, a4⟩))
        · rw [Bool.eq_false_iff.2 a3] at H3
          exact rbytes_3 opn view under parent sum w H1 H2 H3
      · rw [Bool.eq_false_iff.2 a2] at H2
        exact rbytes_2 opn view under parent sum w H1 H2
    · rw [Bool.eq_false_iff.2 a1] at H1
      exact rbytes_1 opn view under parent sum w H1
end Go.Proofs.YtdcoiehhnllhmaaDoor
/-
  The walks of Prepare, Header, Void, package slot's and the document's.
-/
namespace Go.Proofs.YtdcoiehhnllhmaaDoor
open Go.RowKit
set_option maxRecDepth 10000

theorem sprep_no (C : Array Value) (old : ByteArray) (T : List UInt8) (f : Int) (w : World) (hf : Fd w) (HSZ : Hid (C.size = 9)) (h0 : (f != 0) = true)
    (HP : Hid (∀ W : World, Fd W → Calls Tryd.prog 36 #[.agg C] W fun e w' => e = .returned (.tuple #[.string ⟨T.toArray⟩, .int .i64 f]) ∧ Below W.heap.size W w')) :
    Calls Tryd.prog 12 #[.string old, .agg C] w (SN w ([], f)) := by
  have HZS := hid esize
  have HFd := hid hf
  clear hf
  go_enter Tryd.func12, Tryd.ntmps12
  go_wp2_with (first
    | (refine wpList_load_row rfl 24 (.tmp 3) rfl w.heap.size rfl 24 C (0, 0) _ (heap_alloc_new _ _) Tryd.underlying24 rfl (by rw [HSZ.out]; exact HZS.out) ?_)
    | (go_at_call 36; refine (HP.out _ (HFd.out.below ((Below.refl w.heap.size w).alloc (Nat.le_refl _) _) HFd.out.1)).mono ?_; rintro e w1 ⟨rfl, hb1⟩))
  go_ret2
  exact ⟨rfl, ((Below.refl _ _).alloc (Nat.le_refl _) _).trans (hb1.mono (by simp))⟩
theorem sprep_yes (C : Array Value) (old : ByteArray) (T : List UInt8) (r : List UInt8 × Int) (w : World) (hf : Fd w) (HSZ : Hid (C.size = 9))
    (HP : Hid (∀ W : World, Fd W → Calls Tryd.prog 36 #[.agg C] W fun e w' => e = .returned (.tuple #[.string ⟨T.toArray⟩, .int .i64 0]) ∧ Below W.heap.size W w'))
    (HS : Hid (∀ W : World, Calls Tryd.prog 37 #[.string old, .string ⟨T.toArray⟩] W (SN W r))) :
    Calls Tryd.prog 12 #[.string old, .agg C] w (SN w r) := by
  have HZS := hid esize
  have HFd := hid hf
  clear hf
  go_enter Tryd.func12, Tryd.ntmps12
  go_wp2_with (first
    | (refine wpList_load_row rfl 24 (.tmp 3) rfl w.heap.size rfl 24 C (0, 0) _ (heap_alloc_new _ _) Tryd.underlying24 rfl (by rw [HSZ.out]; exact HZS.out) ?_)
    | (go_at_call 36; refine (HP.out _ (HFd.out.below ((Below.refl w.heap.size w).alloc (Nat.le_refl _) _) HFd.out.1)).mono ?_; rintro e w1 ⟨rfl, hb1⟩)
    | (go_at_call 37; refine (HS.out _).mono ?_; rintro e w2 ⟨rfl, hb2⟩))
  go_ret2
  exact ⟨rfl, (((Below.refl _ _).alloc (Nat.le_refl _) _).trans (hb1.mono (by simp))).trans (hb2.mono (by have := hb1.size; simp at this; omega))⟩
theorem rprep_no (C : Array Value) (old : ByteArray) (T : List UInt8) (f : Int) (w : World) (HSZ : Hid (C.size = 9)) (h0 : (f != 0) = true)
    (HP : Hid (∀ W : World, Calls Tryd.prog 38 #[.agg C] W fun e w' => e = .returned (.tuple #[.string ⟨T.toArray⟩, .int .i64 f]) ∧ Below W.heap.size W w')) :
    Calls Tryd.prog 13 #[.string old, .agg C] w (SN w ([], f)) := by
  have HZS := hid esize
  go_enter Tryd.func13, Tryd.ntmps13
  go_wp2_with (first
    | (refine wpList_load_row rfl 24 (.tmp 3) rfl w.heap.size rfl 24 C (0, 0) _ (heap_alloc_new _ _) Tryd.underlying24 rfl (by rw [HSZ.out]; exact HZS.out) ?_)
    | (go_at_call 38; refine (HP.out _).mono ?_; rintro e w1 ⟨rfl, hb1⟩))
  go_ret2
  exact ⟨rfl, ((Below.refl _ _).alloc (Nat.le_refl _) _).trans (hb1.mono (by simp))⟩
theorem rprep_yes (C : Array Value) (old : ByteArray) (T : List UInt8) (r : List UInt8 × Int) (w : World) (HSZ : Hid (C.size = 9))
    (HP : Hid (∀ W : World, Calls Tryd.prog 38 #[.agg C] W fun e w' => e = .returned (.tuple #[.string ⟨T.toArray⟩, .int .i64 0]) ∧ Below W.heap.size W w'))
    (HS : Hid (∀ W : World, Calls Tryd.prog 39 #[.string old, .string ⟨T.toArray⟩] W (SN W r))) :
    Calls Tryd.prog 13 #[.string old, .agg C] w (SN w r) := by
  have HZS := hid esize
  go_enter Tryd.func13, Tryd.ntmps13
  go_wp2_with (first
    | (refine wpList_load_row rfl 24 (.tmp 3) rfl w.heap.size rfl 24 C (0, 0) _ (heap_alloc_new _ _) Tryd.underlying24 rfl (by rw [HSZ.out]; exact HZS.out) ?_)
    | (go_at_call 38; refine (HP.out _).mono ?_; rintro e w1 ⟨rfl, hb1⟩)
    | (go_at_call 39; refine (HS.out _).mono ?_; rintro e w2 ⟨rfl, hb2⟩))
  go_ret2
  exact ⟨rfl, (((Below.refl _ _).alloc (Nat.le_refl _) _).trans (hb1.mono (by simp))).trans (hb2.mono (by have := hb1.size; simp at this; omega))⟩
theorem shdr_no (C : Array Value) (old : ByteArray) (T : List UInt8)  (w : World) (HSZ : Hid (C.size = 5)) 
    (HP : Hid (∀ W : World, Calls Tryd.prog 40 #[.agg C] W fun e w' => e = .returned (.tuple #[.string ⟨T.toArray⟩, .int .i64 4]) ∧ Below W.heap.size W w')) :
    Calls Tryd.prog 14 #[.string old, .agg C] w (SN w ([], 4)) := by
  have HZS := hid stsize
  go_enter Tryd.func14, Tryd.ntmps14
  go_wp2_with (first
    | (refine wpList_load_row rfl 26 (.tmp 3) rfl w.heap.size rfl 26 C (0, 0) _ (heap_alloc_new _ _) Tryd.underlying26 rfl (by rw [HSZ.out]; exact HZS.out) ?_)
    | (go_at_call 40; refine (HP.out _).mono ?_; rintro e w1 ⟨rfl, hb1⟩))
  go_ret2
  exact ⟨rfl, ((Below.refl _ _).alloc (Nat.le_refl _) _).trans (hb1.mono (by simp))⟩
theorem shdr_yes (C : Array Value) (old : ByteArray) (T : List UInt8) (r : List UInt8 × Int) (w : World) (HSZ : Hid (C.size = 5))
    (HP : Hid (∀ W : World, Calls Tryd.prog 40 #[.agg C] W fun e w' => e = .returned (.tuple #[.string ⟨T.toArray⟩, .int .i64 0]) ∧ Below W.heap.size W w'))
    (HS : Hid (∀ W : World, Calls Tryd.prog 37 #[.string old, .string ⟨T.toArray⟩] W (SN W r))) :
    Calls Tryd.prog 14 #[.string old, .agg C] w (SN w r) := by
  have HZS := hid stsize
  go_enter Tryd.func14, Tryd.ntmps14
  go_wp2_with (first
    | (refine wpList_load_row rfl 26 (.tmp 3) rfl w.heap.size rfl 26 C (0, 0) _ (heap_alloc_new _ _) Tryd.underlying26 rfl (by rw [HSZ.out]; exact HZS.out) ?_)
    | (go_at_call 40; refine (HP.out _).mono ?_; rintro e w1 ⟨rfl, hb1⟩)
    | (go_at_call 37; refine (HS.out _).mono ?_; rintro e w2 ⟨rfl, hb2⟩))
  go_ret2
  exact ⟨rfl, (((Below.refl _ _).alloc (Nat.le_refl _) _).trans (hb1.mono (by simp))).trans (hb2.mono (by have := hb1.size; simp at this; omega))⟩
theorem rhdr_no (C : Array Value) (old : ByteArray) (T : List UInt8)  (w : World) (HSZ : Hid (C.size = 5)) 
    (HP : Hid (∀ W : World, Calls Tryd.prog 41 #[.agg C] W fun e w' => e = .returned (.tuple #[.string ⟨T.toArray⟩, .bool false]) ∧ Below W.heap.size W w')) :
    Calls Tryd.prog 15 #[.string old, .agg C] w (SN w ([], 4)) := by
  have HZS := hid stsize
  go_enter Tryd.func15, Tryd.ntmps15
  go_wp2_with (first
    | (refine wpList_load_row rfl 26 (.tmp 3) rfl w.heap.size rfl 26 C (0, 0) _ (heap_alloc_new _ _) Tryd.underlying26 rfl (by rw [HSZ.out]; exact HZS.out) ?_)
    | (go_at_call 41; refine (HP.out _).mono ?_; rintro e w1 ⟨rfl, hb1⟩))
  go_ret2
  exact ⟨rfl, ((Below.refl _ _).alloc (Nat.le_refl _) _).trans (hb1.mono (by simp))⟩
theorem rhdr_yes (C : Array Value) (old : ByteArray) (T : List UInt8) (r : List UInt8 × Int) (w : World) (HSZ : Hid (C.size = 5))
    (HP : Hid (∀ W : World, Calls Tryd.prog 41 #[.agg C] W fun e w' => e = .returned (.tuple #[.string ⟨T.toArray⟩, .bool true]) ∧ Below W.heap.size W w'))
    (HS : Hid (∀ W : World, Calls Tryd.prog 39 #[.string old, .string ⟨T.toArray⟩] W (SN W r))) :
    Calls Tryd.prog 15 #[.string old, .agg C] w (SN w r) := by
  have HZS := hid stsize
  go_enter Tryd.func15, Tryd.ntmps15
  go_wp2_with (first
    | (refine wpList_load_row rfl 26 (.tmp 3) rfl w.heap.size rfl 26 C (0, 0) _ (heap_alloc_new _ _) Tryd.underlying26 rfl (by rw [HSZ.out]; exact HZS.out) ?_)
    | (go_at_call 41; refine (HP.out _).mono ?_; rintro e w1 ⟨rfl, hb1⟩)
    | (go_at_call 39; refine (HS.out _).mono ?_; rintro e w2 ⟨rfl, hb2⟩))
  go_ret2
  exact ⟨rfl, (((Below.refl _ _).alloc (Nat.le_refl _) _).trans (hb1.mono (by simp))).trans (hb2.mono (by have := hb1.size; simp at this; omega))⟩
theorem sprep_any (old : ByteArray) (e : En) (hold : old.size ≤ 1125899906842624) (w : World) (hf : Fd w) : Calls Tryd.prog 12 #[.string old, e.val] w (SN w (prepS (sb old) e)) := by
  have HSZ : Hid (e.cells.size = 9) := hid rfl
  have HP := hid (fun (W : World) (hW : Fd W) => epack_any e W hW)
  unfold prepS
  by_cases h0 : (packE e).2 = 0
  · rw [if_pos h0]
    have HS := hid (fun W => seal_calls old ⟨(packE e).1.toArray⟩ W hold)
    rw [sb_mk] at HS
    have HP2 : Hid (∀ W : World, Fd W → Calls Tryd.prog 36 #[.agg e.cells] W fun e' w' => e' = .returned (.tuple #[.string ⟨(packE e).1.toArray⟩, .int .i64 0]) ∧ Below W.heap.size W w') := hid fun W hW => by
      have := HP.out W hW
      rw [show packE e = ((packE e).1, 0) by rw [← h0]] at this
      exact this
    exact sprep_yes e.cells old _ _ w hf HSZ HP2 HS
  · rw [if_neg h0]
    exact sprep_no e.cells old _ _ w hf HSZ (by simpa using h0) HP
theorem rprep_any (old : ByteArray) (e : En) (he : e.fits) (hold : old.size ≤ 1125899906842624) (w : World) : Calls Tryd.prog 13 #[.string old, e.val] w (SN w (prepS (sb old) e)) := by
  have HSZ : Hid (e.cells.size = 9) := hid rfl
  have HP := hid (fun (W : World) => rpack9_any e he W)
  unfold prepS
  by_cases h0 : (packE e).2 = 0
  · rw [if_pos h0]
    have HS := hid (fun W => rseal_calls old ⟨(packE e).1.toArray⟩ W hold)
    rw [sb_mk] at HS
    have HP2 : Hid (∀ W : World, Calls Tryd.prog 38 #[.agg e.cells] W fun e' w' => e' = .returned (.tuple #[.string ⟨(packE e).1.toArray⟩, .int .i64 0]) ∧ Below W.heap.size W w') := hid fun W => by
      have := HP.out W
      rw [show packE e = ((packE e).1, 0) by rw [← h0]] at this
      exact this
    exact rprep_yes e.cells old _ _ w HSZ HP2 HS
  · rw [if_neg h0]
    exact rprep_no e.cells old _ _ w HSZ (by simpa using h0) HP
theorem shdr_any (old : ByteArray) (s : St) (hs : s.fits) (hold : old.size ≤ 1125899906842624) (w : World) : Calls Tryd.prog 14 #[.string old, s.val] w (SN w (hdrS (sb old) s)) := by
  have HSZ : Hid (s.cells.size = 5) := hid rfl
  have HP := hid (fun W => spackT_any s hs W)
  unfold hdrS
  unfold packT at HP
  by_cases h0 : SRt s
  · rw [if_pos h0] at HP ⊢
    have HS := hid (fun W => seal_calls old ⟨s.bytes.toArray⟩ W hold)
    rw [sb_mk] at HS
    exact shdr_yes s.cells old _ _ w HSZ HP HS
  · rw [if_neg h0] at HP ⊢
    exact shdr_no s.cells old _ w HSZ HP
theorem rhdr_any (old : ByteArray) (s : St) (hs : s.fits) (hold : old.size ≤ 1125899906842624) (w : World) : Calls Tryd.prog 15 #[.string old, s.val] w (SN w (hdrS (sb old) s)) := by
  have HSZ : Hid (s.cells.size = 5) := hid rfl
  have HP := hid (fun W => rbyT_any s hs W)
  unfold hdrS
  unfold bytesS at HP
  by_cases h0 : SRt s
  · rw [if_pos h0] at HP ⊢
    have HS := hid (fun W => rseal_calls old ⟨s.bytes.toArray⟩ W hold)
    rw [sb_mk] at HS
    exact rhdr_yes s.cells old _ _ w HSZ HP HS
  · rw [if_neg h0] at HP ⊢
    exact rhdr_no s.cells old _ w HSZ HP
theorem svoid_any (old : ByteArray) (hold : old.size ≤ 1125899906842624) (w : World) : Calls Tryd.prog 18 #[.string old] w (SE w (voidS (sb old))) := by
  have HS := hid (fun W => seal_calls old ⟨#[]⟩ W hold)
  rw [show sb (⟨#[]⟩ : ByteArray) = [] from rfl] at HS
  unfold voidS
  generalize sealS (sb old) [] = r at *
  go_enter Tryd.func18, Tryd.ntmps18
  go_wp2_with (go_at_call 37; refine (HS.out _).mono ?_; rintro e w1 ⟨rfl, hb1⟩)
  go_ret
  exact ⟨rfl, hb1⟩
theorem rvoid_any (old : ByteArray) (hold : old.size ≤ 1125899906842624) (w : World) : Calls Tryd.prog 19 #[.string old] w (SE w (voidS (sb old))) := by
  have HS := hid (fun W => rseal_calls old ⟨#[]⟩ W hold)
  rw [show sb (⟨#[]⟩ : ByteArray) = [] from rfl] at HS
  unfold voidS
  generalize sealS (sb old) [] = r at *
  go_enter Tryd.func19, Tryd.ntmps19
  go_wp2_with (go_at_call 39; refine (HS.out _).mono ?_; rintro e w1 ⟨rfl, hb1⟩)
  go_ret
  exact ⟨rfl, hb1⟩
end Go.Proofs.YtdcoiehhnllhmaaDoor
/-
  The walks of package slot's look, Entry, Stub.
-/
namespace Go.Proofs.YtdcoiehhnllhmaaDoor
open Go.RowKit
set_option maxRecDepth 10000

/-- an entry, or a stub, and two answers -/
def LQ (w : World) (C : Array Value) (a b : Bool) (e : Ending) (w' : World) : Prop := e = .returned (.tuple #[.agg C, .bool a, .bool b]) ∧ Below w.heap.size w w'
theorem ezero_one : (#[.int .i64 0, .int .i64 0, .int .i64 0, .int .u64 0, .int .i64 0, .int .i64 0, .int .i64 0, .int .i64 0, .string ⟨#[]⟩] : Array Value).all (·.oneCell') = true := by simp [Value.oneCell']
theorem szero_one : (#[.int .i64 0, .int .i64 0, .int .i64 0, .int .u64 0, .int .u64 0] : Array Value).all (·.oneCell') = true := by simp [Value.oneCell']
set_option maxHeartbeats 1000000 in
theorem slke_void (s : ByteArray) (b : Bool) (w : World) (HO : Hid (∀ W : World, Calls Tryd.prog 73 #[.string s] W fun e w' => e = .returned (.tuple #[.string ⟨#[]⟩, .bool b]) ∧ Below W.heap.size W w')) :
    Calls Tryd.prog 45 #[.string s, .func (.func 46) #[] #[]] w (LQ w #[.int .i64 0, .int .i64 0, .int .i64 0, .int .u64 0, .int .i64 0, .int .i64 0, .int .i64 0, .int .i64 0, .string ⟨#[]⟩] false b) := by
  have HZS := hid esize
  go_enter Tryd.func45, Tryd.ntmps45
  go_wp2_with (first
    | (go_at_call 73; refine (HO.out _).mono ?_; rintro e w1 ⟨rfl, hb1⟩; have hr0 : Row w1 w.heap.size 24 (Array.toList #[.int .i64 0, .int .i64 0, .int .i64 0, .int .u64 0, .int .i64 0, .int .i64 0, .int .i64 0, .int .i64 0, .string ⟨#[]⟩]) := ((Row.new w 24 #[.int .i64 0, .int .i64 0, .int .i64 0, .int .u64 0, .int .i64 0, .int .i64 0, .int .i64 0, .int .i64 0, .string ⟨#[]⟩]).alloc (.cells #[.int .i64 0, .int .i64 0, .int .i64 0, .int .u64 0, .int .i64 0, .int .i64 0, .int .i64 0, .int .i64 0, .string ⟨#[]⟩] 24)).below hb1 (by simp; omega); have hr1 : Row w1 (w.heap.size + 1) 24 (Array.toList #[.int .i64 0, .int .i64 0, .int .i64 0, .int .u64 0, .int .i64 0, .int .i64 0, .int .i64 0, .int .i64 0, .string ⟨#[]⟩]) := Row.below (B := w.heap.size + 1 + 1) (alloc2_new _ _ _) (hb1.mono (by simp)) (by omega); have hbe := (((Below.refl w.heap.size w).alloc (Nat.le_refl _) (.cells #[.int .i64 0, .int .i64 0, .int .i64 0, .int .u64 0, .int .i64 0, .int .i64 0, .int .i64 0, .int .i64 0, .string ⟨#[]⟩] 24)).alloc (by simp) (.cells #[.int .i64 0, .int .i64 0, .int .i64 0, .int .u64 0, .int .i64 0, .int .i64 0, .int .i64 0, .int .i64 0, .string ⟨#[]⟩] 24)).trans (hb1.mono (by simp; omega)))
    | (refine wpList_load_row rfl 24 (.tmp 7) rfl (w.heap.size + 1) rfl 24 #[.int .i64 0, .int .i64 0, .int .i64 0, .int .u64 0, .int .i64 0, .int .i64 0, .int .i64 0, .int .i64 0, .string ⟨#[]⟩] (0, 0) _ hr1.arr Tryd.underlying24 rfl HZS.out ?_)
    | (refine wpl_store_st rfl (.tmp 4) (.tmp 19) rfl (n := 9) HZS.out w.heap.size #[.int .i64 0, .int .i64 0, .int .i64 0, .int .u64 0, .int .i64 0, .int .i64 0, .int .i64 0, .int .i64 0, .string ⟨#[]⟩] #[.int .i64 0, .int .i64 0, .int .i64 0, .int .u64 0, .int .i64 0, .int .i64 0, .int .i64 0, .int .i64 0, .string ⟨#[]⟩] rfl rfl hr0 ?_ (hid rfl) (hid rfl) (hid ezero_one); intro w7 HR7 HB7))
  exact bodyPost_ret (v := .tuple #[.agg #[.int .i64 0, .int .i64 0, .int .i64 0, .int .u64 0, .int .i64 0, .int .i64 0, .int .i64 0, .int .i64 0, .string ⟨#[]⟩], .bool false, .bool b]) (results_cell2 rfl _ _ w.heap.size 24 #[.int .i64 0, .int .i64 0, .int .i64 0, .int .u64 0, .int .i64 0, .int .i64 0, .int .i64 0, .int .i64 0, .string ⟨#[]⟩] (0, 0) _ (.bool false) (.bool b) rfl rfl rfl HR7.arr Tryd.underlying24 rfl (by exact HZS.out)) rfl
    ⟨rfl, hbe.trans (below_grown HB7 (Nat.le_refl _) hbe.size)⟩
set_option maxHeartbeats 1000000 in
theorem slke_bad (s T : ByteArray) (b : Bool) (C : Array Value) (f : Int) (w : World) (hf : Fd w) (hne : T.toList.isEmpty = false) (h0 : (f != 0) = true) (HSZ : Hid (C.size = 9)) (HSO : Hid (C.all (·.oneCell') = true))
    (HO : Hid (∀ W : World, Calls Tryd.prog 73 #[.string s] W fun e w' => e = .returned (.tuple #[.string T, .bool b]) ∧ Below W.heap.size W w'))
    (HU : Hid (∀ W : World, Fd W → Calls Tryd.prog 46 #[.string T] W fun e w' => e = .returned (.tuple #[.agg C, .int .i64 f]) ∧ Below W.heap.size W w')) :
    Calls Tryd.prog 45 #[.string s, .func (.func 46) #[] #[]] w (LQ w #[.int .i64 0, .int .i64 0, .int .i64 0, .int .u64 0, .int .i64 0, .int .i64 0, .int .i64 0, .int .i64 0, .string ⟨#[]⟩] false false) := by
  have HZS := hid esize
  have HFd := hid hf
  clear hf
  go_enter Tryd.func45, Tryd.ntmps45
  go_wp2_with (first
    | (go_at_call 73; refine (HO.out _).mono ?_; rintro e w1 ⟨rfl, hb1⟩; have hr0 : Row w1 w.heap.size 24 (Array.toList #[.int .i64 0, .int .i64 0, .int .i64 0, .int .u64 0, .int .i64 0, .int .i64 0, .int .i64 0, .int .i64 0, .string ⟨#[]⟩]) := ((Row.new w 24 #[.int .i64 0, .int .i64 0, .int .i64 0, .int .u64 0, .int .i64 0, .int .i64 0, .int .i64 0, .int .i64 0, .string ⟨#[]⟩]).alloc (.cells #[.int .i64 0, .int .i64 0, .int .i64 0, .int .u64 0, .int .i64 0, .int .i64 0, .int .i64 0, .int .i64 0, .string ⟨#[]⟩] 24)).below hb1 (by simp; omega); have hr1 : Row w1 (w.heap.size + 1) 24 (Array.toList #[.int .i64 0, .int .i64 0, .int .i64 0, .int .u64 0, .int .i64 0, .int .i64 0, .int .i64 0, .int .i64 0, .string ⟨#[]⟩]) := Row.below (B := w.heap.size + 1 + 1) (alloc2_new _ _ _) (hb1.mono (by simp)) (by omega); have hbe := (((Below.refl w.heap.size w).alloc (Nat.le_refl _) (.cells #[.int .i64 0, .int .i64 0, .int .i64 0, .int .u64 0, .int .i64 0, .int .i64 0, .int .i64 0, .int .i64 0, .string ⟨#[]⟩] 24)).alloc (by simp) (.cells #[.int .i64 0, .int .i64 0, .int .i64 0, .int .u64 0, .int .i64 0, .int .i64 0, .int .i64 0, .int .i64 0, .string ⟨#[]⟩] 24)).trans (hb1.mono (by simp; omega)))
    | (go_at_call 46; refine (HU.out _ (HFd.out.below hbe HFd.out.1)).mono ?_; rintro e w2 ⟨rfl, hb2⟩; replace hr0 := hr0.below hb2 hr0.lt; replace hr1 := hr1.below hb2 hr1.lt; replace hbe := hbe.trans (hb2.mono hbe.size))
    | (refine wpl_store_st rfl (.tmp 10) (.tmp 25) rfl (n := 9) HZS.out w2.heap.size #[.int .i64 0, .int .i64 0, .int .i64 0, .int .u64 0, .int .i64 0, .int .i64 0, .int .i64 0, .int .i64 0, .string ⟨#[]⟩] C rfl rfl (Row.new _ _ _) ?_ (hid rfl) HSZ HSO; intro w3 HR3 HB3; replace hr0 := (hr0.alloc (.cells #[.int .i64 0, .int .i64 0, .int .i64 0, .int .u64 0, .int .i64 0, .int .i64 0, .int .i64 0, .int .i64 0, .string ⟨#[]⟩] 24)).grown HB3 (by have := hr0.lt; intro e; have := Option.some.inj e; omega); replace hr1 := (hr1.alloc (.cells #[.int .i64 0, .int .i64 0, .int .i64 0, .int .u64 0, .int .i64 0, .int .i64 0, .int .i64 0, .int .i64 0, .string ⟨#[]⟩] 24)).grown HB3 (by have := hr1.lt; intro e; have := Option.some.inj e; omega); replace hbe := (hbe.alloc hbe.size (.cells #[.int .i64 0, .int .i64 0, .int .i64 0, .int .u64 0, .int .i64 0, .int .i64 0, .int .i64 0, .int .i64 0, .string ⟨#[]⟩] 24)).trans (below_grown HB3 hbe.size (by have := hbe.size; simp; omega)))
    | (refine wpList_load_row rfl 24 (.tmp 7) rfl (w.heap.size + 1) rfl 24 #[.int .i64 0, .int .i64 0, .int .i64 0, .int .u64 0, .int .i64 0, .int .i64 0, .int .i64 0, .int .i64 0, .string ⟨#[]⟩] (0, 0) _ hr1.arr Tryd.underlying24 rfl HZS.out ?_)
    | (refine wpl_store_st rfl (.tmp 4) (.tmp 29) rfl (n := 9) HZS.out w.heap.size #[.int .i64 0, .int .i64 0, .int .i64 0, .int .u64 0, .int .i64 0, .int .i64 0, .int .i64 0, .int .i64 0, .string ⟨#[]⟩] #[.int .i64 0, .int .i64 0, .int .i64 0, .int .u64 0, .int .i64 0, .int .i64 0, .int .i64 0, .int .i64 0, .string ⟨#[]⟩] rfl rfl hr0 ?_ (hid rfl) (hid rfl) (hid ezero_one); intro w7 HR7 HB7))
  exact bodyPost_ret (v := .tuple #[.agg #[.int .i64 0, .int .i64 0, .int .i64 0, .int .u64 0, .int .i64 0, .int .i64 0, .int .i64 0, .int .i64 0, .string ⟨#[]⟩], .bool false, .bool false]) (results_cell2 rfl _ _ w.heap.size 24 #[.int .i64 0, .int .i64 0, .int .i64 0, .int .u64 0, .int .i64 0, .int .i64 0, .int .i64 0, .int .i64 0, .string ⟨#[]⟩] (0, 0) _ (.bool false) (.bool false) rfl rfl rfl HR7.arr Tryd.underlying24 rfl (by exact HZS.out)) rfl
    ⟨rfl, hbe.trans (below_grown HB7 (Nat.le_refl _) hbe.size)⟩
set_option maxHeartbeats 1000000 in
theorem slke_good (s T : ByteArray) (b : Bool) (C : Array Value) (w : World) (hf : Fd w) (hne : T.toList.isEmpty = false) (HSZ : Hid (C.size = 9)) (HSO : Hid (C.all (·.oneCell') = true))
    (HO : Hid (∀ W : World, Calls Tryd.prog 73 #[.string s] W fun e w' => e = .returned (.tuple #[.string T, .bool b]) ∧ Below W.heap.size W w'))
    (HU : Hid (∀ W : World, Fd W → Calls Tryd.prog 46 #[.string T] W fun e w' => e = .returned (.tuple #[.agg C, .int .i64 0]) ∧ Below W.heap.size W w')) :
    Calls Tryd.prog 45 #[.string s, .func (.func 46) #[] #[]] w (LQ w C true true) := by
  have HZS := hid esize
  have HFd := hid hf
  clear hf
  go_enter Tryd.func45, Tryd.ntmps45
  go_wp2_with (first
    | (go_at_call 73; refine (HO.out _).mono ?_; rintro e w1 ⟨rfl, hb1⟩; have hr0 : Row w1 w.heap.size 24 (Array.toList #[.int .i64 0, .int .i64 0, .int .i64 0, .int .u64 0, .int .i64 0, .int .i64 0, .int .i64 0, .int .i64 0, .string ⟨#[]⟩]) := ((Row.new w 24 #[.int .i64 0, .int .i64 0, .int .i64 0, .int .u64 0, .int .i64 0, .int .i64 0, .int .i64 0, .int .i64 0, .string ⟨#[]⟩]).alloc (.cells #[.int .i64 0, .int .i64 0, .int .i64 0, .int .u64 0, .int .i64 0, .int .i64 0, .int .i64 0, .int .i64 0, .string ⟨#[]⟩] 24)).below hb1 (by simp; omega); have hr1 : Row w1 (w.heap.size + 1) 24 (Array.toList #[.int .i64 0, .int .i64 0, .int .i64 0, .int .u64 0, .int .i64 0, .int .i64 0, .int .i64 0, .int .i64 0, .string ⟨#[]⟩]) := Row.below (B := w.heap.size + 1 + 1) (alloc2_new _ _ _) (hb1.mono (by simp)) (by omega); have hbe := (((Below.refl w.heap.size w).alloc (Nat.le_refl _) (.cells #[.int .i64 0, .int .i64 0, .int .i64 0, .int .u64 0, .int .i64 0, .int .i64 0, .int .i64 0, .int .i64 0, .string ⟨#[]⟩] 24)).alloc (by simp) (.cells #[.int .i64 0, .int .i64 0, .int .i64 0, .int .u64 0, .int .i64 0, .int .i64 0, .int .i64 0, .int .i64 0, .string ⟨#[]⟩] 24)).trans (hb1.mono (by simp; omega)))
    | (go_at_call 46; refine (HU.out _ (HFd.out.below hbe HFd.out.1)).mono ?_; rintro e w2 ⟨rfl, hb2⟩; replace hr0 := hr0.below hb2 hr0.lt; replace hr1 := hr1.below hb2 hr1.lt; replace hbe := hbe.trans (hb2.mono hbe.size))
    | (refine wpl_store_st rfl (.tmp 10) (.tmp 25) rfl (n := 9) HZS.out w2.heap.size #[.int .i64 0, .int .i64 0, .int .i64 0, .int .u64 0, .int .i64 0, .int .i64 0, .int .i64 0, .int .i64 0, .string ⟨#[]⟩] C rfl rfl (Row.new _ _ _) ?_ (hid rfl) HSZ HSO; intro w3 HR3 HB3; replace hr0 := (hr0.alloc (.cells #[.int .i64 0, .int .i64 0, .int .i64 0, .int .u64 0, .int .i64 0, .int .i64 0, .int .i64 0, .int .i64 0, .string ⟨#[]⟩] 24)).grown HB3 (by have := hr0.lt; intro e; have := Option.some.inj e; omega); replace hr1 := (hr1.alloc (.cells #[.int .i64 0, .int .i64 0, .int .i64 0, .int .u64 0, .int .i64 0, .int .i64 0, .int .i64 0, .int .i64 0, .string ⟨#[]⟩] 24)).grown HB3 (by have := hr1.lt; intro e; have := Option.some.inj e; omega); replace hbe := (hbe.alloc hbe.size (.cells #[.int .i64 0, .int .i64 0, .int .i64 0, .int .u64 0, .int .i64 0, .int .i64 0, .int .i64 0, .int .i64 0, .string ⟨#[]⟩] 24)).trans (below_grown HB3 hbe.size (by have := hbe.size; simp; omega)))
    | (refine wpList_load_row rfl 24 (.tmp 10) rfl w2.heap.size rfl 24 C (0, 0) _ HR3.arr Tryd.underlying24 rfl (by rw [HSZ.out]; exact HZS.out) ?_)
    | (refine wpl_store_st rfl (.tmp 4) (.tmp 30) rfl (n := 9) HZS.out w.heap.size #[.int .i64 0, .int .i64 0, .int .i64 0, .int .u64 0, .int .i64 0, .int .i64 0, .int .i64 0, .int .i64 0, .string ⟨#[]⟩] C rfl rfl hr0 ?_ (hid rfl) HSZ HSO; intro w7 HR7 HB7))
  exact bodyPost_ret (v := .tuple #[.agg C, .bool true, .bool true]) (results_cell2 rfl _ _ w.heap.size 24 C (0, 0) _ (.bool true) (.bool true) rfl rfl rfl HR7.arr Tryd.underlying24 rfl (by rw [HSZ.out]; exact HZS.out)) rfl
    ⟨rfl, hbe.trans (below_grown HB7 (Nat.le_refl _) hbe.size)⟩
theorem olke_of (s : ByteArray) (C : Array Value) (a b : Bool) (w : World) (hf : Fd w) (HSZ : Hid (C.size = 9)) (HSO : Hid (C.all (·.oneCell') = true))
    (HL : Hid (∀ W : World, Fd W → Calls Tryd.prog 45 #[.string s, .func (.func 46) #[] #[]] W (LQ W C a b))) : Calls Tryd.prog 20 #[.string s] w (LQ w C a b) := by
  have HZS := hid esize
  have HFd := hid hf
  clear hf
  go_enter Tryd.func20, Tryd.ntmps20
  go_wp2_with (first
    | (go_at_call 45; refine (HL.out _ (HFd.out.below ((Below.refl w.heap.size w).alloc (Nat.le_refl _) _) HFd.out.1)).mono ?_; rintro e w1 ⟨rfl, hb1⟩; have hr0 := (Row.new w 24 #[.int .i64 0, .int .i64 0, .int .i64 0, .int .u64 0, .int .i64 0, .int .i64 0, .int .i64 0, .int .i64 0, .string ⟨#[]⟩]).below hb1 (by simp); have hbe := ((Below.refl w.heap.size w).alloc (Nat.le_refl _) (.cells #[.int .i64 0, .int .i64 0, .int .i64 0, .int .u64 0, .int .i64 0, .int .i64 0, .int .i64 0, .int .i64 0, .string ⟨#[]⟩] 24)).trans (hb1.mono (by simp)))
    | (refine wpl_store_st rfl (.tmp 2) (.tmp 7) rfl (n := 9) HZS.out w.heap.size #[.int .i64 0, .int .i64 0, .int .i64 0, .int .u64 0, .int .i64 0, .int .i64 0, .int .i64 0, .int .i64 0, .string ⟨#[]⟩] C rfl rfl hr0 ?_ (hid rfl) HSZ HSO; intro w7 HR7 HB7))
  exact bodyPost_ret (v := .tuple #[.agg C, .bool a, .bool b]) (results_cell2 rfl _ _ w.heap.size 24 C (0, 0) _ (.bool a) (.bool b) rfl rfl rfl HR7.arr Tryd.underlying24 rfl (by rw [HSZ.out]; exact HZS.out)) rfl
    ⟨rfl, hbe.trans (below_grown HB7 (Nat.le_refl _) hbe.size)⟩
set_option maxHeartbeats 1000000 in
theorem slks_void (s : ByteArray) (b : Bool) (w : World) (HO : Hid (∀ W : World, Calls Tryd.prog 73 #[.string s] W fun e w' => e = .returned (.tuple #[.string ⟨#[]⟩, .bool b]) ∧ Below W.heap.size W w')) :
    Calls Tryd.prog 47 #[.string s, .func (.func 48) #[] #[]] w (LQ w #[.int .i64 0, .int .i64 0, .int .i64 0, .int .u64 0, .int .u64 0] false b) := by
  have HZS := hid stsize
  go_enter Tryd.func47, Tryd.ntmps47
  go_wp2_with (first
    | (go_at_call 73; refine (HO.out _).mono ?_; rintro e w1 ⟨rfl, hb1⟩; have hr0 : Row w1 w.heap.size 26 (Array.toList #[.int .i64 0, .int .i64 0, .int .i64 0, .int .u64 0, .int .u64 0]) := ((Row.new w 26 #[.int .i64 0, .int .i64 0, .int .i64 0, .int .u64 0, .int .u64 0]).alloc (.cells #[.int .i64 0, .int .i64 0, .int .i64 0, .int .u64 0, .int .u64 0] 26)).below hb1 (by simp; omega); have hr1 : Row w1 (w.heap.size + 1) 26 (Array.toList #[.int .i64 0, .int .i64 0, .int .i64 0, .int .u64 0, .int .u64 0]) := Row.below (B := w.heap.size + 1 + 1) (alloc2_new _ _ _) (hb1.mono (by simp)) (by omega); have hbe := (((Below.refl w.heap.size w).alloc (Nat.le_refl _) (.cells #[.int .i64 0, .int .i64 0, .int .i64 0, .int .u64 0, .int .u64 0] 26)).alloc (by simp) (.cells #[.int .i64 0, .int .i64 0, .int .i64 0, .int .u64 0, .int .u64 0] 26)).trans (hb1.mono (by simp; omega)))
    | (refine wpList_load_row rfl 26 (.tmp 7) rfl (w.heap.size + 1) rfl 26 #[.int .i64 0, .int .i64 0, .int .i64 0, .int .u64 0, .int .u64 0] (0, 0) _ hr1.arr Tryd.underlying26 rfl HZS.out ?_)
    | (refine wpl_store_st rfl (.tmp 4) (.tmp 19) rfl (n := 5) HZS.out w.heap.size #[.int .i64 0, .int .i64 0, .int .i64 0, .int .u64 0, .int .u64 0] #[.int .i64 0, .int .i64 0, .int .i64 0, .int .u64 0, .int .u64 0] rfl rfl hr0 ?_ (hid rfl) (hid rfl) (hid szero_one); intro w7 HR7 HB7))
  exact bodyPost_ret (v := .tuple #[.agg #[.int .i64 0, .int .i64 0, .int .i64 0, .int .u64 0, .int .u64 0], .bool false, .bool b]) (results_cell2 rfl _ _ w.heap.size 26 #[.int .i64 0, .int .i64 0, .int .i64 0, .int .u64 0, .int .u64 0] (0, 0) _ (.bool false) (.bool b) rfl rfl rfl HR7.arr Tryd.underlying26 rfl (by exact HZS.out)) rfl
    ⟨rfl, hbe.trans (below_grown HB7 (Nat.le_refl _) hbe.size)⟩
set_option maxHeartbeats 1000000 in
theorem slks_bad (s T : ByteArray) (b : Bool) (C : Array Value) (f : Int) (w : World) (hne : T.toList.isEmpty = false) (h0 : (f != 0) = true) (HSZ : Hid (C.size = 5)) (HSO : Hid (C.all (·.oneCell') = true))
    (HO : Hid (∀ W : World, Calls Tryd.prog 73 #[.string s] W fun e w' => e = .returned (.tuple #[.string T, .bool b]) ∧ Below W.heap.size W w'))
    (HU : Hid (∀ W : World, Calls Tryd.prog 48 #[.string T] W fun e w' => e = .returned (.tuple #[.agg C, .int .i64 f]) ∧ Below W.heap.size W w')) :
    Calls Tryd.prog 47 #[.string s, .func (.func 48) #[] #[]] w (LQ w #[.int .i64 0, .int .i64 0, .int .i64 0, .int .u64 0, .int .u64 0] false false) := by
  have HZS := hid stsize
  go_enter Tryd.func47, Tryd.ntmps47
  go_wp2_with (first
    | (go_at_call 73; refine (HO.out _).mono ?_; rintro e w1 ⟨rfl, hb1⟩; have hr0 : Row w1 w.heap.size 26 (Array.toList #[.int .i64 0, .int .i64 0, .int .i64 0, .int .u64 0, .int .u64 0]) := ((Row.new w 26 #[.int .i64 0, .int .i64 0, .int .i64 0, .int .u64 0, .int .u64 0]).alloc (.cells #[.int .i64 0, .int .i64 0, .int .i64 0, .int .u64 0, .int .u64 0] 26)).below hb1 (by simp; omega); have hr1 : Row w1 (w.heap.size + 1) 26 (Array.toList #[.int .i64 0, .int .i64 0, .int .i64 0, .int .u64 0, .int .u64 0]) := Row.below (B := w.heap.size + 1 + 1) (alloc2_new _ _ _) (hb1.mono (by simp)) (by omega); have hbe := (((Below.refl w.heap.size w).alloc (Nat.le_refl _) (.cells #[.int .i64 0, .int .i64 0, .int .i64 0, .int .u64 0, .int .u64 0] 26)).alloc (by simp) (.cells #[.int .i64 0, .int .i64 0, .int .i64 0, .int .u64 0, .int .u64 0] 26)).trans (hb1.mono (by simp; omega)))
    | (go_at_call 48; refine (HU.out _).mono ?_; rintro e w2 ⟨rfl, hb2⟩; replace hr0 := hr0.below hb2 hr0.lt; replace hr1 := hr1.below hb2 hr1.lt; replace hbe := hbe.trans (hb2.mono hbe.size))
    | (refine wpl_store_st rfl (.tmp 10) (.tmp 25) rfl (n := 5) HZS.out w2.heap.size #[.int .i64 0, .int .i64 0, .int .i64 0, .int .u64 0, .int .u64 0] C rfl rfl (Row.new _ _ _) ?_ (hid rfl) HSZ HSO; intro w3 HR3 HB3; replace hr0 := (hr0.alloc (.cells #[.int .i64 0, .int .i64 0, .int .i64 0, .int .u64 0, .int .u64 0] 26)).grown HB3 (by have := hr0.lt; intro e; have := Option.some.inj e; omega); replace hr1 := (hr1.alloc (.cells #[.int .i64 0, .int .i64 0, .int .i64 0, .int .u64 0, .int .u64 0] 26)).grown HB3 (by have := hr1.lt; intro e; have := Option.some.inj e; omega); replace hbe := (hbe.alloc hbe.size (.cells #[.int .i64 0, .int .i64 0, .int .i64 0, .int .u64 0, .int .u64 0] 26)).trans (below_grown HB3 hbe.size (by have := hbe.size; simp; omega)))
    | (refine wpList_load_row rfl 26 (.tmp 7) rfl (w.heap.size + 1) rfl 26 #[.int .i64 0, .int .i64 0, .int .i64 0, .int .u64 0, .int .u64 0] (0, 0) _ hr1.arr Tryd.underlying26 rfl HZS.out ?_)
    | (refine wpl_store_st rfl (.tmp 4) (.tmp 29) rfl (n := 5) HZS.out w.heap.size #[.int .i64 0, .int .i64 0, .int .i64 0, .int .u64 0, .int .u64 0] #[.int .i64 0, .int .i64 0, .int .i64 0, .int .u64 0, .int .u64 0] rfl rfl hr0 ?_ (hid rfl) (hid rfl) (hid szero_one); intro w7 HR7 HB7))
  exact bodyPost_ret (v := .tuple #[.agg #[.int .i64 0, .int .i64 0, .int .i64 0, .int .u64 0, .int .u64 0], .bool false, .bool false]) (results_cell2 rfl _ _ w.heap.size 26 #[.int .i64 0, .int .i64 0, .int .i64 0, .int .u64 0, .int .u64 0] (0, 0) _ (.bool false) (.bool false) rfl rfl rfl HR7.arr Tryd.underlying26 rfl (by exact HZS.out)) rfl
    ⟨rfl, hbe.trans (below_grown HB7 (Nat.le_refl _) hbe.size)⟩
set_option maxHeartbeats 1000000 in
theorem slks_good (s T : ByteArray) (b : Bool) (C : Array Value) (w : World) (hne : T.toList.isEmpty = false) (HSZ : Hid (C.size = 5)) (HSO : Hid (C.all (·.oneCell') = true))
    (HO : Hid (∀ W : World, Calls Tryd.prog 73 #[.string s] W fun e w' => e = .returned (.tuple #[.string T, .bool b]) ∧ Below W.heap.size W w'))
    (HU : Hid (∀ W : World, Calls Tryd.prog 48 #[.string T] W fun e w' => e = .returned (.tuple #[.agg C, .int .i64 0]) ∧ Below W.heap.size W w')) :
    Calls Tryd.prog 47 #[.string s, .func (.func 48) #[] #[]] w (LQ w C true true) := by
  have HZS := hid stsize
  go_enter Tryd.func47, Tryd.ntmps47
  go_wp2_with (first
    | (go_at_call 73; refine (HO.out _).mono ?_; rintro e w1 ⟨rfl, hb1⟩; have hr0 : Row w1 w.heap.size 26 (Array.toList #[.int .i64 0, .int .i64 0, .int .i64 0, .int .u64 0, .int .u64 0]) := ((Row.new w 26 #[.int .i64 0, .int .i64 0, .int .i64 0, .int .u64 0, .int .u64 0]).alloc (.cells #[.int .i64 0, .int .i64 0, .int .i64 0, .int .u64 0, .int .u64 0] 26)).below hb1 (by simp; omega); have hr1 : Row w1 (w.heap.size + 1) 26 (Array.toList #[.int .i64 0, .int .i64 0, .int .i64 0, .int .u64 0, .int .u64 0]) := Row.below (B := w.heap.size + 1 + 1) (alloc2_new _ _ _) (hb1.mono (by simp)) (by omega); have hbe := (((Below.refl w.heap.size w).alloc (Nat.le_refl _) (.cells #[.int .i64 0, .int .i64 0, .int .i64 0, .int .u64 0, .int .u64 0] 26)).alloc (by simp) (.cells #[.int .i64 0, .int .i64 0, .int .i64 0, .int .u64 0, .int .u64 0] 26)).trans (hb1.mono (by simp; omega)))
    | (go_at_call 48; refine (HU.out _).mono ?_; rintro e w2 ⟨rfl, hb2⟩; replace hr0 := hr0.below hb2 hr0.lt; replace hr1 := hr1.below hb2 hr1.lt; replace hbe := hbe.trans (hb2.mono hbe.size))
    | (refine wpl_store_st rfl (.tmp 10) (.tmp 25) rfl (n := 5) HZS.out w2.heap.size #[.int .i64 0, .int .i64 0, .int .i64 0, .int .u64 0, .int .u64 0] C rfl rfl (Row.new _ _ _) ?_ (hid rfl) HSZ HSO; intro w3 HR3 HB3; replace hr0 := (hr0.alloc (.cells #[.int .i64 0, .int .i64 0, .int .i64 0, .int .u64 0, .int .u64 0] 26)).grown HB3 (by have := hr0.lt; intro e; have := Option.some.inj e; omega); replace hr1 := (hr1.alloc (.cells #[.int .i64 0, .int .i64 0, .int .i64 0, .int .u64 0, .int .u64 0] 26)).grown HB3 (by have := hr1.lt; intro e; have := Option.some.inj e; omega); replace hbe := (hbe.alloc hbe.size (.cells #[.int .i64 0, .int .i64 0, .int .i64 0, .int .u64 0, .int .u64 0] 26)).trans (below_grown HB3 hbe.size (by have := hbe.size; simp; omega)))
    | (refine wpList_load_row rfl 26 (.tmp 10) rfl w2.heap.size rfl 26 C (0, 0) _ HR3.arr Tryd.underlying26 rfl (by rw [HSZ.out]; exact HZS.out) ?_)
    | (refine wpl_store_st rfl (.tmp 4) (.tmp 30) rfl (n := 5) HZS.out w.heap.size #[.int .i64 0, .int .i64 0, .int .i64 0, .int .u64 0, .int .u64 0] C rfl rfl hr0 ?_ (hid rfl) HSZ HSO; intro w7 HR7 HB7))
  exact bodyPost_ret (v := .tuple #[.agg C, .bool true, .bool true]) (results_cell2 rfl _ _ w.heap.size 26 C (0, 0) _ (.bool true) (.bool true) rfl rfl rfl HR7.arr Tryd.underlying26 rfl (by rw [HSZ.out]; exact HZS.out)) rfl
    ⟨rfl, hbe.trans (below_grown HB7 (Nat.le_refl _) hbe.size)⟩
theorem olks_of (s : ByteArray) (C : Array Value) (a b : Bool) (w : World) (HSZ : Hid (C.size = 5)) (HSO : Hid (C.all (·.oneCell') = true))
    (HL : Hid (∀ W : World, Calls Tryd.prog 47 #[.string s, .func (.func 48) #[] #[]] W (LQ W C a b))) : Calls Tryd.prog 21 #[.string s] w (LQ w C a b) := by
  have HZS := hid stsize
  go_enter Tryd.func21, Tryd.ntmps21
  go_wp2_with (first
    | (go_at_call 47; refine (HL.out _).mono ?_; rintro e w1 ⟨rfl, hb1⟩; have hr0 := (Row.new w 26 #[.int .i64 0, .int .i64 0, .int .i64 0, .int .u64 0, .int .u64 0]).below hb1 (by simp); have hbe := ((Below.refl w.heap.size w).alloc (Nat.le_refl _) (.cells #[.int .i64 0, .int .i64 0, .int .i64 0, .int .u64 0, .int .u64 0] 26)).trans (hb1.mono (by simp)))
    | (refine wpl_store_st rfl (.tmp 2) (.tmp 7) rfl (n := 5) HZS.out w.heap.size #[.int .i64 0, .int .i64 0, .int .i64 0, .int .u64 0, .int .u64 0] C rfl rfl hr0 ?_ (hid rfl) HSZ HSO; intro w7 HR7 HB7))
  exact bodyPost_ret (v := .tuple #[.agg C, .bool a, .bool b]) (results_cell2 rfl _ _ w.heap.size 26 C (0, 0) _ (.bool a) (.bool b) rfl rfl rfl HR7.arr Tryd.underlying26 rfl (by rw [HSZ.out]; exact HZS.out)) rfl
    ⟨rfl, hbe.trans (below_grown HB7 (Nat.le_refl _) hbe.size)⟩
theorem openS_len (l : List UInt8) : (openS l).1.length ≤ 376 := by
  unfold openS
  split
  · rename_i h
    exact tt_len l h.2.1
  · simp
theorem full_l {l : List UInt8} (h : l ≠ []) : (⟨l.toArray⟩ : ByteArray).toList.isEmpty = false := full_of (by rw [← sb_len, sb_mk]; intro e; exact h (List.length_eq_zero_iff.1 e))
theorem entryS_any (s : ByteArray) (w : World) (hf : Fd w) : Calls Tryd.prog 20 #[.string s] w (LQ w (entryS (sb s)).1.cells (entryS (sb s)).2.1 (entryS (sb s)).2.2) := by
  have HO : Hid (∀ W : World, Calls Tryd.prog 73 #[.string s] W fun e w' => e = .returned (.tuple #[.string ⟨(openS (sb s)).1.toArray⟩, .bool (openS (sb s)).2]) ∧ Below W.heap.size W w') := hid fun W => open_calls s W
  have hsz : (openS (sb s)).1.length ≤ 376 := openS_len _
  refine olke_of s _ _ _ w hf (hid rfl) (hid (ecells_one _)) (hid fun W hW => ?_)
  unfold entryS
  generalize openS (sb s) = r at *
  obtain ⟨l, b⟩ := r
  by_cases h0 : l = []
  · subst h0
    rw [if_pos rfl]
    exact slke_void s b W HO
  · rw [if_neg h0]
    have HU := hid (fun W (hW : Fd W) => eup_any ⟨l.toArray⟩ W hW (by rw [← sb_len, sb_mk]; simp only at hsz; omega))
    rw [sb_mk] at HU
    simp only
    by_cases h1 : (unpackE l).2 = 0
    · rw [if_pos h1]
      have e : unpackE l = ((unpackE l).1, 0) := by rw [← h1]
      rw [e] at HU
      exact slke_good s ⟨l.toArray⟩ b _ W hW (full_l h0) (hid rfl) (hid (ecells_one _)) HO HU
    · rw [if_neg h1]
      exact slke_bad s ⟨l.toArray⟩ b _ _ W hW (full_l h0) (by simpa using h1) (hid rfl) (hid (ecells_one _)) HO HU
theorem stubT_any (s : ByteArray) (w : World) : Calls Tryd.prog 21 #[.string s] w (LQ w (stubT (sb s)).1.cells (stubT (sb s)).2.1 (stubT (sb s)).2.2) := by
  have HO : Hid (∀ W : World, Calls Tryd.prog 73 #[.string s] W fun e w' => e = .returned (.tuple #[.string ⟨(openS (sb s)).1.toArray⟩, .bool (openS (sb s)).2]) ∧ Below W.heap.size W w') := hid fun W => open_calls s W
  refine olks_of s _ _ _ w (hid rfl) (hid (stcells_one _)) (hid fun W => ?_)
  unfold stubT
  generalize openS (sb s) = r at *
  obtain ⟨l, b⟩ := r
  by_cases h0 : l = []
  · subst h0
    rw [if_pos rfl]
    exact slks_void s b W HO
  · rw [if_neg h0]
    have HU := hid (fun W => sunpackT_any ⟨l.toArray⟩ W)
    rw [sb_mk] at HU
    simp only
    by_cases h1 : (unpackT l).2 = 0
    · rw [if_pos h1]
      have e : unpackT l = ((unpackT l).1, 0) := by rw [← h1]
      rw [e] at HU
      exact slks_good s ⟨l.toArray⟩ b _ W (full_l h0) (hid rfl) (hid (stcells_one _)) HO HU
    · rw [if_neg h1]
      exact slks_bad s ⟨l.toArray⟩ b _ _ W (full_l h0) (by simpa using h1) (hid rfl) (hid (stcells_one _)) HO HU
end Go.Proofs.YtdcoiehhnllhmaaDoor
/-
  Stubs, entries, items held against each other.
-/
namespace Go.Proofs.YtdcoiehhnllhmaaDoor
open Go.RowKit
set_option maxRecDepth 10000

theorem stubFields : (Tryd.prog.fieldsOf 26).toList = [{ name := "Op", type := 3, offset := 0, embedded := false, tag := "", pkgPath := "", byteOffset := 0 }, { name := "View", type := 3, offset := 1, embedded := false, tag := "", pkgPath := "", byteOffset := 8 }, { name := "Under", type := 3, offset := 2, embedded := false, tag := "", pkgPath := "", byteOffset := 16 }, { name := "Parent", type := 22, offset := 3, embedded := false, tag := "", pkgPath := "", byteOffset := 24 }, { name := "Sum", type := 22, offset := 4, embedded := false, tag := "", pkgPath := "", byteOffset := 32 }] := by kernel_rfl
theorem itemFields : (Tryd.prog.fieldsOf 41).toList = [{ name := "Kind", type := 3, offset := 0, embedded := false, tag := "", pkgPath := "", byteOffset := 0 }, { name := "Stub", type := 26, offset := 1, embedded := false, tag := "", pkgPath := "", byteOffset := 8 }, { name := "Entry", type := 24, offset := 6, embedded := false, tag := "", pkgPath := "", byteOffset := 48 }] := by kernel_rfl
theorem eqSt (d : Nat) (x y : St) (W : World) : (Op.equalIn (d + 2) 26 (.agg x.cells) (.agg y.cells)).run Tryd.prog W = .ok (decide (x = y)) W := by
  rw [run_equalIn_struct W (d + 1) 26 x.cells y.cells (by kernel_rfl) (by kernel_rfl), stubFields]
  have x0 : x.cells[0]? = some (.int .i64 x.opn) := rfl
  have y0 : y.cells[0]? = some (.int .i64 y.opn) := rfl
  have x1 : x.cells[1]? = some (.int .i64 x.view) := rfl
  have y1 : y.cells[1]? = some (.int .i64 y.view) := rfl
  have x2 : x.cells[2]? = some (.int .i64 x.under) := rfl
  have y2 : y.cells[2]? = some (.int .i64 y.under) := rfl
  have x3 : x.cells[3]? = some (.int .u64 (x.parent : Int)) := rfl
  have y3 : y.cells[3]? = some (.int .u64 (y.parent : Int)) := rfl
  have x4 : x.cells[4]? = some (.int .u64 (x.sum : Int)) := rfl
  have y4 : y.cells[4]? = some (.int .u64 (y.sum : Int)) := rfl
  generalize x.cells = X at *
  generalize y.cells = Y at *
  rw [eqF_int (P := Tryd.prog) (W := W) d X Y { name := "Op", type := 3, offset := 0, embedded := false, tag := "", pkgPath := "", byteOffset := 0 } _ .i64 x.opn y.opn (by simp) (part_int 3 X 0 _ .i64 Tryd.underlying3 sizeInt x0) (part_int 3 Y 0 _ .i64 Tryd.underlying3 sizeInt y0) Tryd.underlying3]
  rw [eqF_int (P := Tryd.prog) (W := W) d X Y { name := "View", type := 3, offset := 1, embedded := false, tag := "", pkgPath := "", byteOffset := 8 } _ .i64 x.view y.view (by simp) (part_int 3 X 1 _ .i64 Tryd.underlying3 sizeInt x1) (part_int 3 Y 1 _ .i64 Tryd.underlying3 sizeInt y1) Tryd.underlying3]
  rw [eqF_int (P := Tryd.prog) (W := W) d X Y { name := "Under", type := 3, offset := 2, embedded := false, tag := "", pkgPath := "", byteOffset := 16 } _ .i64 x.under y.under (by simp) (part_int 3 X 2 _ .i64 Tryd.underlying3 sizeInt x2) (part_int 3 Y 2 _ .i64 Tryd.underlying3 sizeInt y2) Tryd.underlying3]
  rw [eqF_int (P := Tryd.prog) (W := W) d X Y { name := "Parent", type := 22, offset := 3, embedded := false, tag := "", pkgPath := "", byteOffset := 24 } _ .u64 (x.parent : Int) (y.parent : Int) (by simp) (part_int 22 X 3 _ .u64 Tryd.underlying22 sizeU64 x3) (part_int 22 Y 3 _ .u64 Tryd.underlying22 sizeU64 y3) Tryd.underlying22]
  rw [eqF_int (P := Tryd.prog) (W := W) d X Y { name := "Sum", type := 22, offset := 4, embedded := false, tag := "", pkgPath := "", byteOffset := 32 } _ .u64 (x.sum : Int) (y.sum : Int) (by simp) (part_int 22 X 4 _ .u64 Tryd.underlying22 sizeU64 x4) (part_int 22 Y 4 _ .u64 Tryd.underlying22 sizeU64 y4) Tryd.underlying22]
  rw [eqF_nil]
  obtain ⟨o1, v1, u1, p1, s1⟩ := x
  obtain ⟨o2, v2, u2, p2, s2⟩ := y
  simp only [St.mk.injEq]
  by_cases c0 : o1 = o2
  case neg => simp [c0]
  by_cases c1 : v1 = v2
  case neg => simp [c1]
  by_cases c2 : u1 = u2
  case neg => simp [c2]
  by_cases c3 : (p1 : Int) = (p2 : Int)
  case neg => simp [c3]; omega
  by_cases c4 : (s1 : Int) = (s2 : Int)
  case neg => simp [c4]; omega
  simp [*]
  omega
theorem eqEn2 (d : Nat) (x y : En) (b : Bool) (hb : b = true ↔ x = y) (W : World) : (Op.equalIn (d + 2) 24 (.agg x.cells) (.agg y.cells)).run Tryd.prog W = .ok b W := by
  rw [run_equalIn_struct W (d + 1) 24 x.cells y.cells (by kernel_rfl) (by kernel_rfl), entryFields]
  have x0 : x.cells[0]? = some (.int .i64 x.view) := rfl
  have y0 : y.cells[0]? = some (.int .i64 y.view) := rfl
  have x1 : x.cells[1]? = some (.int .i64 x.opn) := rfl
  have y1 : y.cells[1]? = some (.int .i64 y.opn) := rfl
  have x2 : x.cells[2]? = some (.int .i64 x.under) := rfl
  have y2 : y.cells[2]? = some (.int .i64 y.under) := rfl
  have x3 : x.cells[3]? = some (.int .u64 (x.parent : Int)) := rfl
  have y3 : y.cells[3]? = some (.int .u64 (y.parent : Int)) := rfl
  have x4 : x.cells[4]? = some (.int .i64 x.client) := rfl
  have y4 : y.cells[4]? = some (.int .i64 y.client) := rfl
  have x5 : x.cells[5]? = some (.int .i64 x.session) := rfl
  have y5 : y.cells[5]? = some (.int .i64 y.session) := rfl
  have x6 : x.cells[6]? = some (.int .i64 x.request) := rfl
  have y6 : y.cells[6]? = some (.int .i64 y.request) := rfl
  have x7 : x.cells[7]? = some (.int .i64 x.oper) := rfl
  have y7 : y.cells[7]? = some (.int .i64 y.oper) := rfl
  have x8 : x.cells[8]? = some (.string x.body) := rfl
  have y8 : y.cells[8]? = some (.string y.body) := rfl
  generalize x.cells = X at *
  generalize y.cells = Y at *
  rw [eqF_int (P := Tryd.prog) (W := W) d X Y { name := "View", type := 3, offset := 0, embedded := false, tag := "", pkgPath := "", byteOffset := 0 } _ .i64 x.view y.view (by simp) (part_int 3 X 0 _ .i64 Tryd.underlying3 sizeInt x0) (part_int 3 Y 0 _ .i64 Tryd.underlying3 sizeInt y0) Tryd.underlying3]
  rw [eqF_int (P := Tryd.prog) (W := W) d X Y { name := "Op", type := 3, offset := 1, embedded := false, tag := "", pkgPath := "", byteOffset := 8 } _ .i64 x.opn y.opn (by simp) (part_int 3 X 1 _ .i64 Tryd.underlying3 sizeInt x1) (part_int 3 Y 1 _ .i64 Tryd.underlying3 sizeInt y1) Tryd.underlying3]
  rw [eqF_int (P := Tryd.prog) (W := W) d X Y { name := "Under", type := 3, offset := 2, embedded := false, tag := "", pkgPath := "", byteOffset := 16 } _ .i64 x.under y.under (by simp) (part_int 3 X 2 _ .i64 Tryd.underlying3 sizeInt x2) (part_int 3 Y 2 _ .i64 Tryd.underlying3 sizeInt y2) Tryd.underlying3]
  rw [eqF_int (P := Tryd.prog) (W := W) d X Y { name := "Parent", type := 22, offset := 3, embedded := false, tag := "", pkgPath := "", byteOffset := 24 } _ .u64 (x.parent : Int) (y.parent : Int) (by simp) (part_int 22 X 3 _ .u64 Tryd.underlying22 sizeU64 x3) (part_int 22 Y 3 _ .u64 Tryd.underlying22 sizeU64 y3) Tryd.underlying22]
  rw [eqF_int (P := Tryd.prog) (W := W) d X Y { name := "Client", type := 3, offset := 4, embedded := false, tag := "", pkgPath := "", byteOffset := 32 } _ .i64 x.client y.client (by simp) (part_int 3 X 4 _ .i64 Tryd.underlying3 sizeInt x4) (part_int 3 Y 4 _ .i64 Tryd.underlying3 sizeInt y4) Tryd.underlying3]
  rw [eqF_int (P := Tryd.prog) (W := W) d X Y { name := "Session", type := 3, offset := 5, embedded := false, tag := "", pkgPath := "", byteOffset := 40 } _ .i64 x.session y.session (by simp) (part_int 3 X 5 _ .i64 Tryd.underlying3 sizeInt x5) (part_int 3 Y 5 _ .i64 Tryd.underlying3 sizeInt y5) Tryd.underlying3]
  rw [eqF_int (P := Tryd.prog) (W := W) d X Y { name := "Request", type := 3, offset := 6, embedded := false, tag := "", pkgPath := "", byteOffset := 48 } _ .i64 x.request y.request (by simp) (part_int 3 X 6 _ .i64 Tryd.underlying3 sizeInt x6) (part_int 3 Y 6 _ .i64 Tryd.underlying3 sizeInt y6) Tryd.underlying3]
  rw [eqF_int (P := Tryd.prog) (W := W) d X Y { name := "Operation", type := 3, offset := 7, embedded := false, tag := "", pkgPath := "", byteOffset := 56 } _ .i64 x.oper y.oper (by simp) (part_int 3 X 7 _ .i64 Tryd.underlying3 sizeInt x7) (part_int 3 Y 7 _ .i64 Tryd.underlying3 sizeInt y7) Tryd.underlying3]
  rw [eqF_strs (P := Tryd.prog) (W := W) d X Y { name := "Body", type := 9, offset := 8, embedded := false, tag := "", pkgPath := "", byteOffset := 64 } _ x.body y.body (by simp) (part_str 9 X 8 _ Tryd.underlying9 sizeStr x8) (part_str 9 Y 8 _ Tryd.underlying9 sizeStr y8) Tryd.underlying9]
  rw [eqF_nil]
  clear x0 y0 x1 y1 x2 y2 x3 y3 x4 y4 x5 y5 x6 y6 x7 y7 x8 y8
  obtain ⟨a1, a2, a3, a4, a5, a6, a7, a8, a9⟩ := x
  obtain ⟨b1, b2, b3, b4, b5, b6, b7, b8, b9⟩ := y
  simp only [En.mk.injEq] at hb
  simp only
  by_cases h : b = true
  · obtain ⟨rfl, rfl, rfl, rfl, rfl, rfl, rfl, rfl, rfl⟩ := hb.1 h
    subst h
    simp
  · have hn := fun q => h (hb.2 q)
    rw [Bool.eq_false_iff.2 h]
    clear hb h
    by_cases c0 : a1 = b1
    case neg => simp [c0]
    by_cases c1 : a2 = b2
    case neg => simp [c1]
    by_cases c2 : a3 = b3
    case neg => simp [c2]
    by_cases c3 : (a4 : Int) = (b4 : Int)
    case neg => simp [c3]
    by_cases c4 : a5 = b5
    case neg => simp [c4]
    by_cases c5 : a6 = b6
    case neg => simp [c5]
    by_cases c6 : a7 = b7
    case neg => simp [c6]
    by_cases c7 : a8 = b8
    case neg => simp [c7]
    by_cases c8 : a9 = b9
    case neg => simp [c8]
    exact absurd ⟨c0, c1, c2, by omega, c4, c5, c6, c7, c8⟩ hn
theorem eqF_agg {P : Program} {W : World} (d : Nat) (xs ys : Array Value) (f : Field) (fs : List Field) (X Y : Array Value) (b : Bool) (hn : f.name ≠ "_") (hx : (part f.type xs f.offset).run P W = .ok (.agg X) W) (hy : (part f.type ys f.offset).run P W = .ok (.agg Y) W)
    (hE : (Op.equalIn (d + 1) f.type (.agg X) (.agg Y)).run P W = .ok b W) : (Op.eqFields (d + 1) xs ys (f :: fs)).run P W = if b = true then (Op.eqFields (d + 1) xs ys fs).run P W else .ok false W := by
  simp only [Op.eqFields, if_pos hn, Sem.run_bind, hx, hy, Result.andThen_ok, hE]
  cases b <;> simp
theorem part_stub (x : It) (W : World) : (part 26 x.cells 1).run Tryd.prog W = .ok (.agg x.stub.cells) W := by kernel_rfl
theorem part_entry (x : It) (W : World) : (part 24 x.cells 6).run Tryd.prog W = .ok (.agg x.entry.cells) W := by kernel_rfl
theorem part_kind (x : It) (W : World) : (part 3 x.cells 0).run Tryd.prog W = .ok (.int .i64 x.kind) W := by kernel_rfl
theorem eqIt (d : Nat) (x y : It) (W : World) (b : Bool) (h : (b = true ∧ x = y) ∨ (b = false ∧ x.kind ≠ y.kind)) : (Op.equalIn (d + 4) 41 (.agg x.cells) (.agg y.cells)).run Tryd.prog W = .ok b W := by
  rw [run_equalIn_struct W (d + 3) 41 x.cells y.cells (by kernel_rfl) (by kernel_rfl), itemFields]
  rw [eqF_int (P := Tryd.prog) (W := W) (d + 2) x.cells y.cells { name := "Kind", type := 3, offset := 0, embedded := false, tag := "", pkgPath := "", byteOffset := 0 } _ .i64 x.kind y.kind (by simp) (part_kind x W) (part_kind y W) Tryd.underlying3]
  rcases h with ⟨rfl, rfl⟩ | ⟨rfl, h⟩
  · rw [if_pos rfl]
    rw [eqF_agg (P := Tryd.prog) (W := W) (d + 2) x.cells x.cells { name := "Stub", type := 26, offset := 1, embedded := false, tag := "", pkgPath := "", byteOffset := 8 } _ x.stub.cells x.stub.cells (decide (x.stub = x.stub)) (by simp) (part_stub x W) (part_stub x W) (eqSt (d + 1) x.stub x.stub W)]
    rw [if_pos (by simp)]
    rw [eqF_agg (P := Tryd.prog) (W := W) (d + 2) x.cells x.cells { name := "Entry", type := 24, offset := 6, embedded := false, tag := "", pkgPath := "", byteOffset := 48 } _ x.entry.cells x.entry.cells true (by simp) (part_entry x W) (part_entry x W) (eqEn2 (d + 1) x.entry x.entry true (by simp) W)]
    rw [if_pos rfl, eqF_nil]
  · rw [if_neg h]
theorem wpl_run {P : Program} {ops : Array Oper} {rest : List Oper} {o : Oper} {a : Act} {w : World} {Q : Exit → Act → World → Prop} (hw : Region.wanted o (yielded ops a.tmps) = true) (v : Value) (hrun : ∀ w, (execOp a.eval o).run P w = .ok (.value v) w)
    (h : wpList P ops Q rest (a.put o.dst v) w) : wpList P ops Q (o :: rest) a w := by
  refine BigFrame.wpList_want hw fun K hK => ?_
  unfold Oper.wp
  rw [hrun, Oper.upon_value]
  exact hK _ _ h
theorem egSt : Tryd.prog.eqGuardType Tryd.prog.depth 26 = false := by kernel_rfl
theorem egIt : Tryd.prog.eqGuardType Tryd.prog.depth 41 = false := by kernel_rfl
theorem wpl_load_midw {P : Program} {ops : Array Oper} {rest : List Oper} {o : Oper} {a : Act} {w : World} {Q : Exit → Act → World → Prop} (hw : Region.wanted o (yielded ops a.tmps) = true) (ty : TypeId) (x : Operand) (ho : o.op = .load ty x)
    (b k : Nat) (hx : a.eval x = .pointer (some ⟨b, k, none⟩)) (cs : List Value) (d : TypeDesc) (hc : w.rangeAt b k cs)
    (hu : P.underlying ty = some d) (hd : d.isRow = true) (hi : (P.info? ty).map (·.size) = some cs.length)
    (h : wpList P ops Q rest (a.put o.dst (.agg cs.toArray)) w) : wpList P ops Q (o :: rest) a w :=
  BigFrame.wpList_want hw fun _ hK => wp_load_mid ty x ho b k hx cs d hc hu hd hi (hK _ _ h)
theorem item_entry {W : World} {g : Nat} (x : It) (h : Row W g 41 x.cells.toList) : W.rangeAt g 6 x.entry.cells.toList := fun j v hv => by
  rw [h.cell]
  have e : x.cells.toList = [.int .i64 x.kind, .int .i64 x.stub.opn, .int .i64 x.stub.view, .int .i64 x.stub.under, .int .u64 (x.stub.parent : Int), .int .u64 (x.stub.sum : Int)] ++ x.entry.cells.toList := rfl
  rw [e, List.getElem?_append_right (by simp)]
  simpa using hv
section
variable {ops : Array Oper} {rest : List Oper} {o : Oper} {a : Act} {w : World} {Q : Exit → Act → World → Prop}
theorem wpl_eqs (hw : Region.wanted o (yielded ops a.tmps) = true) (s t : St) (b : Bool) (x y : Operand) (ty : TypeId) (ho : o.op = .binOp .eql 26 x y ty)
    (hx : a.eval x = .agg s.cells) (hy : a.eval y = .agg t.cells) (hb : Hid (decide (s = t) = b)) (h : wpList Tryd.prog ops Q rest (a.put o.dst (.bool b)) w) : wpList Tryd.prog ops Q (o :: rest) a w := by
  refine BigFrame.wpList_want hw fun K hK => ?_
  have hEQ := hb.out ▸ eqSt 9998 s t w
  have hEG := egSt
  generalize s.cells = Z at *
  generalize t.cells = Y at *
  unfold Oper.wp execOp
  simp [ho, hx, hy, eqGuard, hEG, binOp, Op.equal, Op.maxDepth, hEQ, Result.andThen]
  exact hK _ _ h
theorem wpl_nes (hw : Region.wanted o (yielded ops a.tmps) = true) (s t : St) (b : Bool) (x y : Operand) (ty : TypeId) (ho : o.op = .binOp .neq 26 x y ty)
    (hx : a.eval x = .agg s.cells) (hy : a.eval y = .agg t.cells) (hb : Hid (decide (s = t) = b)) (h : wpList Tryd.prog ops Q rest (a.put o.dst (.bool (!b))) w) : wpList Tryd.prog ops Q (o :: rest) a w := by
  refine BigFrame.wpList_want hw fun K hK => ?_
  have hEQ := hb.out ▸ eqSt 9998 s t w
  have hEG := egSt
  generalize s.cells = Z at *
  generalize t.cells = Y at *
  unfold Oper.wp execOp
  simp [ho, hx, hy, eqGuard, hEG, binOp, Op.equal, Op.maxDepth, hEQ, Result.andThen]
  exact hK _ _ h
theorem wpl_eqe2 (hw : Region.wanted o (yielded ops a.tmps) = true) (s t : En) (b : Bool) (x y : Operand) (ty : TypeId) (ho : o.op = .binOp .eql 24 x y ty)
    (hx : a.eval x = .agg s.cells) (hy : a.eval y = .agg t.cells) (hb : Hid (b = true ↔ s = t)) (h : wpList Tryd.prog ops Q rest (a.put o.dst (.bool b)) w) : wpList Tryd.prog ops Q (o :: rest) a w := by
  refine BigFrame.wpList_want hw fun K hK => ?_
  have hEQ := eqEn2 9998 s t b hb.out w
  have hEG := egEn
  generalize s.cells = Z at *
  generalize t.cells = Y at *
  unfold Oper.wp execOp
  simp [ho, hx, hy, eqGuard, hEG, binOp, Op.equal, Op.maxDepth, hEQ, Result.andThen]
  exact hK _ _ h
theorem wpl_nee2 (hw : Region.wanted o (yielded ops a.tmps) = true) (s t : En) (b : Bool) (x y : Operand) (ty : TypeId) (ho : o.op = .binOp .neq 24 x y ty)
    (hx : a.eval x = .agg s.cells) (hy : a.eval y = .agg t.cells) (hb : Hid (b = true ↔ s = t)) (h : wpList Tryd.prog ops Q rest (a.put o.dst (.bool (!b))) w) : wpList Tryd.prog ops Q (o :: rest) a w := by
  refine BigFrame.wpList_want hw fun K hK => ?_
  have hEQ := eqEn2 9998 s t b hb.out w
  have hEG := egEn
  generalize s.cells = Z at *
  generalize t.cells = Y at *
  unfold Oper.wp execOp
  simp [ho, hx, hy, eqGuard, hEG, binOp, Op.equal, Op.maxDepth, hEQ, Result.andThen]
  exact hK _ _ h
theorem wpl_eqi (hw : Region.wanted o (yielded ops a.tmps) = true) (s t : It) (b : Bool) (x y : Operand) (ty : TypeId) (ho : o.op = .binOp .eql 41 x y ty)
    (hx : a.eval x = .agg s.cells) (hy : a.eval y = .agg t.cells) (hb : Hid ((b = true ∧ s = t) ∨ (b = false ∧ s.kind ≠ t.kind))) (h : wpList Tryd.prog ops Q rest (a.put o.dst (.bool b)) w) : wpList Tryd.prog ops Q (o :: rest) a w := by
  refine BigFrame.wpList_want hw fun K hK => ?_
  have hEQ := eqIt 9996 s t w b hb.out
  have hEG := egIt
  generalize s.cells = Z at *
  generalize t.cells = Y at *
  unfold Oper.wp execOp
  simp [ho, hx, hy, eqGuard, hEG, binOp, Op.equal, Op.maxDepth, hEQ, Result.andThen]
  exact hK _ _ h
end
theorem yields_eqi {ops : Array Oper} {S : World → Prop} {o : Oper} {a : Act} (hw : Region.wanted o (yielded ops a.tmps) = true) (s t : It) (b : Bool) (hb : Hid ((b = true ∧ s = t) ∨ (b = false ∧ s.kind ≠ t.kind))) (x y : Operand) (ty : TypeId) (ho : o.op = .binOp .eql 41 x y ty)
    (hx : a.eval x = .agg s.cells) (hy : a.eval y = .agg t.cells) : YieldsIf Tryd.prog ops S o (.bool b) a :=
  .inl ⟨hw, fun w _ => by
    have hEG := egIt
    have hE := eqIt 9996 s t w b hb.out
    generalize s.cells = Z at *
    generalize t.cells = Y at *
    unfold execOp
    simp [ho, hx, hy, eqGuard, hEG, binOp, Op.equal, Op.maxDepth, hE, Result.andThen]⟩
theorem yields_eqs {ops : Array Oper} {S : World → Prop} {o : Oper} {a : Act} (hw : Region.wanted o (yielded ops a.tmps) = true) (s t : St) (b : Bool) (hb : Hid (decide (s = t) = b)) (x y : Operand) (ty : TypeId) (ho : o.op = .binOp .eql 26 x y ty)
    (hx : a.eval x = .agg s.cells) (hy : a.eval y = .agg t.cells) : YieldsIf Tryd.prog ops S o (.bool b) a :=
  .inl ⟨hw, fun w _ => by
    have hEG := egSt
    have hE := eqSt 9998 s t w
    rw [hb.out] at hE
    generalize s.cells = Z at *
    generalize t.cells = Y at *
    unfold execOp
    simp [ho, hx, hy, eqGuard, hEG, binOp, Op.equal, Op.maxDepth, hE, Result.andThen]⟩
theorem yields_nes {ops : Array Oper} {S : World → Prop} {o : Oper} {a : Act} (hw : Region.wanted o (yielded ops a.tmps) = true) (s t : St) (b : Bool) (hb : Hid (decide (s = t) = b)) (x y : Operand) (ty : TypeId) (ho : o.op = .binOp .neq 26 x y ty)
    (hx : a.eval x = .agg s.cells) (hy : a.eval y = .agg t.cells) : YieldsIf Tryd.prog ops S o (.bool (!b)) a :=
  .inl ⟨hw, fun w _ => by
    have hEG := egSt
    have hE := eqSt 9998 s t w
    rw [hb.out] at hE
    generalize s.cells = Z at *
    generalize t.cells = Y at *
    unfold execOp
    simp [ho, hx, hy, eqGuard, hEG, binOp, Op.equal, Op.maxDepth, hE, Result.andThen]⟩
end Go.Proofs.YtdcoiehhnllhmaaDoor
/-
  The walk of package slot's Judge.
-/
namespace Go.Proofs.YtdcoiehhnllhmaaDoor
open Go.RowKit
set_option maxRecDepth 10000

theorem isize : (Tryd.prog.info? 41).map (·.size) = some 15 := by kernel_rfl
theorem izero_one : (#[.int .i64 0, .int .i64 0, .int .i64 0, .int .i64 0, .int .u64 0, .int .u64 0, .int .i64 0, .int .i64 0, .int .i64 0, .int .u64 0, .int .i64 0, .int .i64 0, .int .i64 0, .int .i64 0, .string ⟨#[]⟩] : Array Value).all (·.oneCell') = true := by simp [Value.oneCell']
set_option maxHeartbeats 1000000 in
theorem sjudge_1 (p h : ByteArray) (n : Int) (e : En) (s t : St) (bk br : Bool) (w : World) (hf : Fd w) (hon : (s.opn == n) = true) (heq : Hid (decide (t = s) = true))
    (HE : Hid (∀ W : World, Fd W → Calls Tryd.prog 20 #[.string p] W (LQ W #[.int .i64 e.view, .int .i64 e.opn, .int .i64 e.under, .int .u64 (e.parent : Int), .int .i64 e.client, .int .i64 e.session, .int .i64 e.request, .int .i64 e.oper, .string e.body] bk br)))
    (HS : Hid (∀ W : World, Calls Tryd.prog 21 #[.string h] W (LQ W #[.int .i64 s.opn, .int .i64 s.view, .int .i64 s.under, .int .u64 (s.parent : Int), .int .u64 (s.sum : Int)] true true)))
    (HT : Hid (∀ W : World, Fd W → Calls Tryd.prog 16 #[.agg #[.int .i64 e.view, .int .i64 e.opn, .int .i64 e.under, .int .u64 (e.parent : Int), .int .i64 e.client, .int .i64 e.session, .int .i64 e.request, .int .i64 e.oper, .string e.body]] W (VE W (.agg #[.int .i64 t.opn, .int .i64 t.view, .int .i64 t.under, .int .u64 (t.parent : Int), .int .u64 (t.sum : Int)])))) :
    Calls Tryd.prog 24 #[.string p, .string h, .int .i64 n] w (VE w (⟨1, t, e⟩ : It).val) := by
  have HZE := hid esize
  have HZS := hid stsize
  have HZI := hid isize
  have HFd := hid hf
  clear hf
  go_enter Tryd.func24, Tryd.ntmps24
  go_wp2_with (first
    | (go_at_call 20; refine (HE.out _ (HFd.out.below ((Below.refl w.heap.size w).alloc (Nat.le_refl _) _) HFd.out.1)).mono ?_; rintro x w1 ⟨rfl, hb1⟩; have hri := (Row.new w 41 #[.int .i64 0, .int .i64 0, .int .i64 0, .int .i64 0, .int .u64 0, .int .u64 0, .int .i64 0, .int .i64 0, .int .i64 0, .int .u64 0, .int .i64 0, .int .i64 0, .int .i64 0, .int .i64 0, .string ⟨#[]⟩]).below hb1 (by simp); have hbe := ((Below.refl w.heap.size w).alloc (Nat.le_refl _) (.cells #[.int .i64 0, .int .i64 0, .int .i64 0, .int .i64 0, .int .u64 0, .int .u64 0, .int .i64 0, .int .i64 0, .int .i64 0, .int .u64 0, .int .i64 0, .int .i64 0, .int .i64 0, .int .i64 0, .string ⟨#[]⟩] 41)).trans (hb1.mono (by simp)))
    | ((with_reducible show wpList _ _ _ ({ dst := none, op := .store _ (.tmp 7) (.tmp 17), type := _, pos := _, after := _, guard := _ } :: _) _ _); refine wpl_store_st rfl (.tmp 7) (.tmp 17) rfl (n := 9) HZE.out w1.heap.size #[.int .i64 0, .int .i64 0, .int .i64 0, .int .u64 0, .int .i64 0, .int .i64 0, .int .i64 0, .int .i64 0, .string ⟨#[]⟩] #[.int .i64 e.view, .int .i64 e.opn, .int .i64 e.under, .int .u64 (e.parent : Int), .int .i64 e.client, .int .i64 e.session, .int .i64 e.request, .int .i64 e.oper, .string e.body] rfl rfl (Row.new _ _ _) ?_ (hid rfl) (hid rfl) (hid (ecells_one e)); intro w2 hre HB2; replace hri := (hri.alloc (.cells #[.int .i64 0, .int .i64 0, .int .i64 0, .int .u64 0, .int .i64 0, .int .i64 0, .int .i64 0, .int .i64 0, .string ⟨#[]⟩] 24)).grown HB2 (by have := hri.lt; intro e; have := Option.some.inj e; omega); replace hbe := (hbe.alloc hbe.size (.cells #[.int .i64 0, .int .i64 0, .int .i64 0, .int .u64 0, .int .i64 0, .int .i64 0, .int .i64 0, .int .i64 0, .string ⟨#[]⟩] 24)).trans (below_grown HB2 hbe.size (by have := hbe.size; simp; omega)))
    | (go_at_call 21; refine (HS.out _).mono ?_; rintro x w3 ⟨rfl, hb3⟩; replace hri := hri.below hb3 hri.lt; replace hre := hre.below hb3 hre.lt; replace hbe := hbe.trans (hb3.mono hbe.size))
    | ((with_reducible show wpList _ _ _ ({ dst := none, op := .store _ (.tmp 10) (.tmp 23), type := _, pos := _, after := _, guard := _ } :: _) _ _); refine wpl_store_st rfl (.tmp 10) (.tmp 23) rfl (n := 5) HZS.out w3.heap.size #[.int .i64 0, .int .i64 0, .int .i64 0, .int .u64 0, .int .u64 0] #[.int .i64 s.opn, .int .i64 s.view, .int .i64 s.under, .int .u64 (s.parent : Int), .int .u64 (s.sum : Int)] rfl rfl (Row.new _ _ _) ?_ (hid rfl) (hid rfl) (hid (stcells_one s)); intro w4 hrs HB4; replace hri := (hri.alloc (.cells #[.int .i64 0, .int .i64 0, .int .i64 0, .int .u64 0, .int .u64 0] 26)).grown HB4 (by have := hri.lt; intro e; have := Option.some.inj e; omega); replace hre := (hre.alloc (.cells #[.int .i64 0, .int .i64 0, .int .i64 0, .int .u64 0, .int .u64 0] 26)).grown HB4 (by have := hre.lt; intro e; have := Option.some.inj e; omega); replace hbe := (hbe.alloc hbe.size (.cells #[.int .i64 0, .int .i64 0, .int .i64 0, .int .u64 0, .int .u64 0] 26)).trans (below_grown HB4 hbe.size (by have := hbe.size; simp; omega)))
    | ((with_reducible show wpList _ _ _ ({ dst := some 26, op := _, type := _, pos := _, after := _, guard := _ } :: _) _ _); refine wpList_load_row rfl 24 (.tmp 7) rfl w1.heap.size rfl 24 #[.int .i64 e.view, .int .i64 e.opn, .int .i64 e.under, .int .u64 (e.parent : Int), .int .i64 e.client, .int .i64 e.session, .int .i64 e.request, .int .i64 e.oper, .string e.body] (0, 0) _ (Row.arr (cs := #[.int .i64 e.view, .int .i64 e.opn, .int .i64 e.under, .int .u64 (e.parent : Int), .int .i64 e.client, .int .i64 e.session, .int .i64 e.request, .int .i64 e.oper, .string e.body]) hre) Tryd.underlying24 rfl HZE.out ?_)
    | (go_at_call 16; refine (HT.out _ (HFd.out.below hbe HFd.out.1)).mono ?_; rintro x w5 ⟨rfl, hb5⟩; replace hri := hri.below hb5 hri.lt; replace hre := hre.below hb5 hre.lt; replace hrs := hrs.below hb5 hrs.lt; replace hbe := hbe.trans (hb5.mono hbe.size))
    | ((with_reducible show wpList _ _ _ ({ dst := none, op := .store _ (.tmp 13) (.tmp 27), type := _, pos := _, after := _, guard := _ } :: _) _ _); refine wpl_store_st rfl (.tmp 13) (.tmp 27) rfl (n := 5) HZS.out w5.heap.size #[.int .i64 0, .int .i64 0, .int .i64 0, .int .u64 0, .int .u64 0] #[.int .i64 t.opn, .int .i64 t.view, .int .i64 t.under, .int .u64 (t.parent : Int), .int .u64 (t.sum : Int)] rfl rfl (Row.new _ _ _) ?_ (hid rfl) (hid rfl) (hid (stcells_one t)); intro w6 hro HB6; replace hri := (hri.alloc (.cells #[.int .i64 0, .int .i64 0, .int .i64 0, .int .u64 0, .int .u64 0] 26)).grown HB6 (by have := hri.lt; intro e; have := Option.some.inj e; omega); replace hre := (hre.alloc (.cells #[.int .i64 0, .int .i64 0, .int .i64 0, .int .u64 0, .int .u64 0] 26)).grown HB6 (by have := hre.lt; intro e; have := Option.some.inj e; omega); replace hrs := (hrs.alloc (.cells #[.int .i64 0, .int .i64 0, .int .i64 0, .int .u64 0, .int .u64 0] 26)).grown HB6 (by have := hrs.lt; intro e; have := Option.some.inj e; omega); replace hbe := (hbe.alloc hbe.size (.cells #[.int .i64 0, .int .i64 0, .int .i64 0, .int .u64 0, .int .u64 0] 26)).trans (below_grown HB6 hbe.size (by have := hbe.size; simp; omega)); have he1 := hre.at_ 1 _ rfl; have hs0 := hrs.at_ 0 _ rfl)
    | ((with_reducible show wpList _ _ _ ({ dst := some 37, op := _, type := _, pos := _, after := _, guard := _ } :: _) _ _); refine wpl_load_want rfl 26 (.tmp 13) rfl w5.heap.size rfl 26 #[.int .i64 t.opn, .int .i64 t.view, .int .i64 t.under, .int .u64 (t.parent : Int), .int .u64 (t.sum : Int)] (0, 0) _ (Row.arr (cs := #[.int .i64 t.opn, .int .i64 t.view, .int .i64 t.under, .int .u64 (t.parent : Int), .int .u64 (t.sum : Int)]) hro) Tryd.underlying26 rfl HZS.out ?_)
    | ((with_reducible show wpList _ _ _ ({ dst := some 38, op := _, type := _, pos := _, after := _, guard := _ } :: _) _ _); refine wpl_load_want rfl 26 (.tmp 10) rfl w3.heap.size rfl 26 #[.int .i64 s.opn, .int .i64 s.view, .int .i64 s.under, .int .u64 (s.parent : Int), .int .u64 (s.sum : Int)] (0, 0) _ (Row.arr (cs := #[.int .i64 s.opn, .int .i64 s.view, .int .i64 s.under, .int .u64 (s.parent : Int), .int .u64 (s.sum : Int)]) hrs) Tryd.underlying26 rfl HZS.out ?_)
    | ((with_reducible show wpList _ _ _ ({ dst := some 39, op := _, type := _, pos := _, after := _, guard := _ } :: _) _ _); refine wpl_eqs rfl t s true (.tmp 37) (.tmp 38) _ rfl rfl rfl heq ?_)
    | ((with_reducible show wpList _ _ _ ({ dst := some 41, op := _, type := _, pos := _, after := _, guard := _ } :: _) _ _); refine wpl_load_want rfl 26 (.tmp 13) rfl w5.heap.size rfl 26 #[.int .i64 t.opn, .int .i64 t.view, .int .i64 t.under, .int .u64 (t.parent : Int), .int .u64 (t.sum : Int)] (0, 0) _ (Row.arr (cs := #[.int .i64 t.opn, .int .i64 t.view, .int .i64 t.under, .int .u64 (t.parent : Int), .int .u64 (t.sum : Int)]) hro) Tryd.underlying26 rfl HZS.out ?_)
    | ((with_reducible show wpList _ _ _ ({ dst := some 42, op := _, type := _, pos := _, after := _, guard := _ } :: _) _ _); refine wpl_load_want rfl 24 (.tmp 7) rfl w1.heap.size rfl 24 #[.int .i64 e.view, .int .i64 e.opn, .int .i64 e.under, .int .u64 (e.parent : Int), .int .i64 e.client, .int .i64 e.session, .int .i64 e.request, .int .i64 e.oper, .string e.body] (0, 0) _ (Row.arr (cs := #[.int .i64 e.view, .int .i64 e.opn, .int .i64 e.under, .int .u64 (e.parent : Int), .int .i64 e.client, .int .i64 e.session, .int .i64 e.request, .int .i64 e.oper, .string e.body]) hre) Tryd.underlying24 rfl HZE.out ?_)
    | ((with_reducible show wpList _ _ _ ({ dst := none, op := .store _ (.tmp 6) (.tmp 43), type := _, pos := _, after := _, guard := _ } :: _) _ _); refine wpl_store_st rfl (.tmp 6) (.tmp 43) rfl (n := 15) HZI.out w.heap.size #[.int .i64 0, .int .i64 0, .int .i64 0, .int .i64 0, .int .u64 0, .int .u64 0, .int .i64 0, .int .i64 0, .int .i64 0, .int .u64 0, .int .i64 0, .int .i64 0, .int .i64 0, .int .i64 0, .string ⟨#[]⟩] #[.int .i64 1, .int .i64 t.opn, .int .i64 t.view, .int .i64 t.under, .int .u64 (t.parent : Int), .int .u64 (t.sum : Int), .int .i64 e.view, .int .i64 e.opn, .int .i64 e.under, .int .u64 (e.parent : Int), .int .i64 e.client, .int .i64 e.session, .int .i64 e.request, .int .i64 e.oper, .string e.body] rfl rfl hri ?_ (hid rfl) (hid rfl) (hid (by simp [Value.oneCell'])); intro w7 hr7 HB7))
  exact bodyPost_ret (v := .agg #[.int .i64 1, .int .i64 t.opn, .int .i64 t.view, .int .i64 t.under, .int .u64 (t.parent : Int), .int .u64 (t.sum : Int), .int .i64 e.view, .int .i64 e.opn, .int .i64 e.under, .int .u64 (e.parent : Int), .int .i64 e.client, .int .i64 e.session, .int .i64 e.request, .int .i64 e.oper, .string e.body]) (results_cell_row rfl _ _ w.heap.size 41 #[.int .i64 1, .int .i64 t.opn, .int .i64 t.view, .int .i64 t.under, .int .u64 (t.parent : Int), .int .u64 (t.sum : Int), .int .i64 e.view, .int .i64 e.opn, .int .i64 e.under, .int .u64 (e.parent : Int), .int .i64 e.client, .int .i64 e.session, .int .i64 e.request, .int .i64 e.oper, .string e.body] (0, 0) _ rfl (Row.arr (cs := #[.int .i64 1, .int .i64 t.opn, .int .i64 t.view, .int .i64 t.under, .int .u64 (t.parent : Int), .int .u64 (t.sum : Int), .int .i64 e.view, .int .i64 e.opn, .int .i64 e.under, .int .u64 (e.parent : Int), .int .i64 e.client, .int .i64 e.session, .int .i64 e.request, .int .i64 e.oper, .string e.body]) hr7) Tryd.underlying41 rfl HZI.out) rfl ⟨rfl, hbe.trans (below_grown HB7 (Nat.le_refl _) hbe.size)⟩
set_option maxHeartbeats 1000000 in
theorem sjudge_2 (p h : ByteArray) (n : Int) (e : En) (s t : St) (bk br : Bool) (w : World) (hf : Fd w) (hon : (s.opn == n) = true) (heq : Hid (decide (t = s) = false))
    (HE : Hid (∀ W : World, Fd W → Calls Tryd.prog 20 #[.string p] W (LQ W #[.int .i64 e.view, .int .i64 e.opn, .int .i64 e.under, .int .u64 (e.parent : Int), .int .i64 e.client, .int .i64 e.session, .int .i64 e.request, .int .i64 e.oper, .string e.body] bk br)))
    (HS : Hid (∀ W : World, Calls Tryd.prog 21 #[.string h] W (LQ W #[.int .i64 s.opn, .int .i64 s.view, .int .i64 s.under, .int .u64 (s.parent : Int), .int .u64 (s.sum : Int)] true true)))
    (HT : Hid (∀ W : World, Fd W → Calls Tryd.prog 16 #[.agg #[.int .i64 e.view, .int .i64 e.opn, .int .i64 e.under, .int .u64 (e.parent : Int), .int .i64 e.client, .int .i64 e.session, .int .i64 e.request, .int .i64 e.oper, .string e.body]] W (VE W (.agg #[.int .i64 t.opn, .int .i64 t.view, .int .i64 t.under, .int .u64 (t.parent : Int), .int .u64 (t.sum : Int)])))) :
    Calls Tryd.prog 24 #[.string p, .string h, .int .i64 n] w (VE w (⟨2, s, en0⟩ : It).val) := by
  have HZE := hid esize
  have HZS := hid stsize
  have HZI := hid isize
  have HFd := hid hf
  clear hf
  go_enter Tryd.func24, Tryd.ntmps24
  go_wp2_with (first
    | (go_at_call 20; refine (HE.out _ (HFd.out.below ((Below.refl w.heap.size w).alloc (Nat.le_refl _) _) HFd.out.1)).mono ?_; rintro x w1 ⟨rfl, hb1⟩; have hri := (Row.new w 41 #[.int .i64 0, .int .i64 0, .int .i64 0, .int .i64 0, .int .u64 0, .int .u64 0, .int .i64 0, .int .i64 0, .int .i64 0, .int .u64 0, .int .i64 0, .int .i64 0, .int .i64 0, .int .i64 0, .string ⟨#[]⟩]).below hb1 (by simp); have hbe := ((Below.refl w.heap.size w).alloc (Nat.le_refl _) (.cells #[.int .i64 0, .int .i64 0, .int .i64 0, .int .i64 0, .int .u64 0, .int .u64 0, .int .i64 0, .int .i64 0, .int .i64 0, .int .u64 0, .int .i64 0, .int .i64 0, .int .i64 0, .int .i64 0, .string ⟨#[]⟩] 41)).trans (hb1.mono (by simp)))
    | ((with_reducible show wpList _ _ _ ({ dst := none, op := .store _ (.tmp 7) (.tmp 17), type := _, pos := _, after := _, guard := _ } :: _) _ _); refine wpl_store_st rfl (.tmp 7) (.tmp 17) rfl (n := 9) HZE.out w1.heap.size #[.int .i64 0, .int .i64 0, .int .i64 0, .int .u64 0, .int .i64 0, .int .i64 0, .int .i64 0, .int .i64 0, .string ⟨#[]⟩] #[.int .i64 e.view, .int .i64 e.opn, .int .i64 e.under, .int .u64 (e.parent : Int), .int .i64 e.client, .int .i64 e.session, .int .i64 e.request, .int .i64 e.oper, .string e.body] rfl rfl (Row.new _ _ _) ?_ (hid rfl) (hid rfl) (hid (ecells_one e)); intro w2 hre HB2; replace hri := (hri.alloc (.cells #[.int .i64 0, .int .i64 0, .int .i64 0, .int .u64 0, .int .i64 0, .int .i64 0, .int .i64 0, .int .i64 0, .string ⟨#[]⟩] 24)).grown HB2 (by have := hri.lt; intro e; have := Option.some.inj e; omega); replace hbe := (hbe.alloc hbe.size (.cells #[.int .i64 0, .int .i64 0, .int .i64 0, .int .u64 0, .int .i64 0, .int .i64 0, .int .i64 0, .int .i64 0, .string ⟨#[]⟩] 24)).trans (below_grown HB2 hbe.size (by have := hbe.size; simp; omega)))
    | (go_at_call 21; refine (HS.out _).mono ?_; rintro x w3 ⟨rfl, hb3⟩; replace hri := hri.below hb3 hri.lt; replace hre := hre.below hb3 hre.lt; replace hbe := hbe.trans (hb3.mono hbe.size))
    | ((with_reducible show wpList _ _ _ ({ dst := none, op := .store _ (.tmp 10) (.tmp 23), type := _, pos := _, after := _, guard := _ } :: _) _ _); refine wpl_store_st rfl (.tmp 10) (.tmp 23) rfl (n := 5) HZS.out w3.heap.size #[.int .i64 0, .int .i64 0, .int .i64 0, .int .u64 0, .int .u64 0] #[.int .i64 s.opn, .int .i64 s.view, .int .i64 s.under, .int .u64 (s.parent : Int), .int .u64 (s.sum : Int)] rfl rfl (Row.new _ _ _) ?_ (hid rfl) (hid rfl) (hid (stcells_one s)); intro w4 hrs HB4; replace hri := (hri.alloc (.cells #[.int .i64 0, .int .i64 0, .int .i64 0, .int .u64 0, .int .u64 0] 26)).grown HB4 (by have := hri.lt; intro e; have := Option.some.inj e; omega); replace hre := (hre.alloc (.cells #[.int .i64 0, .int .i64 0, .int .i64 0, .int .u64 0, .int .u64 0] 26)).grown HB4 (by have := hre.lt; intro e; have := Option.some.inj e; omega); replace hbe := (hbe.alloc hbe.size (.cells #[.int .i64 0, .int .i64 0, .int .i64 0, .int .u64 0, .int .u64 0] 26)).trans (below_grown HB4 hbe.size (by have := hbe.size; simp; omega)))
    | ((with_reducible show wpList _ _ _ ({ dst := some 26, op := _, type := _, pos := _, after := _, guard := _ } :: _) _ _); refine wpList_load_row rfl 24 (.tmp 7) rfl w1.heap.size rfl 24 #[.int .i64 e.view, .int .i64 e.opn, .int .i64 e.under, .int .u64 (e.parent : Int), .int .i64 e.client, .int .i64 e.session, .int .i64 e.request, .int .i64 e.oper, .string e.body] (0, 0) _ (Row.arr (cs := #[.int .i64 e.view, .int .i64 e.opn, .int .i64 e.under, .int .u64 (e.parent : Int), .int .i64 e.client, .int .i64 e.session, .int .i64 e.request, .int .i64 e.oper, .string e.body]) hre) Tryd.underlying24 rfl HZE.out ?_)
    | (go_at_call 16; refine (HT.out _ (HFd.out.below hbe HFd.out.1)).mono ?_; rintro x w5 ⟨rfl, hb5⟩; replace hri := hri.below hb5 hri.lt; replace hre := hre.below hb5 hre.lt; replace hrs := hrs.below hb5 hrs.lt; replace hbe := hbe.trans (hb5.mono hbe.size))
    | ((with_reducible show wpList _ _ _ ({ dst := none, op := .store _ (.tmp 13) (.tmp 27), type := _, pos := _, after := _, guard := _ } :: _) _ _); refine wpl_store_st rfl (.tmp 13) (.tmp 27) rfl (n := 5) HZS.out w5.heap.size #[.int .i64 0, .int .i64 0, .int .i64 0, .int .u64 0, .int .u64 0] #[.int .i64 t.opn, .int .i64 t.view, .int .i64 t.under, .int .u64 (t.parent : Int), .int .u64 (t.sum : Int)] rfl rfl (Row.new _ _ _) ?_ (hid rfl) (hid rfl) (hid (stcells_one t)); intro w6 hro HB6; replace hri := (hri.alloc (.cells #[.int .i64 0, .int .i64 0, .int .i64 0, .int .u64 0, .int .u64 0] 26)).grown HB6 (by have := hri.lt; intro e; have := Option.some.inj e; omega); replace hre := (hre.alloc (.cells #[.int .i64 0, .int .i64 0, .int .i64 0, .int .u64 0, .int .u64 0] 26)).grown HB6 (by have := hre.lt; intro e; have := Option.some.inj e; omega); replace hrs := (hrs.alloc (.cells #[.int .i64 0, .int .i64 0, .int .i64 0, .int .u64 0, .int .u64 0] 26)).grown HB6 (by have := hrs.lt; intro e; have := Option.some.inj e; omega); replace hbe := (hbe.alloc hbe.size (.cells #[.int .i64 0, .int .i64 0, .int .i64 0, .int .u64 0, .int .u64 0] 26)).trans (below_grown HB6 hbe.size (by have := hbe.size; simp; omega)); have he1 := hre.at_ 1 _ rfl; have hs0 := hrs.at_ 0 _ rfl)
    | ((with_reducible show wpList _ _ _ ({ dst := some 37, op := _, type := _, pos := _, after := _, guard := _ } :: _) _ _); refine wpl_load_want rfl 26 (.tmp 13) rfl w5.heap.size rfl 26 #[.int .i64 t.opn, .int .i64 t.view, .int .i64 t.under, .int .u64 (t.parent : Int), .int .u64 (t.sum : Int)] (0, 0) _ (Row.arr (cs := #[.int .i64 t.opn, .int .i64 t.view, .int .i64 t.under, .int .u64 (t.parent : Int), .int .u64 (t.sum : Int)]) hro) Tryd.underlying26 rfl HZS.out ?_)
    | ((with_reducible show wpList _ _ _ ({ dst := some 38, op := _, type := _, pos := _, after := _, guard := _ } :: _) _ _); refine wpl_load_want rfl 26 (.tmp 10) rfl w3.heap.size rfl 26 #[.int .i64 s.opn, .int .i64 s.view, .int .i64 s.under, .int .u64 (s.parent : Int), .int .u64 (s.sum : Int)] (0, 0) _ (Row.arr (cs := #[.int .i64 s.opn, .int .i64 s.view, .int .i64 s.under, .int .u64 (s.parent : Int), .int .u64 (s.sum : Int)]) hrs) Tryd.underlying26 rfl HZS.out ?_)
    | ((with_reducible show wpList _ _ _ ({ dst := some 39, op := _, type := _, pos := _, after := _, guard := _ } :: _) _ _); refine wpl_eqs rfl t s false (.tmp 37) (.tmp 38) _ rfl rfl rfl heq ?_)
    | ((with_reducible show wpList _ _ _ ({ dst := some 52, op := _, type := _, pos := _, after := _, guard := _ } :: _) _ _); refine wpl_load_want rfl 26 (.tmp 10) rfl w3.heap.size rfl 26 #[.int .i64 s.opn, .int .i64 s.view, .int .i64 s.under, .int .u64 (s.parent : Int), .int .u64 (s.sum : Int)] (0, 0) _ (Row.arr (cs := #[.int .i64 s.opn, .int .i64 s.view, .int .i64 s.under, .int .u64 (s.parent : Int), .int .u64 (s.sum : Int)]) hrs) Tryd.underlying26 rfl HZS.out ?_)
    | ((with_reducible show wpList _ _ _ ({ dst := none, op := .store _ (.tmp 6) (.tmp 53), type := _, pos := _, after := _, guard := _ } :: _) _ _); refine wpl_store_st rfl (.tmp 6) (.tmp 53) rfl (n := 15) HZI.out w.heap.size #[.int .i64 0, .int .i64 0, .int .i64 0, .int .i64 0, .int .u64 0, .int .u64 0, .int .i64 0, .int .i64 0, .int .i64 0, .int .u64 0, .int .i64 0, .int .i64 0, .int .i64 0, .int .i64 0, .string ⟨#[]⟩] #[.int .i64 2, .int .i64 s.opn, .int .i64 s.view, .int .i64 s.under, .int .u64 (s.parent : Int), .int .u64 (s.sum : Int), .int .i64 0, .int .i64 0, .int .i64 0, .int .u64 0, .int .i64 0, .int .i64 0, .int .i64 0, .int .i64 0, .string ⟨#[]⟩] rfl rfl hri ?_ (hid rfl) (hid rfl) (hid (by simp [Value.oneCell'])); intro w7 hr7 HB7))
  exact bodyPost_ret (v := .agg #[.int .i64 2, .int .i64 s.opn, .int .i64 s.view, .int .i64 s.under, .int .u64 (s.parent : Int), .int .u64 (s.sum : Int), .int .i64 0, .int .i64 0, .int .i64 0, .int .u64 0, .int .i64 0, .int .i64 0, .int .i64 0, .int .i64 0, .string ⟨#[]⟩]) (results_cell_row rfl _ _ w.heap.size 41 #[.int .i64 2, .int .i64 s.opn, .int .i64 s.view, .int .i64 s.under, .int .u64 (s.parent : Int), .int .u64 (s.sum : Int), .int .i64 0, .int .i64 0, .int .i64 0, .int .u64 0, .int .i64 0, .int .i64 0, .int .i64 0, .int .i64 0, .string ⟨#[]⟩] (0, 0) _ rfl (Row.arr (cs := #[.int .i64 2, .int .i64 s.opn, .int .i64 s.view, .int .i64 s.under, .int .u64 (s.parent : Int), .int .u64 (s.sum : Int), .int .i64 0, .int .i64 0, .int .i64 0, .int .u64 0, .int .i64 0, .int .i64 0, .int .i64 0, .int .i64 0, .string ⟨#[]⟩]) hr7) Tryd.underlying41 rfl HZI.out) rfl ⟨rfl, hbe.trans (below_grown HB7 (Nat.le_refl _) hbe.size)⟩
set_option maxHeartbeats 1000000 in
theorem sjudge_3 (p h : ByteArray) (n : Int) (e : En) (s t : St) (bk br : Bool) (w : World) (hf : Fd w) (hon : (s.opn == n) = false)
    (HE : Hid (∀ W : World, Fd W → Calls Tryd.prog 20 #[.string p] W (LQ W #[.int .i64 e.view, .int .i64 e.opn, .int .i64 e.under, .int .u64 (e.parent : Int), .int .i64 e.client, .int .i64 e.session, .int .i64 e.request, .int .i64 e.oper, .string e.body] bk br)))
    (HS : Hid (∀ W : World, Calls Tryd.prog 21 #[.string h] W (LQ W #[.int .i64 s.opn, .int .i64 s.view, .int .i64 s.under, .int .u64 (s.parent : Int), .int .u64 (s.sum : Int)] true true)))
    (HT : Hid (∀ W : World, Fd W → Calls Tryd.prog 16 #[.agg #[.int .i64 e.view, .int .i64 e.opn, .int .i64 e.under, .int .u64 (e.parent : Int), .int .i64 e.client, .int .i64 e.session, .int .i64 e.request, .int .i64 e.oper, .string e.body]] W (VE W (.agg #[.int .i64 t.opn, .int .i64 t.view, .int .i64 t.under, .int .u64 (t.parent : Int), .int .u64 (t.sum : Int)])))) :
    Calls Tryd.prog 24 #[.string p, .string h, .int .i64 n] w (VE w (⟨0, st0, en0⟩ : It).val) := by
  have HZE := hid esize
  have HZS := hid stsize
  have HZI := hid isize
  have HFd := hid hf
  clear hf
  go_enter Tryd.func24, Tryd.ntmps24
  go_wp2_with (first
    | (go_at_call 20; refine (HE.out _ (HFd.out.below ((Below.refl w.heap.size w).alloc (Nat.le_refl _) _) HFd.out.1)).mono ?_; rintro x w1 ⟨rfl, hb1⟩; have hri := (Row.new w 41 #[.int .i64 0, .int .i64 0, .int .i64 0, .int .i64 0, .int .u64 0, .int .u64 0, .int .i64 0, .int .i64 0, .int .i64 0, .int .u64 0, .int .i64 0, .int .i64 0, .int .i64 0, .int .i64 0, .string ⟨#[]⟩]).below hb1 (by simp); have hbe := ((Below.refl w.heap.size w).alloc (Nat.le_refl _) (.cells #[.int .i64 0, .int .i64 0, .int .i64 0, .int .i64 0, .int .u64 0, .int .u64 0, .int .i64 0, .int .i64 0, .int .i64 0, .int .u64 0, .int .i64 0, .int .i64 0, .int .i64 0, .int .i64 0, .string ⟨#[]⟩] 41)).trans (hb1.mono (by simp)))
    | ((with_reducible show wpList _ _ _ ({ dst := none, op := .store _ (.tmp 7) (.tmp 17), type := _, pos := _, after := _, guard := _ } :: _) _ _); refine wpl_store_st rfl (.tmp 7) (.tmp 17) rfl (n := 9) HZE.out w1.heap.size #[.int .i64 0, .int .i64 0, .int .i64 0, .int .u64 0, .int .i64 0, .int .i64 0, .int .i64 0, .int .i64 0, .string ⟨#[]⟩] #[.int .i64 e.view, .int .i64 e.opn, .int .i64 e.under, .int .u64 (e.parent : Int), .int .i64 e.client, .int .i64 e.session, .int .i64 e.request, .int .i64 e.oper, .string e.body] rfl rfl (Row.new _ _ _) ?_ (hid rfl) (hid rfl) (hid (ecells_one e)); intro w2 hre HB2; replace hri := (hri.alloc (.cells #[.int .i64 0, .int .i64 0, .int .i64 0, .int .u64 0, .int .i64 0, .int .i64 0, .int .i64 0, .int .i64 0, .string ⟨#[]⟩] 24)).grown HB2 (by have := hri.lt; intro e; have := Option.some.inj e; omega); replace hbe := (hbe.alloc hbe.size (.cells #[.int .i64 0, .int .i64 0, .int .i64 0, .int .u64 0, .int .i64 0, .int .i64 0, .int .i64 0, .int .i64 0, .string ⟨#[]⟩] 24)).trans (below_grown HB2 hbe.size (by have := hbe.size; simp; omega)))
    | (go_at_call 21; refine (HS.out _).mono ?_; rintro x w3 ⟨rfl, hb3⟩; replace hri := hri.below hb3 hri.lt; replace hre := hre.below hb3 hre.lt; replace hbe := hbe.trans (hb3.mono hbe.size))
    | ((with_reducible show wpList _ _ _ ({ dst := none, op := .store _ (.tmp 10) (.tmp 23), type := _, pos := _, after := _, guard := _ } :: _) _ _); refine wpl_store_st rfl (.tmp 10) (.tmp 23) rfl (n := 5) HZS.out w3.heap.size #[.int .i64 0, .int .i64 0, .int .i64 0, .int .u64 0, .int .u64 0] #[.int .i64 s.opn, .int .i64 s.view, .int .i64 s.under, .int .u64 (s.parent : Int), .int .u64 (s.sum : Int)] rfl rfl (Row.new _ _ _) ?_ (hid rfl) (hid rfl) (hid (stcells_one s)); intro w4 hrs HB4; replace hri := (hri.alloc (.cells #[.int .i64 0, .int .i64 0, .int .i64 0, .int .u64 0, .int .u64 0] 26)).grown HB4 (by have := hri.lt; intro e; have := Option.some.inj e; omega); replace hre := (hre.alloc (.cells #[.int .i64 0, .int .i64 0, .int .i64 0, .int .u64 0, .int .u64 0] 26)).grown HB4 (by have := hre.lt; intro e; have := Option.some.inj e; omega); replace hbe := (hbe.alloc hbe.size (.cells #[.int .i64 0, .int .i64 0, .int .i64 0, .int .u64 0, .int .u64 0] 26)).trans (below_grown HB4 hbe.size (by have := hbe.size; simp; omega)))
    | ((with_reducible show wpList _ _ _ ({ dst := some 26, op := _, type := _, pos := _, after := _, guard := _ } :: _) _ _); refine wpList_load_row rfl 24 (.tmp 7) rfl w1.heap.size rfl 24 #[.int .i64 e.view, .int .i64 e.opn, .int .i64 e.under, .int .u64 (e.parent : Int), .int .i64 e.client, .int .i64 e.session, .int .i64 e.request, .int .i64 e.oper, .string e.body] (0, 0) _ (Row.arr (cs := #[.int .i64 e.view, .int .i64 e.opn, .int .i64 e.under, .int .u64 (e.parent : Int), .int .i64 e.client, .int .i64 e.session, .int .i64 e.request, .int .i64 e.oper, .string e.body]) hre) Tryd.underlying24 rfl HZE.out ?_)
    | (go_at_call 16; refine (HT.out _ (HFd.out.below hbe HFd.out.1)).mono ?_; rintro x w5 ⟨rfl, hb5⟩; replace hri := hri.below hb5 hri.lt; replace hre := hre.below hb5 hre.lt; replace hrs := hrs.below hb5 hrs.lt; replace hbe := hbe.trans (hb5.mono hbe.size))
    | ((with_reducible show wpList _ _ _ ({ dst := none, op := .store _ (.tmp 13) (.tmp 27), type := _, pos := _, after := _, guard := _ } :: _) _ _); refine wpl_store_st rfl (.tmp 13) (.tmp 27) rfl (n := 5) HZS.out w5.heap.size #[.int .i64 0, .int .i64 0, .int .i64 0, .int .u64 0, .int .u64 0] #[.int .i64 t.opn, .int .i64 t.view, .int .i64 t.under, .int .u64 (t.parent : Int), .int .u64 (t.sum : Int)] rfl rfl (Row.new _ _ _) ?_ (hid rfl) (hid rfl) (hid (stcells_one t)); intro w6 hro HB6; replace hri := (hri.alloc (.cells #[.int .i64 0, .int .i64 0, .int .i64 0, .int .u64 0, .int .u64 0] 26)).grown HB6 (by have := hri.lt; intro e; have := Option.some.inj e; omega); replace hre := (hre.alloc (.cells #[.int .i64 0, .int .i64 0, .int .i64 0, .int .u64 0, .int .u64 0] 26)).grown HB6 (by have := hre.lt; intro e; have := Option.some.inj e; omega); replace hrs := (hrs.alloc (.cells #[.int .i64 0, .int .i64 0, .int .i64 0, .int .u64 0, .int .u64 0] 26)).grown HB6 (by have := hrs.lt; intro e; have := Option.some.inj e; omega); replace hbe := (hbe.alloc hbe.size (.cells #[.int .i64 0, .int .i64 0, .int .i64 0, .int .u64 0, .int .u64 0] 26)).trans (below_grown HB6 hbe.size (by have := hbe.size; simp; omega)); have he1 := hre.at_ 1 _ rfl; have hs0 := hrs.at_ 0 _ rfl)
    | ((with_reducible show wpList _ _ _ ({ dst := none, op := .store _ (.tmp 6) (.tmp 56), type := _, pos := _, after := _, guard := _ } :: _) _ _); refine wpl_store_st rfl (.tmp 6) (.tmp 56) rfl (n := 15) HZI.out w.heap.size #[.int .i64 0, .int .i64 0, .int .i64 0, .int .i64 0, .int .u64 0, .int .u64 0, .int .i64 0, .int .i64 0, .int .i64 0, .int .u64 0, .int .i64 0, .int .i64 0, .int .i64 0, .int .i64 0, .string ⟨#[]⟩] #[.int .i64 0, .int .i64 0, .int .i64 0, .int .i64 0, .int .u64 0, .int .u64 0, .int .i64 0, .int .i64 0, .int .i64 0, .int .u64 0, .int .i64 0, .int .i64 0, .int .i64 0, .int .i64 0, .string ⟨#[]⟩] rfl rfl hri ?_ (hid rfl) (hid rfl) (hid (by simp [Value.oneCell'])); intro w7 hr7 HB7))
  exact bodyPost_ret (v := .agg #[.int .i64 0, .int .i64 0, .int .i64 0, .int .i64 0, .int .u64 0, .int .u64 0, .int .i64 0, .int .i64 0, .int .i64 0, .int .u64 0, .int .i64 0, .int .i64 0, .int .i64 0, .int .i64 0, .string ⟨#[]⟩]) (results_cell_row rfl _ _ w.heap.size 41 #[.int .i64 0, .int .i64 0, .int .i64 0, .int .i64 0, .int .u64 0, .int .u64 0, .int .i64 0, .int .i64 0, .int .i64 0, .int .u64 0, .int .i64 0, .int .i64 0, .int .i64 0, .int .i64 0, .string ⟨#[]⟩] (0, 0) _ rfl (Row.arr (cs := #[.int .i64 0, .int .i64 0, .int .i64 0, .int .i64 0, .int .u64 0, .int .u64 0, .int .i64 0, .int .i64 0, .int .i64 0, .int .u64 0, .int .i64 0, .int .i64 0, .int .i64 0, .int .i64 0, .string ⟨#[]⟩]) hr7) Tryd.underlying41 rfl HZI.out) rfl ⟨rfl, hbe.trans (below_grown HB7 (Nat.le_refl _) hbe.size)⟩
set_option maxHeartbeats 1000000 in
theorem sjudge_4 (p h : ByteArray) (n : Int) (e : En) (s t : St) (bk br : Bool) (w : World) (hf : Fd w) 
    (HE : Hid (∀ W : World, Fd W → Calls Tryd.prog 20 #[.string p] W (LQ W #[.int .i64 e.view, .int .i64 e.opn, .int .i64 e.under, .int .u64 (e.parent : Int), .int .i64 e.client, .int .i64 e.session, .int .i64 e.request, .int .i64 e.oper, .string e.body] bk br)))
    (HS : Hid (∀ W : World, Calls Tryd.prog 21 #[.string h] W (LQ W #[.int .i64 s.opn, .int .i64 s.view, .int .i64 s.under, .int .u64 (s.parent : Int), .int .u64 (s.sum : Int)] false true)))
    (HT : Hid (∀ W : World, Fd W → Calls Tryd.prog 16 #[.agg #[.int .i64 e.view, .int .i64 e.opn, .int .i64 e.under, .int .u64 (e.parent : Int), .int .i64 e.client, .int .i64 e.session, .int .i64 e.request, .int .i64 e.oper, .string e.body]] W (VE W (.agg #[.int .i64 t.opn, .int .i64 t.view, .int .i64 t.under, .int .u64 (t.parent : Int), .int .u64 (t.sum : Int)])))) :
    Calls Tryd.prog 24 #[.string p, .string h, .int .i64 n] w (VE w (⟨0, st0, en0⟩ : It).val) := by
  have HZE := hid esize
  have HZS := hid stsize
  have HZI := hid isize
  have HFd := hid hf
  clear hf
  go_enter Tryd.func24, Tryd.ntmps24
  go_wp2_with (first
    | (go_at_call 20; refine (HE.out _ (HFd.out.below ((Below.refl w.heap.size w).alloc (Nat.le_refl _) _) HFd.out.1)).mono ?_; rintro x w1 ⟨rfl, hb1⟩; have hri := (Row.new w 41 #[.int .i64 0, .int .i64 0, .int .i64 0, .int .i64 0, .int .u64 0, .int .u64 0, .int .i64 0, .int .i64 0, .int .i64 0, .int .u64 0, .int .i64 0, .int .i64 0, .int .i64 0, .int .i64 0, .string ⟨#[]⟩]).below hb1 (by simp); have hbe := ((Below.refl w.heap.size w).alloc (Nat.le_refl _) (.cells #[.int .i64 0, .int .i64 0, .int .i64 0, .int .i64 0, .int .u64 0, .int .u64 0, .int .i64 0, .int .i64 0, .int .i64 0, .int .u64 0, .int .i64 0, .int .i64 0, .int .i64 0, .int .i64 0, .string ⟨#[]⟩] 41)).trans (hb1.mono (by simp)))
    | ((with_reducible show wpList _ _ _ ({ dst := none, op := .store _ (.tmp 7) (.tmp 17), type := _, pos := _, after := _, guard := _ } :: _) _ _); refine wpl_store_st rfl (.tmp 7) (.tmp 17) rfl (n := 9) HZE.out w1.heap.size #[.int .i64 0, .int .i64 0, .int .i64 0, .int .u64 0, .int .i64 0, .int .i64 0, .int .i64 0, .int .i64 0, .string ⟨#[]⟩] #[.int .i64 e.view, .int .i64 e.opn, .int .i64 e.under, .int .u64 (e.parent : Int), .int .i64 e.client, .int .i64 e.session, .int .i64 e.request, .int .i64 e.oper, .string e.body] rfl rfl (Row.new _ _ _) ?_ (hid rfl) (hid rfl) (hid (ecells_one e)); intro w2 hre HB2; replace hri := (hri.alloc (.cells #[.int .i64 0, .int .i64 0, .int .i64 0, .int .u64 0, .int .i64 0, .int .i64 0, .int .i64 0, .int .i64 0, .string ⟨#[]⟩] 24)).grown HB2 (by have := hri.lt; intro e; have := Option.some.inj e; omega); replace hbe := (hbe.alloc hbe.size (.cells #[.int .i64 0, .int .i64 0, .int .i64 0, .int .u64 0, .int .i64 0, .int .i64 0, .int .i64 0, .int .i64 0, .string ⟨#[]⟩] 24)).trans (below_grown HB2 hbe.size (by have := hbe.size; simp; omega)))
    | (go_at_call 21; refine (HS.out _).mono ?_; rintro x w3 ⟨rfl, hb3⟩; replace hri := hri.below hb3 hri.lt; replace hre := hre.below hb3 hre.lt; replace hbe := hbe.trans (hb3.mono hbe.size))
    | ((with_reducible show wpList _ _ _ ({ dst := none, op := .store _ (.tmp 10) (.tmp 23), type := _, pos := _, after := _, guard := _ } :: _) _ _); refine wpl_store_st rfl (.tmp 10) (.tmp 23) rfl (n := 5) HZS.out w3.heap.size #[.int .i64 0, .int .i64 0, .int .i64 0, .int .u64 0, .int .u64 0] #[.int .i64 s.opn, .int .i64 s.view, .int .i64 s.under, .int .u64 (s.parent : Int), .int .u64 (s.sum : Int)] rfl rfl (Row.new _ _ _) ?_ (hid rfl) (hid rfl) (hid (stcells_one s)); intro w4 hrs HB4; replace hri := (hri.alloc (.cells #[.int .i64 0, .int .i64 0, .int .i64 0, .int .u64 0, .int .u64 0] 26)).grown HB4 (by have := hri.lt; intro e; have := Option.some.inj e; omega); replace hre := (hre.alloc (.cells #[.int .i64 0, .int .i64 0, .int .i64 0, .int .u64 0, .int .u64 0] 26)).grown HB4 (by have := hre.lt; intro e; have := Option.some.inj e; omega); replace hbe := (hbe.alloc hbe.size (.cells #[.int .i64 0, .int .i64 0, .int .i64 0, .int .u64 0, .int .u64 0] 26)).trans (below_grown HB4 hbe.size (by have := hbe.size; simp; omega)))
    | ((with_reducible show wpList _ _ _ ({ dst := some 26, op := _, type := _, pos := _, after := _, guard := _ } :: _) _ _); refine wpList_load_row rfl 24 (.tmp 7) rfl w1.heap.size rfl 24 #[.int .i64 e.view, .int .i64 e.opn, .int .i64 e.under, .int .u64 (e.parent : Int), .int .i64 e.client, .int .i64 e.session, .int .i64 e.request, .int .i64 e.oper, .string e.body] (0, 0) _ (Row.arr (cs := #[.int .i64 e.view, .int .i64 e.opn, .int .i64 e.under, .int .u64 (e.parent : Int), .int .i64 e.client, .int .i64 e.session, .int .i64 e.request, .int .i64 e.oper, .string e.body]) hre) Tryd.underlying24 rfl HZE.out ?_)
    | (go_at_call 16; refine (HT.out _ (HFd.out.below hbe HFd.out.1)).mono ?_; rintro x w5 ⟨rfl, hb5⟩; replace hri := hri.below hb5 hri.lt; replace hre := hre.below hb5 hre.lt; replace hrs := hrs.below hb5 hrs.lt; replace hbe := hbe.trans (hb5.mono hbe.size))
    | ((with_reducible show wpList _ _ _ ({ dst := none, op := .store _ (.tmp 13) (.tmp 27), type := _, pos := _, after := _, guard := _ } :: _) _ _); refine wpl_store_st rfl (.tmp 13) (.tmp 27) rfl (n := 5) HZS.out w5.heap.size #[.int .i64 0, .int .i64 0, .int .i64 0, .int .u64 0, .int .u64 0] #[.int .i64 t.opn, .int .i64 t.view, .int .i64 t.under, .int .u64 (t.parent : Int), .int .u64 (t.sum : Int)] rfl rfl (Row.new _ _ _) ?_ (hid rfl) (hid rfl) (hid (stcells_one t)); intro w6 hro HB6; replace hri := (hri.alloc (.cells #[.int .i64 0, .int .i64 0, .int .i64 0, .int .u64 0, .int .u64 0] 26)).grown HB6 (by have := hri.lt; intro e; have := Option.some.inj e; omega); replace hre := (hre.alloc (.cells #[.int .i64 0, .int .i64 0, .int .i64 0, .int .u64 0, .int .u64 0] 26)).grown HB6 (by have := hre.lt; intro e; have := Option.some.inj e; omega); replace hrs := (hrs.alloc (.cells #[.int .i64 0, .int .i64 0, .int .i64 0, .int .u64 0, .int .u64 0] 26)).grown HB6 (by have := hrs.lt; intro e; have := Option.some.inj e; omega); replace hbe := (hbe.alloc hbe.size (.cells #[.int .i64 0, .int .i64 0, .int .i64 0, .int .u64 0, .int .u64 0] 26)).trans (below_grown HB6 hbe.size (by have := hbe.size; simp; omega)); have he1 := hre.at_ 1 _ rfl; have hs0 := hrs.at_ 0 _ rfl)
    | ((with_reducible show wpList _ _ _ ({ dst := none, op := .store _ (.tmp 6) (.tmp 56), type := _, pos := _, after := _, guard := _ } :: _) _ _); refine wpl_store_st rfl (.tmp 6) (.tmp 56) rfl (n := 15) HZI.out w.heap.size #[.int .i64 0, .int .i64 0, .int .i64 0, .int .i64 0, .int .u64 0, .int .u64 0, .int .i64 0, .int .i64 0, .int .i64 0, .int .u64 0, .int .i64 0, .int .i64 0, .int .i64 0, .int .i64 0, .string ⟨#[]⟩] #[.int .i64 0, .int .i64 0, .int .i64 0, .int .i64 0, .int .u64 0, .int .u64 0, .int .i64 0, .int .i64 0, .int .i64 0, .int .u64 0, .int .i64 0, .int .i64 0, .int .i64 0, .int .i64 0, .string ⟨#[]⟩] rfl rfl hri ?_ (hid rfl) (hid rfl) (hid (by simp [Value.oneCell'])); intro w7 hr7 HB7))
  exact bodyPost_ret (v := .agg #[.int .i64 0, .int .i64 0, .int .i64 0, .int .i64 0, .int .u64 0, .int .u64 0, .int .i64 0, .int .i64 0, .int .i64 0, .int .u64 0, .int .i64 0, .int .i64 0, .int .i64 0, .int .i64 0, .string ⟨#[]⟩]) (results_cell_row rfl _ _ w.heap.size 41 #[.int .i64 0, .int .i64 0, .int .i64 0, .int .i64 0, .int .u64 0, .int .u64 0, .int .i64 0, .int .i64 0, .int .i64 0, .int .u64 0, .int .i64 0, .int .i64 0, .int .i64 0, .int .i64 0, .string ⟨#[]⟩] (0, 0) _ rfl (Row.arr (cs := #[.int .i64 0, .int .i64 0, .int .i64 0, .int .i64 0, .int .u64 0, .int .u64 0, .int .i64 0, .int .i64 0, .int .i64 0, .int .u64 0, .int .i64 0, .int .i64 0, .int .i64 0, .int .i64 0, .string ⟨#[]⟩]) hr7) Tryd.underlying41 rfl HZI.out) rfl ⟨rfl, hbe.trans (below_grown HB7 (Nat.le_refl _) hbe.size)⟩
set_option maxHeartbeats 1000000 in
theorem sjudge_5 (p h : ByteArray) (n : Int) (e : En) (s t : St) (w : World) (hf : Fd w) (hen : (e.opn == n) = true)
    (HE : Hid (∀ W : World, Fd W → Calls Tryd.prog 20 #[.string p] W (LQ W #[.int .i64 e.view, .int .i64 e.opn, .int .i64 e.under, .int .u64 (e.parent : Int), .int .i64 e.client, .int .i64 e.session, .int .i64 e.request, .int .i64 e.oper, .string e.body] true true)))
    (HS : Hid (∀ W : World, Calls Tryd.prog 21 #[.string h] W (LQ W #[.int .i64 s.opn, .int .i64 s.view, .int .i64 s.under, .int .u64 (s.parent : Int), .int .u64 (s.sum : Int)] false false)))
    (HT : Hid (∀ W : World, Fd W → Calls Tryd.prog 16 #[.agg #[.int .i64 e.view, .int .i64 e.opn, .int .i64 e.under, .int .u64 (e.parent : Int), .int .i64 e.client, .int .i64 e.session, .int .i64 e.request, .int .i64 e.oper, .string e.body]] W (VE W (.agg #[.int .i64 t.opn, .int .i64 t.view, .int .i64 t.under, .int .u64 (t.parent : Int), .int .u64 (t.sum : Int)])))) :
    Calls Tryd.prog 24 #[.string p, .string h, .int .i64 n] w (VE w (⟨1, t, e⟩ : It).val) := by
  have HZE := hid esize
  have HZS := hid stsize
  have HZI := hid isize
  have HFd := hid hf
  clear hf
  go_enter Tryd.func24, Tryd.ntmps24
  go_wp2_with (first
    | (go_at_call 20; refine (HE.out _ (HFd.out.below ((Below.refl w.heap.size w).alloc (Nat.le_refl _) _) HFd.out.1)).mono ?_; rintro x w1 ⟨rfl, hb1⟩; have hri := (Row.new w 41 #[.int .i64 0, .int .i64 0, .int .i64 0, .int .i64 0, .int .u64 0, .int .u64 0, .int .i64 0, .int .i64 0, .int .i64 0, .int .u64 0, .int .i64 0, .int .i64 0, .int .i64 0, .int .i64 0, .string ⟨#[]⟩]).below hb1 (by simp); have hbe := ((Below.refl w.heap.size w).alloc (Nat.le_refl _) (.cells #[.int .i64 0, .int .i64 0, .int .i64 0, .int .i64 0, .int .u64 0, .int .u64 0, .int .i64 0, .int .i64 0, .int .i64 0, .int .u64 0, .int .i64 0, .int .i64 0, .int .i64 0, .int .i64 0, .string ⟨#[]⟩] 41)).trans (hb1.mono (by simp)))
    | ((with_reducible show wpList _ _ _ ({ dst := none, op := .store _ (.tmp 7) (.tmp 17), type := _, pos := _, after := _, guard := _ } :: _) _ _); refine wpl_store_st rfl (.tmp 7) (.tmp 17) rfl (n := 9) HZE.out w1.heap.size #[.int .i64 0, .int .i64 0, .int .i64 0, .int .u64 0, .int .i64 0, .int .i64 0, .int .i64 0, .int .i64 0, .string ⟨#[]⟩] #[.int .i64 e.view, .int .i64 e.opn, .int .i64 e.under, .int .u64 (e.parent : Int), .int .i64 e.client, .int .i64 e.session, .int .i64 e.request, .int .i64 e.oper, .string e.body] rfl rfl (Row.new _ _ _) ?_ (hid rfl) (hid rfl) (hid (ecells_one e)); intro w2 hre HB2; replace hri := (hri.alloc (.cells #[.int .i64 0, .int .i64 0, .int .i64 0, .int .u64 0, .int .i64 0, .int .i64 0, .int .i64 0, .int .i64 0, .string ⟨#[]⟩] 24)).grown HB2 (by have := hri.lt; intro e; have := Option.some.inj e; omega); replace hbe := (hbe.alloc hbe.size (.cells #[.int .i64 0, .int .i64 0, .int .i64 0, .int .u64 0, .int .i64 0, .int .i64 0, .int .i64 0, .int .i64 0, .string ⟨#[]⟩] 24)).trans (below_grown HB2 hbe.size (by have := hbe.size; simp; omega)))
    | (go_at_call 21; refine (HS.out _).mono ?_; rintro x w3 ⟨rfl, hb3⟩; replace hri := hri.below hb3 hri.lt; replace hre := hre.below hb3 hre.lt; replace hbe := hbe.trans (hb3.mono hbe.size))
    | ((with_reducible show wpList _ _ _ ({ dst := none, op := .store _ (.tmp 10) (.tmp 23), type := _, pos := _, after := _, guard := _ } :: _) _ _); refine wpl_store_st rfl (.tmp 10) (.tmp 23) rfl (n := 5) HZS.out w3.heap.size #[.int .i64 0, .int .i64 0, .int .i64 0, .int .u64 0, .int .u64 0] #[.int .i64 s.opn, .int .i64 s.view, .int .i64 s.under, .int .u64 (s.parent : Int), .int .u64 (s.sum : Int)] rfl rfl (Row.new _ _ _) ?_ (hid rfl) (hid rfl) (hid (stcells_one s)); intro w4 hrs HB4; replace hri := (hri.alloc (.cells #[.int .i64 0, .int .i64 0, .int .i64 0, .int .u64 0, .int .u64 0] 26)).grown HB4 (by have := hri.lt; intro e; have := Option.some.inj e; omega); replace hre := (hre.alloc (.cells #[.int .i64 0, .int .i64 0, .int .i64 0, .int .u64 0, .int .u64 0] 26)).grown HB4 (by have := hre.lt; intro e; have := Option.some.inj e; omega); replace hbe := (hbe.alloc hbe.size (.cells #[.int .i64 0, .int .i64 0, .int .i64 0, .int .u64 0, .int .u64 0] 26)).trans (below_grown HB4 hbe.size (by have := hbe.size; simp; omega)))
    | ((with_reducible show wpList _ _ _ ({ dst := some 26, op := _, type := _, pos := _, after := _, guard := _ } :: _) _ _); refine wpList_load_row rfl 24 (.tmp 7) rfl w1.heap.size rfl 24 #[.int .i64 e.view, .int .i64 e.opn, .int .i64 e.under, .int .u64 (e.parent : Int), .int .i64 e.client, .int .i64 e.session, .int .i64 e.request, .int .i64 e.oper, .string e.body] (0, 0) _ (Row.arr (cs := #[.int .i64 e.view, .int .i64 e.opn, .int .i64 e.under, .int .u64 (e.parent : Int), .int .i64 e.client, .int .i64 e.session, .int .i64 e.request, .int .i64 e.oper, .string e.body]) hre) Tryd.underlying24 rfl HZE.out ?_)
    | (go_at_call 16; refine (HT.out _ (HFd.out.below hbe HFd.out.1)).mono ?_; rintro x w5 ⟨rfl, hb5⟩; replace hri := hri.below hb5 hri.lt; replace hre := hre.below hb5 hre.lt; replace hrs := hrs.below hb5 hrs.lt; replace hbe := hbe.trans (hb5.mono hbe.size))
    | ((with_reducible show wpList _ _ _ ({ dst := none, op := .store _ (.tmp 13) (.tmp 27), type := _, pos := _, after := _, guard := _ } :: _) _ _); refine wpl_store_st rfl (.tmp 13) (.tmp 27) rfl (n := 5) HZS.out w5.heap.size #[.int .i64 0, .int .i64 0, .int .i64 0, .int .u64 0, .int .u64 0] #[.int .i64 t.opn, .int .i64 t.view, .int .i64 t.under, .int .u64 (t.parent : Int), .int .u64 (t.sum : Int)] rfl rfl (Row.new _ _ _) ?_ (hid rfl) (hid rfl) (hid (stcells_one t)); intro w6 hro HB6; replace hri := (hri.alloc (.cells #[.int .i64 0, .int .i64 0, .int .i64 0, .int .u64 0, .int .u64 0] 26)).grown HB6 (by have := hri.lt; intro e; have := Option.some.inj e; omega); replace hre := (hre.alloc (.cells #[.int .i64 0, .int .i64 0, .int .i64 0, .int .u64 0, .int .u64 0] 26)).grown HB6 (by have := hre.lt; intro e; have := Option.some.inj e; omega); replace hrs := (hrs.alloc (.cells #[.int .i64 0, .int .i64 0, .int .i64 0, .int .u64 0, .int .u64 0] 26)).grown HB6 (by have := hrs.lt; intro e; have := Option.some.inj e; omega); replace hbe := (hbe.alloc hbe.size (.cells #[.int .i64 0, .int .i64 0, .int .i64 0, .int .u64 0, .int .u64 0] 26)).trans (below_grown HB6 hbe.size (by have := hbe.size; simp; omega)); have he1 := hre.at_ 1 _ rfl; have hs0 := hrs.at_ 0 _ rfl)
    | ((with_reducible show wpList _ _ _ ({ dst := some 65, op := _, type := _, pos := _, after := _, guard := _ } :: _) _ _); refine wpl_load_want rfl 26 (.tmp 13) rfl w5.heap.size rfl 26 #[.int .i64 t.opn, .int .i64 t.view, .int .i64 t.under, .int .u64 (t.parent : Int), .int .u64 (t.sum : Int)] (0, 0) _ (Row.arr (cs := #[.int .i64 t.opn, .int .i64 t.view, .int .i64 t.under, .int .u64 (t.parent : Int), .int .u64 (t.sum : Int)]) hro) Tryd.underlying26 rfl HZS.out ?_)
    | ((with_reducible show wpList _ _ _ ({ dst := some 66, op := _, type := _, pos := _, after := _, guard := _ } :: _) _ _); refine wpl_load_want rfl 24 (.tmp 7) rfl w1.heap.size rfl 24 #[.int .i64 e.view, .int .i64 e.opn, .int .i64 e.under, .int .u64 (e.parent : Int), .int .i64 e.client, .int .i64 e.session, .int .i64 e.request, .int .i64 e.oper, .string e.body] (0, 0) _ (Row.arr (cs := #[.int .i64 e.view, .int .i64 e.opn, .int .i64 e.under, .int .u64 (e.parent : Int), .int .i64 e.client, .int .i64 e.session, .int .i64 e.request, .int .i64 e.oper, .string e.body]) hre) Tryd.underlying24 rfl HZE.out ?_)
    | ((with_reducible show wpList _ _ _ ({ dst := none, op := .store _ (.tmp 6) (.tmp 67), type := _, pos := _, after := _, guard := _ } :: _) _ _); refine wpl_store_st rfl (.tmp 6) (.tmp 67) rfl (n := 15) HZI.out w.heap.size #[.int .i64 0, .int .i64 0, .int .i64 0, .int .i64 0, .int .u64 0, .int .u64 0, .int .i64 0, .int .i64 0, .int .i64 0, .int .u64 0, .int .i64 0, .int .i64 0, .int .i64 0, .int .i64 0, .string ⟨#[]⟩] #[.int .i64 1, .int .i64 t.opn, .int .i64 t.view, .int .i64 t.under, .int .u64 (t.parent : Int), .int .u64 (t.sum : Int), .int .i64 e.view, .int .i64 e.opn, .int .i64 e.under, .int .u64 (e.parent : Int), .int .i64 e.client, .int .i64 e.session, .int .i64 e.request, .int .i64 e.oper, .string e.body] rfl rfl hri ?_ (hid rfl) (hid rfl) (hid (by simp [Value.oneCell'])); intro w7 hr7 HB7))
  exact bodyPost_ret (v := .agg #[.int .i64 1, .int .i64 t.opn, .int .i64 t.view, .int .i64 t.under, .int .u64 (t.parent : Int), .int .u64 (t.sum : Int), .int .i64 e.view, .int .i64 e.opn, .int .i64 e.under, .int .u64 (e.parent : Int), .int .i64 e.client, .int .i64 e.session, .int .i64 e.request, .int .i64 e.oper, .string e.body]) (results_cell_row rfl _ _ w.heap.size 41 #[.int .i64 1, .int .i64 t.opn, .int .i64 t.view, .int .i64 t.under, .int .u64 (t.parent : Int), .int .u64 (t.sum : Int), .int .i64 e.view, .int .i64 e.opn, .int .i64 e.under, .int .u64 (e.parent : Int), .int .i64 e.client, .int .i64 e.session, .int .i64 e.request, .int .i64 e.oper, .string e.body] (0, 0) _ rfl (Row.arr (cs := #[.int .i64 1, .int .i64 t.opn, .int .i64 t.view, .int .i64 t.under, .int .u64 (t.parent : Int), .int .u64 (t.sum : Int), .int .i64 e.view, .int .i64 e.opn, .int .i64 e.under, .int .u64 (e.parent : Int), .int .i64 e.client, .int .i64 e.session, .int .i64 e.request, .int .i64 e.oper, .string e.body]) hr7) Tryd.underlying41 rfl HZI.out) rfl ⟨rfl, hbe.trans (below_grown HB7 (Nat.le_refl _) hbe.size)⟩
set_option maxHeartbeats 1000000 in
theorem sjudge_6 (p h : ByteArray) (n : Int) (e : En) (s t : St) (w : World) (hf : Fd w) (hen : (e.opn == n) = false)
    (HE : Hid (∀ W : World, Fd W → Calls Tryd.prog 20 #[.string p] W (LQ W #[.int .i64 e.view, .int .i64 e.opn, .int .i64 e.under, .int .u64 (e.parent : Int), .int .i64 e.client, .int .i64 e.session, .int .i64 e.request, .int .i64 e.oper, .string e.body] true true)))
    (HS : Hid (∀ W : World, Calls Tryd.prog 21 #[.string h] W (LQ W #[.int .i64 s.opn, .int .i64 s.view, .int .i64 s.under, .int .u64 (s.parent : Int), .int .u64 (s.sum : Int)] false false)))
    (HT : Hid (∀ W : World, Fd W → Calls Tryd.prog 16 #[.agg #[.int .i64 e.view, .int .i64 e.opn, .int .i64 e.under, .int .u64 (e.parent : Int), .int .i64 e.client, .int .i64 e.session, .int .i64 e.request, .int .i64 e.oper, .string e.body]] W (VE W (.agg #[.int .i64 t.opn, .int .i64 t.view, .int .i64 t.under, .int .u64 (t.parent : Int), .int .u64 (t.sum : Int)])))) :
    Calls Tryd.prog 24 #[.string p, .string h, .int .i64 n] w (VE w (⟨0, st0, en0⟩ : It).val) := by
  have HZE := hid esize
  have HZS := hid stsize
  have HZI := hid isize
  have HFd := hid hf
  clear hf
  go_enter Tryd.func24, Tryd.ntmps24
  go_wp2_with (first
    | (go_at_call 20; refine (HE.out _ (HFd.out.below ((Below.refl w.heap.size w).alloc (Nat.le_refl _) _) HFd.out.1)).mono ?_; rintro x w1 ⟨rfl, hb1⟩; have hri := (Row.new w 41 #[.int .i64 0, .int .i64 0, .int .i64 0, .int .i64 0, .int .u64 0, .int .u64 0, .int .i64 0, .int .i64 0, .int .i64 0, .int .u64 0, .int .i64 0, .int .i64 0, .int .i64 0, .int .i64 0, .string ⟨#[]⟩]).below hb1 (by simp); have hbe := ((Below.refl w.heap.size w).alloc (Nat.le_refl _) (.cells #[.int .i64 0, .int .i64 0, .int .i64 0, .int .i64 0, .int .u64 0, .int .u64 0, .int .i64 0, .int .i64 0, .int .i64 0, .int .u64 0, .int .i64 0, .int .i64 0, .int .i64 0, .int .i64 0, .string ⟨#[]⟩] 41)).trans (hb1.mono (by simp)))
    | ((with_reducible show wpList _ _ _ ({ dst := none, op := .store _ (.tmp 7) (.tmp 17), type := _, pos := _, after := _, guard := _ } :: _) _ _); refine wpl_store_st rfl (.tmp 7) (.tmp 17) rfl (n := 9) HZE.out w1.heap.size #[.int .i64 0, .int .i64 0, .int .i64 0, .int .u64 0, .int .i64 0, .int .i64 0, .int .i64 0, .int .i64 0, .string ⟨#[]⟩] #[.int .i64 e.view, .int .i64 e.opn, .int .i64 e.under, .int .u64 (e.parent : Int), .int .i64 e.client, .int .i64 e.session, .int .i64 e.request, .int .i64 e.oper, .string e.body] rfl rfl (Row.new _ _ _) ?_ (hid rfl) (hid rfl) (hid (ecells_one e)); intro w2 hre HB2; replace hri := (hri.alloc (.cells #[.int .i64 0, .int .i64 0, .int .i64 0, .int .u64 0, .int .i64 0, .int .i64 0, .int .i64 0, .int .i64 0, .string ⟨#[]⟩] 24)).grown HB2 (by have := hri.lt; intro e; have := Option.some.inj e; omega); replace hbe := (hbe.alloc hbe.size (.cells #[.int .i64 0, .int .i64 0, .int .i64 0, .int .u64 0, .int .i64 0, .int .i64 0, .int .i64 0, .int .i64 0, .string ⟨#[]⟩] 24)).trans (below_grown HB2 hbe.size (by have := hbe.size; simp; omega)))
    | (go_at_call 21; refine (HS.out _).mono ?_; rintro x w3 ⟨rfl, hb3⟩; replace hri := hri.below hb3 hri.lt; replace hre := hre.below hb3 hre.lt; replace hbe := hbe.trans (hb3.mono hbe.size))
    | ((with_reducible show wpList _ _ _ ({ dst := none, op := .store _ (.tmp 10) (.tmp 23), type := _, pos := _, after := _, guard := _ } :: _) _ _); refine wpl_store_st rfl (.tmp 10) (.tmp 23) rfl (n := 5) HZS.out w3.heap.size #[.int .i64 0, .int .i64 0, .int .i64 0, .int .u64 0, .int .u64 0] #[.int .i64 s.opn, .int .i64 s.view, .int .i64 s.under, .int .u64 (s.parent : Int), .int .u64 (s.sum : Int)] rfl rfl (Row.new _ _ _) ?_ (hid rfl) (hid rfl) (hid (stcells_one s)); intro w4 hrs HB4; replace hri := (hri.alloc (.cells #[.int .i64 0, .int .i64 0, .int .i64 0, .int .u64 0, .int .u64 0] 26)).grown HB4 (by have := hri.lt; intro e; have := Option.some.inj e; omega); replace hre := (hre.alloc (.cells #[.int .i64 0, .int .i64 0, .int .i64 0, .int .u64 0, .int .u64 0] 26)).grown HB4 (by have := hre.lt; intro e; have := Option.some.inj e; omega); replace hbe := (hbe.alloc hbe.size (.cells #[.int .i64 0, .int .i64 0, .int .i64 0, .int .u64 0, .int .u64 0] 26)).trans (below_grown HB4 hbe.size (by have := hbe.size; simp; omega)))
    | ((with_reducible show wpList _ _ _ ({ dst := some 26, op := _, type := _, pos := _, after := _, guard := _ } :: _) _ _); refine wpList_load_row rfl 24 (.tmp 7) rfl w1.heap.size rfl 24 #[.int .i64 e.view, .int .i64 e.opn, .int .i64 e.under, .int .u64 (e.parent : Int), .int .i64 e.client, .int .i64 e.session, .int .i64 e.request, .int .i64 e.oper, .string e.body] (0, 0) _ (Row.arr (cs := #[.int .i64 e.view, .int .i64 e.opn, .int .i64 e.under, .int .u64 (e.parent : Int), .int .i64 e.client, .int .i64 e.session, .int .i64 e.request, .int .i64 e.oper, .string e.body]) hre) Tryd.underlying24 rfl HZE.out ?_)
    | (go_at_call 16; refine (HT.out _ (HFd.out.below hbe HFd.out.1)).mono ?_; rintro x w5 ⟨rfl, hb5⟩; replace hri := hri.below hb5 hri.lt; replace hre := hre.below hb5 hre.lt; replace hrs := hrs.below hb5 hrs.lt; replace hbe := hbe.trans (hb5.mono hbe.size))
    | ((with_reducible show wpList _ _ _ ({ dst := none, op := .store _ (.tmp 13) (.tmp 27), type := _, pos := _, after := _, guard := _ } :: _) _ _); refine wpl_store_st rfl (.tmp 13) (.tmp 27) rfl (n := 5) HZS.out w5.heap.size #[.int .i64 0, .int .i64 0, .int .i64 0, .int .u64 0, .int .u64 0] #[.int .i64 t.opn, .int .i64 t.view, .int .i64 t.under, .int .u64 (t.parent : Int), .int .u64 (t.sum : Int)] rfl rfl (Row.new _ _ _) ?_ (hid rfl) (hid rfl) (hid (stcells_one t)); intro w6 hro HB6; replace hri := (hri.alloc (.cells #[.int .i64 0, .int .i64 0, .int .i64 0, .int .u64 0, .int .u64 0] 26)).grown HB6 (by have := hri.lt; intro e; have := Option.some.inj e; omega); replace hre := (hre.alloc (.cells #[.int .i64 0, .int .i64 0, .int .i64 0, .int .u64 0, .int .u64 0] 26)).grown HB6 (by have := hre.lt; intro e; have := Option.some.inj e; omega); replace hrs := (hrs.alloc (.cells #[.int .i64 0, .int .i64 0, .int .i64 0, .int .u64 0, .int .u64 0] 26)).grown HB6 (by have := hrs.lt; intro e; have := Option.some.inj e; omega); replace hbe := (hbe.alloc hbe.size (.cells #[.int .i64 0, .int .i64 0, .int .i64 0, .int .u64 0, .int .u64 0] 26)).trans (below_grown HB6 hbe.size (by have := hbe.size; simp; omega)); have he1 := hre.at_ 1 _ rfl; have hs0 := hrs.at_ 0 _ rfl)
    | ((with_reducible show wpList _ _ _ ({ dst := none, op := .store _ (.tmp 6) (.tmp 70), type := _, pos := _, after := _, guard := _ } :: _) _ _); refine wpl_store_st rfl (.tmp 6) (.tmp 70) rfl (n := 15) HZI.out w.heap.size #[.int .i64 0, .int .i64 0, .int .i64 0, .int .i64 0, .int .u64 0, .int .u64 0, .int .i64 0, .int .i64 0, .int .i64 0, .int .u64 0, .int .i64 0, .int .i64 0, .int .i64 0, .int .i64 0, .string ⟨#[]⟩] #[.int .i64 0, .int .i64 0, .int .i64 0, .int .i64 0, .int .u64 0, .int .u64 0, .int .i64 0, .int .i64 0, .int .i64 0, .int .u64 0, .int .i64 0, .int .i64 0, .int .i64 0, .int .i64 0, .string ⟨#[]⟩] rfl rfl hri ?_ (hid rfl) (hid rfl) (hid (by simp [Value.oneCell'])); intro w7 hr7 HB7))
  exact bodyPost_ret (v := .agg #[.int .i64 0, .int .i64 0, .int .i64 0, .int .i64 0, .int .u64 0, .int .u64 0, .int .i64 0, .int .i64 0, .int .i64 0, .int .u64 0, .int .i64 0, .int .i64 0, .int .i64 0, .int .i64 0, .string ⟨#[]⟩]) (results_cell_row rfl _ _ w.heap.size 41 #[.int .i64 0, .int .i64 0, .int .i64 0, .int .i64 0, .int .u64 0, .int .u64 0, .int .i64 0, .int .i64 0, .int .i64 0, .int .u64 0, .int .i64 0, .int .i64 0, .int .i64 0, .int .i64 0, .string ⟨#[]⟩] (0, 0) _ rfl (Row.arr (cs := #[.int .i64 0, .int .i64 0, .int .i64 0, .int .i64 0, .int .u64 0, .int .u64 0, .int .i64 0, .int .i64 0, .int .i64 0, .int .u64 0, .int .i64 0, .int .i64 0, .int .i64 0, .int .i64 0, .string ⟨#[]⟩]) hr7) Tryd.underlying41 rfl HZI.out) rfl ⟨rfl, hbe.trans (below_grown HB7 (Nat.le_refl _) hbe.size)⟩
set_option maxHeartbeats 1000000 in
theorem sjudge_7 (p h : ByteArray) (n : Int) (e : En) (s t : St) (w : World) (hf : Fd w) 
    (HE : Hid (∀ W : World, Fd W → Calls Tryd.prog 20 #[.string p] W (LQ W #[.int .i64 e.view, .int .i64 e.opn, .int .i64 e.under, .int .u64 (e.parent : Int), .int .i64 e.client, .int .i64 e.session, .int .i64 e.request, .int .i64 e.oper, .string e.body] false true)))
    (HS : Hid (∀ W : World, Calls Tryd.prog 21 #[.string h] W (LQ W #[.int .i64 s.opn, .int .i64 s.view, .int .i64 s.under, .int .u64 (s.parent : Int), .int .u64 (s.sum : Int)] false false)))
    (HT : Hid (∀ W : World, Fd W → Calls Tryd.prog 16 #[.agg #[.int .i64 e.view, .int .i64 e.opn, .int .i64 e.under, .int .u64 (e.parent : Int), .int .i64 e.client, .int .i64 e.session, .int .i64 e.request, .int .i64 e.oper, .string e.body]] W (VE W (.agg #[.int .i64 t.opn, .int .i64 t.view, .int .i64 t.under, .int .u64 (t.parent : Int), .int .u64 (t.sum : Int)])))) :
    Calls Tryd.prog 24 #[.string p, .string h, .int .i64 n] w (VE w (⟨0, st0, en0⟩ : It).val) := by
  have HZE := hid esize
  have HZS := hid stsize
  have HZI := hid isize
  have HFd := hid hf
  clear hf
  go_enter Tryd.func24, Tryd.ntmps24
  go_wp2_with (first
    | (go_at_call 20; refine (HE.out _ (HFd.out.below ((Below.refl w.heap.size w).alloc (Nat.le_refl _) _) HFd.out.1)).mono ?_; rintro x w1 ⟨rfl, hb1⟩; have hri := (Row.new w 41 #[.int .i64 0, .int .i64 0, .int .i64 0, .int .i64 0, .int .u64 0, .int .u64 0, .int .i64 0, .int .i64 0, .int .i64 0, .int .u64 0, .int .i64 0, .int .i64 0, .int .i64 0, .int .i64 0, .string ⟨#[]⟩]).below hb1 (by simp); have hbe := ((Below.refl w.heap.size w).alloc (Nat.le_refl _) (.cells #[.int .i64 0, .int .i64 0, .int .i64 0, .int .i64 0, .int .u64 0, .int .u64 0, .int .i64 0, .int .i64 0, .int .i64 0, .int .u64 0, .int .i64 0, .int .i64 0, .int .i64 0, .int .i64 0, .string ⟨#[]⟩] 41)).trans (hb1.mono (by simp)))
    | ((with_reducible show wpList _ _ _ ({ dst := none, op := .store _ (.tmp 7) (.tmp 17), type := _, pos := _, after := _, guard := _ } :: _) _ _); refine wpl_store_st rfl (.tmp 7) (.tmp 17) rfl (n := 9) HZE.out w1.heap.size #[.int .i64 0, .int .i64 0, .int .i64 0, .int .u64 0, .int .i64 0, .int .i64 0, .int .i64 0, .int .i64 0, .string ⟨#[]⟩] #[.int .i64 e.view, .int .i64 e.opn, .int .i64 e.under, .int .u64 (e.parent : Int), .int .i64 e.client, .int .i64 e.session, .int .i64 e.request, .int .i64 e.oper, .string e.body] rfl rfl (Row.new _ _ _) ?_ (hid rfl) (hid rfl) (hid (ecells_one e)); intro w2 hre HB2; replace hri := (hri.alloc (.cells #[.int .i64 0, .int .i64 0, .int .i64 0, .int .u64 0, .int .i64 0, .int .i64 0, .int .i64 0, .int .i64 0, .string ⟨#[]⟩] 24)).grown HB2 (by have := hri.lt; intro e; have := Option.some.inj e; omega); replace hbe := (hbe.alloc hbe.size (.cells #[.int .i64 0, .int .i64 0, .int .i64 0, .int .u64 0, .int .i64 0, .int .i64 0, .int .i64 0, .int .i64 0, .string ⟨#[]⟩] 24)).trans (below_grown HB2 hbe.size (by have := hbe.size; simp; omega)))
    | (go_at_call 21; refine (HS.out _).mono ?_; rintro x w3 ⟨rfl, hb3⟩; replace hri := hri.below hb3 hri.lt; replace hre := hre.below hb3 hre.lt; replace hbe := hbe.trans (hb3.mono hbe.size))
    | ((with_reducible show wpList _ _ _ ({ dst := none, op := .store _ (.tmp 10) (.tmp 23), type := _, pos := _, after := _, guard := _ } :: _) _ _); refine wpl_store_st rfl (.tmp 10) (.tmp 23) rfl (n := 5) HZS.out w3.heap.size #[.int .i64 0, .int .i64 0, .int .i64 0, .int .u64 0, .int .u64 0] #[.int .i64 s.opn, .int .i64 s.view, .int .i64 s.under, .int .u64 (s.parent : Int), .int .u64 (s.sum : Int)] rfl rfl (Row.new _ _ _) ?_ (hid rfl) (hid rfl) (hid (stcells_one s)); intro w4 hrs HB4; replace hri := (hri.alloc (.cells #[.int .i64 0, .int .i64 0, .int .i64 0, .int .u64 0, .int .u64 0] 26)).grown HB4 (by have := hri.lt; intro e; have := Option.some.inj e; omega); replace hre := (hre.alloc (.cells #[.int .i64 0, .int .i64 0, .int .i64 0, .int .u64 0, .int .u64 0] 26)).grown HB4 (by have := hre.lt; intro e; have := Option.some.inj e; omega); replace hbe := (hbe.alloc hbe.size (.cells #[.int .i64 0, .int .i64 0, .int .i64 0, .int .u64 0, .int .u64 0] 26)).trans (below_grown HB4 hbe.size (by have := hbe.size; simp; omega)))
    | ((with_reducible show wpList _ _ _ ({ dst := some 26, op := _, type := _, pos := _, after := _, guard := _ } :: _) _ _); refine wpList_load_row rfl 24 (.tmp 7) rfl w1.heap.size rfl 24 #[.int .i64 e.view, .int .i64 e.opn, .int .i64 e.under, .int .u64 (e.parent : Int), .int .i64 e.client, .int .i64 e.session, .int .i64 e.request, .int .i64 e.oper, .string e.body] (0, 0) _ (Row.arr (cs := #[.int .i64 e.view, .int .i64 e.opn, .int .i64 e.under, .int .u64 (e.parent : Int), .int .i64 e.client, .int .i64 e.session, .int .i64 e.request, .int .i64 e.oper, .string e.body]) hre) Tryd.underlying24 rfl HZE.out ?_)
    | (go_at_call 16; refine (HT.out _ (HFd.out.below hbe HFd.out.1)).mono ?_; rintro x w5 ⟨rfl, hb5⟩; replace hri := hri.below hb5 hri.lt; replace hre := hre.below hb5 hre.lt; replace hrs := hrs.below hb5 hrs.lt; replace hbe := hbe.trans (hb5.mono hbe.size))
    | ((with_reducible show wpList _ _ _ ({ dst := none, op := .store _ (.tmp 13) (.tmp 27), type := _, pos := _, after := _, guard := _ } :: _) _ _); refine wpl_store_st rfl (.tmp 13) (.tmp 27) rfl (n := 5) HZS.out w5.heap.size #[.int .i64 0, .int .i64 0, .int .i64 0, .int .u64 0, .int .u64 0] #[.int .i64 t.opn, .int .i64 t.view, .int .i64 t.under, .int .u64 (t.parent : Int), .int .u64 (t.sum : Int)] rfl rfl (Row.new _ _ _) ?_ (hid rfl) (hid rfl) (hid (stcells_one t)); intro w6 hro HB6; replace hri := (hri.alloc (.cells #[.int .i64 0, .int .i64 0, .int .i64 0, .int .u64 0, .int .u64 0] 26)).grown HB6 (by have := hri.lt; intro e; have := Option.some.inj e; omega); replace hre := (hre.alloc (.cells #[.int .i64 0, .int .i64 0, .int .i64 0, .int .u64 0, .int .u64 0] 26)).grown HB6 (by have := hre.lt; intro e; have := Option.some.inj e; omega); replace hrs := (hrs.alloc (.cells #[.int .i64 0, .int .i64 0, .int .i64 0, .int .u64 0, .int .u64 0] 26)).grown HB6 (by have := hrs.lt; intro e; have := Option.some.inj e; omega); replace hbe := (hbe.alloc hbe.size (.cells #[.int .i64 0, .int .i64 0, .int .i64 0, .int .u64 0, .int .u64 0] 26)).trans (below_grown HB6 hbe.size (by have := hbe.size; simp; omega)); have he1 := hre.at_ 1 _ rfl; have hs0 := hrs.at_ 0 _ rfl)
    | ((with_reducible show wpList _ _ _ ({ dst := none, op := .store _ (.tmp 6) (.tmp 70), type := _, pos := _, after := _, guard := _ } :: _) _ _); refine wpl_store_st rfl (.tmp 6) (.tmp 70) rfl (n := 15) HZI.out w.heap.size #[.int .i64 0, .int .i64 0, .int .i64 0, .int .i64 0, .int .u64 0, .int .u64 0, .int .i64 0, .int .i64 0, .int .i64 0, .int .u64 0, .int .i64 0, .int .i64 0, .int .i64 0, .int .i64 0, .string ⟨#[]⟩] #[.int .i64 0, .int .i64 0, .int .i64 0, .int .i64 0, .int .u64 0, .int .u64 0, .int .i64 0, .int .i64 0, .int .i64 0, .int .u64 0, .int .i64 0, .int .i64 0, .int .i64 0, .int .i64 0, .string ⟨#[]⟩] rfl rfl hri ?_ (hid rfl) (hid rfl) (hid (by simp [Value.oneCell'])); intro w7 hr7 HB7))
  exact bodyPost_ret (v := .agg #[.int .i64 0, .int .i64 0, .int .i64 0, .int .i64 0, .int .u64 0, .int .u64 0, .int .i64 0, .int .i64 0, .int .i64 0, .int .u64 0, .int .i64 0, .int .i64 0, .int .i64 0, .int .i64 0, .string ⟨#[]⟩]) (results_cell_row rfl _ _ w.heap.size 41 #[.int .i64 0, .int .i64 0, .int .i64 0, .int .i64 0, .int .u64 0, .int .u64 0, .int .i64 0, .int .i64 0, .int .i64 0, .int .u64 0, .int .i64 0, .int .i64 0, .int .i64 0, .int .i64 0, .string ⟨#[]⟩] (0, 0) _ rfl (Row.arr (cs := #[.int .i64 0, .int .i64 0, .int .i64 0, .int .i64 0, .int .u64 0, .int .u64 0, .int .i64 0, .int .i64 0, .int .i64 0, .int .u64 0, .int .i64 0, .int .i64 0, .int .i64 0, .int .i64 0, .string ⟨#[]⟩]) hr7) Tryd.underlying41 rfl HZI.out) rfl ⟨rfl, hbe.trans (below_grown HB7 (Nat.le_refl _) hbe.size)⟩
set_option maxHeartbeats 1000000 in
theorem sjudge_8 (p h : ByteArray) (n : Int) (e : En) (s t : St) (w : World) (hf : Fd w) 
    (HE : Hid (∀ W : World, Fd W → Calls Tryd.prog 20 #[.string p] W (LQ W #[.int .i64 e.view, .int .i64 e.opn, .int .i64 e.under, .int .u64 (e.parent : Int), .int .i64 e.client, .int .i64 e.session, .int .i64 e.request, .int .i64 e.oper, .string e.body] false false)))
    (HS : Hid (∀ W : World, Calls Tryd.prog 21 #[.string h] W (LQ W #[.int .i64 s.opn, .int .i64 s.view, .int .i64 s.under, .int .u64 (s.parent : Int), .int .u64 (s.sum : Int)] false false)))
    (HT : Hid (∀ W : World, Fd W → Calls Tryd.prog 16 #[.agg #[.int .i64 e.view, .int .i64 e.opn, .int .i64 e.under, .int .u64 (e.parent : Int), .int .i64 e.client, .int .i64 e.session, .int .i64 e.request, .int .i64 e.oper, .string e.body]] W (VE W (.agg #[.int .i64 t.opn, .int .i64 t.view, .int .i64 t.under, .int .u64 (t.parent : Int), .int .u64 (t.sum : Int)])))) :
    Calls Tryd.prog 24 #[.string p, .string h, .int .i64 n] w (VE w (⟨3, st0, en0⟩ : It).val) := by
  have HZE := hid esize
  have HZS := hid stsize
  have HZI := hid isize
  have HFd := hid hf
  clear hf
  go_enter Tryd.func24, Tryd.ntmps24
  go_wp2_with (first
    | (go_at_call 20; refine (HE.out _ (HFd.out.below ((Below.refl w.heap.size w).alloc (Nat.le_refl _) _) HFd.out.1)).mono ?_; rintro x w1 ⟨rfl, hb1⟩; have hri := (Row.new w 41 #[.int .i64 0, .int .i64 0, .int .i64 0, .int .i64 0, .int .u64 0, .int .u64 0, .int .i64 0, .int .i64 0, .int .i64 0, .int .u64 0, .int .i64 0, .int .i64 0, .int .i64 0, .int .i64 0, .string ⟨#[]⟩]).below hb1 (by simp); have hbe := ((Below.refl w.heap.size w).alloc (Nat.le_refl _) (.cells #[.int .i64 0, .int .i64 0, .int .i64 0, .int .i64 0, .int .u64 0, .int .u64 0, .int .i64 0, .int .i64 0, .int .i64 0, .int .u64 0, .int .i64 0, .int .i64 0, .int .i64 0, .int .i64 0, .string ⟨#[]⟩] 41)).trans (hb1.mono (by simp)))
    | ((with_reducible show wpList _ _ _ ({ dst := none, op := .store _ (.tmp 7) (.tmp 17), type := _, pos := _, after := _, guard := _ } :: _) _ _); refine wpl_store_st rfl (.tmp 7) (.tmp 17) rfl (n := 9) HZE.out w1.heap.size #[.int .i64 0, .int .i64 0, .int .i64 0, .int .u64 0, .int .i64 0, .int .i64 0, .int .i64 0, .int .i64 0, .string ⟨#[]⟩] #[.int .i64 e.view, .int .i64 e.opn, .int .i64 e.under, .int .u64 (e.parent : Int), .int .i64 e.client, .int .i64 e.session, .int .i64 e.request, .int .i64 e.oper, .string e.body] rfl rfl (Row.new _ _ _) ?_ (hid rfl) (hid rfl) (hid (ecells_one e)); intro w2 hre HB2; replace hri := (hri.alloc (.cells #[.int .i64 0, .int .i64 0, .int .i64 0, .int .u64 0, .int .i64 0, .int .i64 0, .int .i64 0, .int .i64 0, .string ⟨#[]⟩] 24)).grown HB2 (by have := hri.lt; intro e; have := Option.some.inj e; omega); replace hbe := (hbe.alloc hbe.size (.cells #[.int .i64 0, .int .i64 0, .int .i64 0, .int .u64 0, .int .i64 0, .int .i64 0, .int .i64 0, .int .i64 0, .string ⟨#[]⟩] 24)).trans (below_grown HB2 hbe.size (by have := hbe.size; simp; omega)))
    | (go_at_call 21; refine (HS.out _).mono ?_; rintro x w3 ⟨rfl, hb3⟩; replace hri := hri.below hb3 hri.lt; replace hre := hre.below hb3 hre.lt; replace hbe := hbe.trans (hb3.mono hbe.size))
    | ((with_reducible show wpList _ _ _ ({ dst := none, op := .store _ (.tmp 10) (.tmp 23), type := _, pos := _, after := _, guard := _ } :: _) _ _); refine wpl_store_st rfl (.tmp 10) (.tmp 23) rfl (n := 5) HZS.out w3.heap.size #[.int .i64 0, .int .i64 0, .int .i64 0, .int .u64 0, .int .u64 0] #[.int .i64 s.opn, .int .i64 s.view, .int .i64 s.under, .int .u64 (s.parent : Int), .int .u64 (s.sum : Int)] rfl rfl (Row.new _ _ _) ?_ (hid rfl) (hid rfl) (hid (stcells_one s)); intro w4 hrs HB4; replace hri := (hri.alloc (.cells #[.int .i64 0, .int .i64 0, .int .i64 0, .int .u64 0, .int .u64 0] 26)).grown HB4 (by have := hri.lt; intro e; have := Option.some.inj e; omega); replace hre := (hre.alloc (.cells #[.int .i64 0, .int .i64 0, .int .i64 0, .int .u64 0, .int .u64 0] 26)).grown HB4 (by have := hre.lt; intro e; have := Option.some.inj e; omega); replace hbe := (hbe.alloc hbe.size (.cells #[.int .i64 0, .int .i64 0, .int .i64 0, .int .u64 0, .int .u64 0] 26)).trans (below_grown HB4 hbe.size (by have := hbe.size; simp; omega)))
    | ((with_reducible show wpList _ _ _ ({ dst := some 26, op := _, type := _, pos := _, after := _, guard := _ } :: _) _ _); refine wpList_load_row rfl 24 (.tmp 7) rfl w1.heap.size rfl 24 #[.int .i64 e.view, .int .i64 e.opn, .int .i64 e.under, .int .u64 (e.parent : Int), .int .i64 e.client, .int .i64 e.session, .int .i64 e.request, .int .i64 e.oper, .string e.body] (0, 0) _ (Row.arr (cs := #[.int .i64 e.view, .int .i64 e.opn, .int .i64 e.under, .int .u64 (e.parent : Int), .int .i64 e.client, .int .i64 e.session, .int .i64 e.request, .int .i64 e.oper, .string e.body]) hre) Tryd.underlying24 rfl HZE.out ?_)
    | (go_at_call 16; refine (HT.out _ (HFd.out.below hbe HFd.out.1)).mono ?_; rintro x w5 ⟨rfl, hb5⟩; replace hri := hri.below hb5 hri.lt; replace hre := hre.below hb5 hre.lt; replace hrs := hrs.below hb5 hrs.lt; replace hbe := hbe.trans (hb5.mono hbe.size))
    | ((with_reducible show wpList _ _ _ ({ dst := none, op := .store _ (.tmp 13) (.tmp 27), type := _, pos := _, after := _, guard := _ } :: _) _ _); refine wpl_store_st rfl (.tmp 13) (.tmp 27) rfl (n := 5) HZS.out w5.heap.size #[.int .i64 0, .int .i64 0, .int .i64 0, .int .u64 0, .int .u64 0] #[.int .i64 t.opn, .int .i64 t.view, .int .i64 t.under, .int .u64 (t.parent : Int), .int .u64 (t.sum : Int)] rfl rfl (Row.new _ _ _) ?_ (hid rfl) (hid rfl) (hid (stcells_one t)); intro w6 hro HB6; replace hri := (hri.alloc (.cells #[.int .i64 0, .int .i64 0, .int .i64 0, .int .u64 0, .int .u64 0] 26)).grown HB6 (by have := hri.lt; intro e; have := Option.some.inj e; omega); replace hre := (hre.alloc (.cells #[.int .i64 0, .int .i64 0, .int .i64 0, .int .u64 0, .int .u64 0] 26)).grown HB6 (by have := hre.lt; intro e; have := Option.some.inj e; omega); replace hrs := (hrs.alloc (.cells #[.int .i64 0, .int .i64 0, .int .i64 0, .int .u64 0, .int .u64 0] 26)).grown HB6 (by have := hrs.lt; intro e; have := Option.some.inj e; omega); replace hbe := (hbe.alloc hbe.size (.cells #[.int .i64 0, .int .i64 0, .int .i64 0, .int .u64 0, .int .u64 0] 26)).trans (below_grown HB6 hbe.size (by have := hbe.size; simp; omega)); have he1 := hre.at_ 1 _ rfl; have hs0 := hrs.at_ 0 _ rfl)
    | ((with_reducible show wpList _ _ _ ({ dst := none, op := .store _ (.tmp 6) (.tmp 71), type := _, pos := _, after := _, guard := _ } :: _) _ _); refine wpl_store_st rfl (.tmp 6) (.tmp 71) rfl (n := 15) HZI.out w.heap.size #[.int .i64 0, .int .i64 0, .int .i64 0, .int .i64 0, .int .u64 0, .int .u64 0, .int .i64 0, .int .i64 0, .int .i64 0, .int .u64 0, .int .i64 0, .int .i64 0, .int .i64 0, .int .i64 0, .string ⟨#[]⟩] #[.int .i64 3, .int .i64 0, .int .i64 0, .int .i64 0, .int .u64 0, .int .u64 0, .int .i64 0, .int .i64 0, .int .i64 0, .int .u64 0, .int .i64 0, .int .i64 0, .int .i64 0, .int .i64 0, .string ⟨#[]⟩] rfl rfl hri ?_ (hid rfl) (hid rfl) (hid (by simp [Value.oneCell'])); intro w7 hr7 HB7))
  exact bodyPost_ret (v := .agg #[.int .i64 3, .int .i64 0, .int .i64 0, .int .i64 0, .int .u64 0, .int .u64 0, .int .i64 0, .int .i64 0, .int .i64 0, .int .u64 0, .int .i64 0, .int .i64 0, .int .i64 0, .int .i64 0, .string ⟨#[]⟩]) (results_cell_row rfl _ _ w.heap.size 41 #[.int .i64 3, .int .i64 0, .int .i64 0, .int .i64 0, .int .u64 0, .int .u64 0, .int .i64 0, .int .i64 0, .int .i64 0, .int .u64 0, .int .i64 0, .int .i64 0, .int .i64 0, .int .i64 0, .string ⟨#[]⟩] (0, 0) _ rfl (Row.arr (cs := #[.int .i64 3, .int .i64 0, .int .i64 0, .int .i64 0, .int .u64 0, .int .u64 0, .int .i64 0, .int .i64 0, .int .i64 0, .int .u64 0, .int .i64 0, .int .i64 0, .int .i64 0, .int .i64 0, .string ⟨#[]⟩]) hr7) Tryd.underlying41 rfl HZI.out) rfl ⟨rfl, hbe.trans (below_grown HB7 (Nat.le_refl _) hbe.size)⟩
end Go.Proofs.YtdcoiehhnllhmaaDoor
/-
  Package slot's Judge: what two sectors say together.
-/
namespace Go.Proofs.YtdcoiehhnllhmaaDoor
open Go.RowKit
set_option maxRecDepth 10000

theorem unpS_ok {s : List UInt8} {h : Hd} {b : List UInt8} (e : unpackS s = (h, b, 0)) : packS h b = (s, 0) ∧ h.fits := by
  unfold unpackS at e
  by_cases h1 : s.length < 128
  · rw [if_pos h1] at e
    simp at e
  · rw [if_neg h1] at e
    by_cases h2 : packS (hdOf (takeN (s.take 128))) (s.drop 128) = (s, 0)
    · rw [if_pos h2] at e
      obtain ⟨e1, e2⟩ := Prod.mk.inj e
      obtain ⟨e2, _⟩ := Prod.mk.inj e2
      subst e1 e2
      exact ⟨h2, hdS_fits s (by omega)⟩
    · rw [if_neg h2] at e
      simp at e
theorem eofS_fits {h : Hd} (b : ByteArray) (hh : h.fits) : (eof h b).fits := by
  obtain ⟨⟨a1, a2, a3, a4, a5, a6⟩, ⟨b1, b2, b3, b4, b5⟩, hp⟩ := hh
  exact ⟨⟨a4, a5, b4, b1⟩, ⟨b2, b3, a3⟩, hp⟩
theorem entryS_read (p : List UInt8) : (entryS p).2.1 = true → (entryS p).2.2 = true := by
  unfold entryS
  split
  · simp
  · split <;> simp
theorem entryS_none (p : List UInt8) : (entryS p).2.1 = false → (entryS p).1 = en0 := by
  unfold entryS
  split
  · simp
  · split <;> simp
theorem stubT_read (p : List UInt8) : (stubT p).2.1 = true → (stubT p).2.2 = true := by
  unfold stubT
  split
  · simp
  · split <;> simp
theorem stubT_rt (p : List UInt8) : (stubT p).2.1 = true → SRt (stubT p).1 := by
  unfold stubT
  split
  · simp
  · split
    · rename_i h
      exact fun _ => unpackT_ok h
    · simp
theorem en0_fits : en0.fits := by unfold En.fits en0 In64; simp
theorem unpackE_fits (s : List UInt8) : (unpackE s).1.fits := by
  unfold unpackE
  split
  · rename_i h
    have e : unpackS s = ((unpackS s).1, (unpackS s).2.1, 0) := by rw [← h.1]
    exact eofS_fits _ (unpS_ok e).2
  · exact en0_fits
theorem entryS_fits (p : List UInt8) : (entryS p).1.fits := by
  unfold entryS
  split
  · exact en0_fits
  · split
    · exact unpackE_fits _
    · exact en0_fits
theorem judge_any (p h : ByteArray) (n : Int) (w : World) (hf : Fd w) : Calls Tryd.prog 24 #[.string p, .string h, .int .i64 n] w (VE w (judgeS (sb p) (sb h) n).val) := by
  have HE := hid (fun W (hW : Fd W) => entryS_any p W hW)
  have HS := hid (fun W => stubT_any h W)
  have HT := hid (fun W (hW : Fd W) => sstub_any (entryS (sb p)).1 (entryS_fits _) W hW)
  have r1 := entryS_read (sb p)
  have r2 := stubT_read (sb h)
  unfold judgeS
  generalize entryS (sb p) = E at *
  generalize stubT (sb h) = T at *
  obtain ⟨e, kept, readp⟩ := E
  obtain ⟨s, noted, readh⟩ := T
  simp only at *
  generalize stubS e = t at *
  cases noted
  · rw [if_neg (by simp), if_neg (by simp)]
    cases readh
    · rw [if_neg (by simp)]
      cases kept
      · rw [if_neg (by simp)]
        cases readp
        · rw [if_neg (by simp)]
          exact sjudge_8 p h n e s t w hf HE HS HT
        · rw [if_pos rfl]
          exact sjudge_7 p h n e s t w hf HE HS HT
      · rw [r1 rfl] at HE ⊢
        by_cases hn : e.opn = n
        · rw [if_pos ⟨rfl, hn⟩]
          exact sjudge_5 p h n e s t w hf (by simpa using hn) HE HS HT
        · rw [if_neg (fun q => hn q.2), if_pos rfl]
          exact sjudge_6 p h n e s t w hf (by simpa using hn) HE HS HT
    · rw [if_pos rfl]
      exact sjudge_4 p h n e s t kept readp w hf HE HS HT
  · rw [r2 rfl] at HS ⊢
    by_cases hn : s.opn = n
    · by_cases hq : t = s
      · rw [if_pos ⟨rfl, hn, hq⟩]
        exact sjudge_1 p h n e s t kept readp w hf (by simpa using hn) (hid (by simpa using hq)) HE HS HT
      · rw [if_neg (fun q => hq q.2.2), if_pos ⟨rfl, hn⟩]
        exact sjudge_2 p h n e s t kept readp w hf (by simpa using hn) (hid (by simpa using hq)) HE HS HT
    · rw [if_neg (fun q => hn q.2.1), if_neg (fun q => hn q.2), if_pos rfl]
      exact sjudge_3 p h n e s t kept readp w hf (by simpa using hn) HE HS HT
end Go.Proofs.YtdcoiehhnllhmaaDoor
