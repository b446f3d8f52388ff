/-
  The walks of package num's inner functions.
-/
import Derived.Test.YtcildaeiogdfdaaGreatDoorRows
import Derived.Test.YtcildaeiogdfdaaGreatDoorZ01
namespace Go.Proofs.YtcildaeiogdfdaaGreatDoor
open Go.RowKit

/-- the size lowest bytes of n, the lowest first -/
def le : Nat → Nat → List UInt8
  | _, 0 => []
  | n, k + 1 => UInt8.ofNat n :: le (n / 256) k
theorem le_len : ∀ k n, (le n k).length = k
  | 0, _ => rfl
  | k + 1, n => by simp [le, le_len k]
theorem le_get : ∀ (k n j : Nat), j < k → (le n k)[j]? = some (UInt8.ofNat (n / 2 ^ (8 * j)))
  | 0, _, _, h => by omega
  | k + 1, n, 0, _ => by simp [le]
  | k + 1, n, j + 1, h => by
    rw [le, List.getElem?_cons_succ, le_get k _ j (by omega), Nat.div_div_eq_div_mul]
    congr 3
    rw [show 8 * (j + 1) = 8 + 8 * j by omega, Nat.pow_add]
theorem bv_ofNat (m : Nat) : bv (UInt8.ofNat m) = .int .u8 ((m : Int) % 256) := by
  simp [bv]
def lw (n k : Nat) : List Value := bvs (le n k) ++ List.replicate (8 - k) (.int .u8 0)
theorem lw_len (n k : Nat) (h : k ≤ 8) : (lw n k).length = 8 := by simp [lw, bvs, le_len]; omega
theorem lw_at (n k : Nat) (h : k < 8) : (lw n k)[k]? = some (.int .u8 0) := by
  have h1 : (bvs (le n k)).length = k := by simp [bvs, le_len]
  rw [lw, List.getElem?_append_right (by omega), h1]
  simp [show 0 < 8 - k by omega]
theorem lw_set (n k : Nat) (h : k < 8) : (lw n k).set k (.int .u8 ((n : Int) / 2 ^ (8 * k) % 256)) = lw n (k + 1) := by
  have h1 : ∀ m, (bvs (le n m)).length = m := fun m => by simp [bvs, le_len]
  apply List.ext_getElem?
  intro j
  by_cases hj : j = k
  · subst hj
    rw [List.getElem?_set_self (by rw [lw_len n j (by omega)]; omega)]
    rw [lw, List.getElem?_append_left (by rw [h1]; omega), bvs, List.getElem?_map, le_get _ _ _ (by omega)]
    simp only [Option.map_some, bv_ofNat]
    simp
  · rw [List.getElem?_set_ne (by omega)]
    by_cases hlt : j < k
    · rw [lw, lw, List.getElem?_append_left (by rw [h1]; omega), List.getElem?_append_left (by rw [h1]; omega), bvs, bvs, List.getElem?_map, List.getElem?_map, le_get _ _ _ hlt, le_get _ _ _ (by omega)]
    · rw [lw, lw, List.getElem?_append_right (by rw [h1]; omega), List.getElem?_append_right (by rw [h1]; omega), h1, h1]
      simp [List.getElem?_replicate]
      by_cases h8 : j < 8
      · rw [if_pos (by omega), if_pos (by omega)]
      · rw [if_neg (by omega), if_neg (by omega)]
theorem lw_zero (n : Nat) : lw n 0 = List.replicate 8 (.int .u8 0) := by simp [lw, le, bvs]
theorem lw_take (n k : Nat) (h : k ≤ 8) : (lw n 8).take k = bvs (le n k) := by
  apply List.ext_getElem?
  intro j
  have h1 : ∀ m, (bvs (le n m)).length = m := fun m => by simp [bvs, le_len]
  rw [List.getElem?_take]
  by_cases hj : j < k
  · rw [if_pos hj, lw, List.getElem?_append_left (by rw [h1]; omega), bvs, bvs, List.getElem?_map, List.getElem?_map, le_get _ _ _ hj, le_get _ _ _ (by omega)]
  · rw [if_neg hj, List.getElem?_eq_none (by rw [h1]; omega)]
theorem u8info : (Tryz.prog.info? 5).map (fun i => (i.zero, i.size, i.bytes)) = some (some (.int .u8 0), 1, 1) := by kernel_rfl
theorem splice_two {α : Type} (Z X Y : List α) (hz : Z.length = X.length + Y.length) : splice (splice Z 0 X) X.length Y = X ++ Y := by
  simp [splice]
  omega
set_option maxRecDepth 10000 in
set_option maxHeartbeats 400000 in
theorem lay_any (A : Option Addr) (bs : List UInt8) (l c n size B : Nat) (w : World) (hr : Rd w B A (bvs bs)) (hl : l = bs.length) (h0 : size ≤ 8) (hB : B ≤ w.heap.size) (hl2 : l ≤ 140737488351232) :
    Calls Tryz.prog 94 #[.slice A l c, .int .u64 n, .int .i64 size] w fun e w' => ∃ g, e = .returned (.slice (some ⟨g, 0, none⟩) (l + size) (l + size)) ∧
      w.heap.size ≤ g ∧ Row w' g 5 (bvs (bs ++ le n size)) ∧ Below w.heap.size w w' := by
  obtain ⟨i0, hi, hz0, hz1, hz2⟩ := info_parts u8info
  have HL : Hid (l = bs.length) := hl
  clear hl
  go_enter Tryz.func94, Tryz.ntmps94
  go_wp2_with fail
  go_loopw [8, 10] (fun _ i wr => ∃ k : Nat, k ≤ 8 ∧ i = .int .i64 k ∧ Row wr w.heap.size 126 (lw n k) ∧ Below w.heap.size w wr) (fun _ i _ => 8 - (intOf i).toNat)
  case atStart => exact ⟨0, by omega, rfl, by rw [lw_zero]; exact Row.new _ _ _, (Below.refl _ _).alloc (Nat.le_refl _) _⟩
  case round =>
    obtain ⟨k, hk, rfl, hb, hbe⟩ := hrel
    by_cases hlt : k < 8
    · have hc := (hb.cell k).trans (lw_at n k hlt)
      have hf := hb.frozen k
      have hst := hb.set_ k (.int .u8 ((n : Int) / 2 ^ (8 * k) % 256))
      rw [lw_set n k hlt] at hst
      have HS := hid hst
      clear hst hb
      go_wp2_with fail
      go_roundw
      case rel => exact ⟨k + 1, by omega, by go_num, HS.out, hbe.setCell (Nat.le_refl _) _⟩
      case measure => simp [intOf]; omega
    · have HB := hid hb
      have hbsz : w.heap.size < wr.heap.size := hb.lt
      have HBe := hid hbe
      clear hb hbe
      obtain rfl : k = 8 := by omega
      go_wp2_with (first
        | (with_reducible refine wpl_make rfl _ _ _ rfl 5 i0 _ Tryz.underlying47 hi hz0 hz1 rfl _ _ _ _ (l + size) rfl rfl ?_ ?_ ?_ ?_ ?_; intro g w1 HG HR1 HB1)
        | (with_reducible refine wpl_copy rfl _ _ _ _ rfl 5 Tryz.underlying47 rfl (some ⟨g, 0, none⟩) A (l + size) (l + size) l c rfl rfl g 0 _ 5 HR1 B (bvs bs) ?_ ?_ ?_ ?_ ?_ ?_; intro w2 HR2 HB2))
      rotate_left
      · exact hid ((hr.below HBe.out hB).below HB1 (by have := HG.out; omega))
      · exact hid (by rw [bvs_len, ← HL.out]; simp)
      · exact hid trivial
      · exact hid (by rw [bvs_len, ← HL.out]; simp)
      · exact hid (bvs_one bs)
      · exact hid (by omega)
      · exact hid (by omega)
      · exact hid (by rw [hz2]; omega)
      · exact hid (by simp only [maxLen]; omega)
      have hle : (l : Int) ≤ (l : Int) + size := by omega
      have hle8 : (size : Int) ≤ 8 := by omega
      have RW : Row w2 w.heap.size 126 (lw n 8) := ((HB.out.below HB1 (by have := HG.out; omega))).grown HB2 (by have := HG.out; simp; omega)
      have f1 : Hid (Rd w2.drew w2.heap.size (some ⟨w.heap.size, 0, none⟩) (bvs (le n size))) := hid (by rw [← lw_take n size h0]; exact (RW.rd RW.lt).take size)
      have f2 : Hid ((bvs (le n size)).length = Nat.min size size) := hid (by rw [bvs_len, le_len]; simp)
      have f3 : Hid (0 < (bvs (le n size)).length → (if size = 0 then some (⟨g, 0, none⟩ : Addr) else some ⟨g, l, none⟩) = some ⟨g, l, none⟩) := hid (fun h => by rw [bvs_len, le_len] at h; rw [if_neg (by omega)])
      have f4 : Hid (l + (bvs (le n size)).length ≤ (splice (List.replicate (l + size) (Value.int .u8 0)) 0 (bvs bs)).length) := hid (by rw [length_splice _ _ _ (by rw [bvs_len, ← HL.out]; simp), bvs_len, le_len]; simp)
      have f5 := hid (bvs_one (le n size))
      have HR3 : Row w2.drew g 5 (splice (List.replicate (l + size) (Value.int .u8 0)) 0 (bvs bs)) := HR2
      go_region_law (refine step_of_wpo rfl (wpo_copy (.tmp 32) (.tmp 34) 47 47 rfl 5 Tryz.underlying47 rfl (if size = 0 then some ⟨g, 0, none⟩ else some ⟨g, l, none⟩) (some ⟨w.heap.size, 0, none⟩) size size size 8 (by simp [Act.eval, Act.put]) (by simp [Act.eval, Act.put]) g l _ 5 HR3 _ _ (fun w3 HR4 HB3 => ?_) f1 f2 f3 f4 f5))
      have hfin : ∀ s, s = size → Row w3 g 5 (bvs (bs ++ le n s)) := by
        rintro s rfl
        have h := splice_two (List.replicate (l + s) (Value.int .u8 0)) (bvs bs) (bvs (le n s)) (by simp [bvs_len, le_len, HL.out])
        rw [bvs_len, ← HL.out] at h
        rw [h, ← bvs_app] at HR4
        exact HR4
      have HF := hid hfin
      clear hfin
      go_wp2_with fail
      all_goals
        go_ret
        have h0 := HG.out
        exact ⟨g, rfl, by omega, HF.out _ (by omega), ((HBe.out.trans (HB1.mono (by omega))).trans (below_grown HB2 (by omega) (by have := HR1.lt; omega))).drew.trans (below_grown HB3 (by omega) (by have := HR3.lt; omega))⟩
end Go.Proofs.YtcildaeiogdfdaaGreatDoor
/-
  The walks of Put and PutText, and of the answers held against them.
-/
namespace Go.Proofs.YtcildaeiogdfdaaGreatDoor
open Go.RowKit
set_option maxRecDepth 10000

theorem own_shape {w : World} {B : Nat} {e : TypeId} {v : Value} {n : Nat} {xs : List Value} (h : w.ownsRow B e 1 v n xs) :
    ∃ A c, v = .slice A n c ∧ n ≤ c ∧ xs.length = n ∧ Rd w w.heap.size A xs := by
  obtain ⟨h1, h2⟩ := h
  have h3 : xs.length = n := by omega
  subst h3
  rcases h2 with ⟨rfl, h0⟩ | ⟨g, cap, cur, rfl, a, b, c, d⟩
  · rw [h0]
    exact ⟨none, 0, rfl, Nat.le_refl _, rfl, by rw [List.eq_nil_of_length_eq_zero h0]; exact Rd.nil⟩
  · exact ⟨_, cap, rfl, c, rfl, Rd.of_own ⟨h1, .inr ⟨g, cap, cur, rfl, a, b, c, d⟩⟩⟩
/-- new bytes and an error's number -/
def BE (w : World) (r : List UInt8 × Int) (e : Ending) (w' : World) : Prop :=
  ∃ A c, e = .returned (.tuple #[.slice A r.1.length c, .int .i64 r.2]) ∧ w'.ownsRow w.heap.size 5 1 (.slice A r.1.length c) r.1.length (bvs r.1) ∧ Below w.heap.size w w'
/-- what Put answers -/
def putS (bs : List UInt8) (n : Nat) (size : Int) : List UInt8 × Int :=
  if 1 ≤ size ∧ size ≤ 8 ∧ n / 2 ^ (8 * size.toNat) = 0 then (bs ++ le n size.toNat, 0) else ([], 1)
theorem isSize_yes (n : Int) (w : World) (h1 : 1 ≤ n) (h2 : n ≤ 8) :
    Calls Tryz.prog 81 #[.int .i64 n] w fun e w' => e = .returned (.bool true) ∧ w = w' := by
  go_enter Tryz.func81, Tryz.ntmps81
  go_wp2
  go_ret
  exact ⟨by simp, rfl⟩
theorem isSize_no (n : Int) (w : World) (h : ¬ (1 ≤ n ∧ n ≤ 8)) :
    Calls Tryz.prog 81 #[.int .i64 n] w fun e w' => e = .returned (.bool false) ∧ w = w' := by
  by_cases h1 : 1 ≤ n
  · have h2 : ¬ n ≤ 8 := fun h2 => h ⟨h1, h2⟩
    clear h
    go_enter Tryz.func81, Tryz.ntmps81
    go_wp2
    go_ret
    exact ⟨by simp, rfl⟩
  · have h2 : decide (1 ≤ n) = false := by simp; omega
    clear h
    go_enter Tryz.func81, Tryz.ntmps81
    go_wp2
    go_ret
    exact ⟨by simp, rfl⟩
set_option maxHeartbeats 400000 in
theorem put_no (A : Option Addr) (l c n : Nat) (size : Int) (w : World) (h : ¬ (1 ≤ size ∧ size ≤ 8)) :
    Calls Tryz.prog 71 #[.slice A l c, .int .u64 n, .int .i64 size] w (BE w ([], 1)) := by
  have H := hid h
  clear h
  go_enter Tryz.func71, Tryz.ntmps71
  go_wp2_with (go_at_call 81; refine (isSize_no _ _ H.out).mono ?_; rintro e w' ⟨rfl, rfl⟩)
  go_ret2
  exact ⟨none, 0, rfl, World.ownsRow_nil _ _ _ _, Below.refl _ _⟩
set_option maxHeartbeats 400000 in
theorem put_big (A : Option Addr) (l c n s : Nat) (w : World) (h0 : 1 ≤ s) (h8 : s ≤ 8) (hn : ((n : Int) / 2 ^ (8 * s) != 0) = true) :
    Calls Tryz.prog 71 #[.slice A l c, .int .u64 n, .int .i64 s] w (BE w ([], 1)) := by
  go_enter Tryz.func71, Tryz.ntmps71
  go_wp2_with (go_at_call 81; refine (isSize_yes _ _ (by omega) (by omega)).mono ?_; rintro e w' ⟨rfl, rfl⟩)
  go_ret2
  exact ⟨none, 0, rfl, World.ownsRow_nil _ _ _ _, Below.refl _ _⟩
theorem BE_row {w w' : World} {g : Nat} {bs : List UInt8} {n : Nat} (hn : n = bs.length) (hg : w.heap.size ≤ g) (hr : Row w' g 5 (bvs bs)) (hm : n ≤ maxLen) (hb : Below w.heap.size w w') :
    BE w (bs, 0) (.returned (.tuple #[.slice (some ⟨g, 0, none⟩) n n, .int .i64 0])) w' := by
  subst hn
  refine ⟨_, _, rfl, ?_, hb⟩
  have h := hr.own (B := w.heap.size) hg (by rw [bvs_len]; exact hm)
  rw [bvs_len] at h
  exact h
set_option maxHeartbeats 400000 in
theorem put_ok (A : Option Addr) (bs : List UInt8) (l c n s B : Nat) (w : World) (hr : Rd w B A (bvs bs)) (hl : l = bs.length) (h0 : 1 ≤ s) (h8 : s ≤ 8) (hB : B ≤ w.heap.size) (hl2 : l ≤ 140737488351232)
    (hn : ((n : Int) / 2 ^ (8 * s) != 0) = false) :
    Calls Tryz.prog 71 #[.slice A l c, .int .u64 n, .int .i64 s] w (BE w (bs ++ le n s, 0)) := by
  have H1 := hid hl
  clear hl
  go_enter Tryz.func71, Tryz.ntmps71
  go_wp2_with (first
    | (go_at_call 81; refine (isSize_yes _ _ (by omega) (by omega)).mono ?_; rintro e w' ⟨rfl, rfl⟩)
    | (go_at_call 94; refine (lay_any A bs l c n s B _ hr H1.out h8 hB hl2).mono ?_; rintro e w1 ⟨g, rfl, hg, hrow, hbe⟩))
  go_ret2
  exact BE_row (by simp [le_len, H1.out]) hg hrow (by simp only [maxLen]; omega) hbe
theorem int_div_pow (n k : Nat) : ((n : Int) / 2 ^ k) = ((n / 2 ^ k : Nat) : Int) := by simp
theorem put_any (A : Option Addr) (bs : List UInt8) (l c n B : Nat) (size : Int) (w : World) (hr : Rd w B A (bvs bs)) (hl : l = bs.length) (hB : B ≤ w.heap.size) (hl2 : l ≤ 140737488351232) :
    Calls Tryz.prog 71 #[.slice A l c, .int .u64 n, .int .i64 size] w (BE w (putS bs n size)) := by
  by_cases h : 1 ≤ size ∧ size ≤ 8
  · obtain ⟨s, rfl⟩ := Int.eq_ofNat_of_zero_le (show 0 ≤ size by omega)
    by_cases h2 : n / 2 ^ (8 * s) = 0
    · have e : putS bs n s = (bs ++ le n s, 0) := by
        unfold putS
        rw [if_pos ⟨h.1, h.2, by simpa using h2⟩]
        simp
      rw [e]
      exact put_ok A bs l c n s B w hr hl (by omega) (by omega) hB hl2 (by rw [int_div_pow, h2]; rfl)
    · have e : putS bs n s = ([], 1) := by
        unfold putS
        rw [if_neg (fun h3 => h2 (by simpa using h3.2.2))]
      rw [e]
      exact put_big A l c n s w (by omega) (by omega) (by rw [int_div_pow]; exact bne_iff_ne.2 (fun h => h2 (by exact_mod_cast h)))
  · have e : putS bs n size = ([], 1) := by
      unfold putS
      rw [if_neg (fun h3 => h ⟨h3.1, h3.2.1⟩)]
    rw [e]
    exact put_no A l c n size w h
end Go.Proofs.YtcildaeiogdfdaaGreatDoor
/-
  The walks of the document's answers: Bytes, Put, Same.
-/
namespace Go.Proofs.YtcildaeiogdfdaaGreatDoor
open Go.RowKit
set_option maxRecDepth 10000

set_option maxHeartbeats 400000 in
theorem rbytes_any (A : Option Addr) (bs : List UInt8) (l c B : Nat) (w : World) (hr : Rd w B A (bvs bs)) (hl : l = bs.length) (hB : B ≤ w.heap.size) (hl2 : l ≤ 140737488355328) :
    Calls Tryz.prog 99 #[.slice A l c] w fun e w' => ∃ g, e = .returned (.slice (some ⟨g, 0, none⟩) l l) ∧
      Hid (g = w.heap.size) ∧ Row w' g 5 (bvs bs) ∧ Below w.heap.size w w' := by
  obtain ⟨i0, hi, hz0, hz1, hz2⟩ := info_parts u8info
  have HL := hid hl
  clear hl
  go_enter Tryz.func99, Tryz.ntmps99
  go_wp2_with (first
    | (with_reducible refine wpl_make rfl _ _ _ rfl 5 i0 _ Tryz.underlying47 hi hz0 hz1 rfl _ _ _ _ l rfl rfl ?_ ?_ ?_ ?_ ?_; intro g w1 HG HR1 HB1)
    | (with_reducible refine wpl_copy rfl _ _ _ _ rfl 5 Tryz.underlying47 rfl (some ⟨g, 0, none⟩) A l l l c rfl rfl g 0 _ 5 HR1 B (bvs bs) ?_ ?_ ?_ ?_ ?_ ?_; intro w2 HR2 HB2))
  rotate_left
  · exact hid (hr.below HB1 (by have := HG.out; omega))
  · exact hid (by rw [bvs_len, ← HL.out]; simp)
  · exact hid trivial
  · exact hid (by rw [bvs_len, ← HL.out]; simp)
  · exact hid (bvs_one bs)
  · exact hid trivial
  · exact hid trivial
  · exact hid (by rw [hz2]; omega)
  · exact hid (by simp only [maxLen]; omega)
  go_ret
  have h0 := HG.out
  have h1 : splice (List.replicate l (Value.int .u8 0)) 0 (bvs bs) = bvs bs := by
    simp [splice, bvs_len, HL.out]
  rw [h1] at HR2
  exact ⟨g, rfl, HG, HR2, (HB1.mono (by omega)).trans (below_grown HB2 (by omega) (by have := HR1.lt; omega))⟩
set_option maxHeartbeats 400000 in
theorem rput_no (A : Option Addr) (l c n : Nat) (size : Int) (w : World) (h : ¬ (1 ≤ size ∧ size ≤ 8)) :
    Calls Tryz.prog 88 #[.slice A l c, .int .u64 n, .int .i64 size] w (BE w ([], 1)) := by
  by_cases h1 : 1 ≤ size
  · have h2 : 8 < size := by omega
    clear h
    go_enter Tryz.func88, Tryz.ntmps88
    go_wp2_with fail
    go_ret2
    exact ⟨none, 0, rfl, World.ownsRow_nil _ _ _ _, Below.refl _ _⟩
  · have h2 : size < 1 := by omega
    clear h
    go_enter Tryz.func88, Tryz.ntmps88
    go_wp2_with fail
    go_ret2
    exact ⟨none, 0, rfl, World.ownsRow_nil _ _ _ _, Below.refl _ _⟩
theorem BE_own {w w' : World} {v : Value} {bs : List UInt8} {n : Nat} (hn : n = bs.length) (h : w'.ownsRow w.heap.size 5 1 v n (bvs bs)) (hb : Below w.heap.size w w') :
    BE w (bs, 0) (.returned (.tuple #[v, .int .i64 0])) w' := by
  subst hn
  obtain ⟨A, c, rfl, _⟩ := own_shape h
  exact ⟨A, c, rfl, h, hb⟩
theorem le_snoc : ∀ (k n : Nat), le n (k + 1) = le n k ++ [UInt8.ofNat (n / 2 ^ (8 * k))]
  | 0, n => by simp [le]
  | k + 1, n => by
    rw [le, le_snoc k, le]
    simp only [List.cons_append, List.cons.injEq, true_and, List.append_cancel_left_eq, and_true]
    rw [Nat.div_div_eq_div_mul, show 8 * (k + 1) = 8 + 8 * k by omega, Nat.pow_add]
set_option maxHeartbeats 400000 in
theorem rput_yes (A : Option Addr) (bs : List UInt8) (l c n s B : Nat) (w : World) (hr : Rd w B A (bvs bs)) (hl : l = bs.length) (h0 : 1 ≤ s) (h8 : s ≤ 8) (hB : B ≤ w.heap.size) (hl2 : l ≤ 140737488351232) (hn : Hid (n < 18446744073709551616)) :
    Calls Tryz.prog 88 #[.slice A l c, .int .u64 n, .int .i64 s] w (BE w (putS bs n s)) := by
  obtain ⟨i0, hi, hz0, hz1, hz2⟩ := info_parts u8info
  have H1 := hid hl
  clear hl
  go_enter Tryz.func88, Tryz.ntmps88
  go_wp2_with (go_at_call 99; refine (rbytes_any A bs l c B _ hr H1.out hB (by omega)).mono ?_; rintro e w1 ⟨g, rfl, hg, hrow, hbe⟩)
  go_loopw [1, 8, 9] (fun x out i wr => ∃ (k m : Nat) , k ≤ s ∧ i = .int .i64 k ∧ x = .int .u64 m ∧ Hid (m = n / 2 ^ (8 * k)) ∧ wr.ownsRow w.heap.size 5 1 out (l + k) (bvs (bs ++ le n k)) ∧ Below w.heap.size w wr) (fun _ _ i _ => s - (intOf i).toNat)
  case atStart =>
    refine ⟨0, n, by omega, rfl, rfl, hid (by simp), ?_, hbe⟩
    have h := hrow.own (B := w.heap.size) (by have := hg.out; omega) (by rw [bvs_len, ← H1.out]; simp only [maxLen]; omega)
    rw [bvs_len, ← H1.out] at h
    simpa [le] using h
  case round =>
    obtain ⟨k, m, hk, rfl, rfl, hm, hown, hbe'⟩ := hrel
    have hsz := hbe'.size
    by_cases hlt : k < s
    · go_wp2_with (with_reducible refine wpl_append rfl (.tmp 23) (.tmp 27) 47 rfl w.heap.size 5 i0 _ 1 1 Tryz.underlying47 hi hz0 hz1 hz2 rfl (by omega) u8 (l + k) _ rfl (hown.alloc _) (wr.heap.size + 1) (some ⟨wr.heap.size, 0, none⟩) 1 1 [.int .u8 ((m : Int) % 256)] rfl ?_ ?_ ?_ ?_ ?_ ?_ ?_; intro v' w2 hown2 hb2 hg2)
      rotate_left
      · refine hid fun _ => ⟨_, _, rfl, by omega, ?_⟩
        intro j u hu
        match j, hu with
        | 0, hu => simp at hu; subst hu; simp
      · exact hid rfl
      · exact hid (by intro u hu; simp at hu; subst hu; rfl)
      · exact hid (by simp only [maxLen]; omega)
      · exact hid (by omega)
      · exact hid (by simp; omega)
      have e1 : ((m : Int) / 256) = ((m / 256 : Nat) : Int) := by simp
      go_roundw
      case rel =>
        refine ⟨k + 1, m / 256, by omega, by go_num, ?_, hid ?_, ?_, ?_⟩
        · rw [← e1]
          congr 1
          exact IntWalk.u64_in _ ⟨by omega, by have := hm.out; have := Nat.div_le_self n (2 ^ (8 * k)); have := hn.out; omega⟩
        · rw [hm.out, Nat.div_div_eq_div_mul, show 8 * (k + 1) = 8 * k + 8 by omega, Nat.pow_add]
        · rw [le_snoc, ← hm.out, ← List.append_assoc, bvs_app (bs ++ le n k)]
          have : bvs [UInt8.ofNat m] = [.int .u8 ((m : Int) % 256)] := by simp [bvs, bv_ofNat]
          rw [this]
          exact hown2
        · exact (hbe'.alloc hsz _).trans hb2
      case measure => simp [intOf]; omega
    · obtain rfl : k = s := by omega
      have HM := hm
      by_cases hz : m = 0
      · have hfin : putS bs n k = (bs ++ le n k, 0) := by
          unfold putS
          rw [if_pos ⟨by omega, by omega, by simpa using hm.out.symm.trans hz⟩]
          simp
        have HF := hid hfin
        clear hfin
        go_wp2_with fail
        go_ret2
        rw [HF.out]
        exact BE_own (by simp [le_len, H1.out]) hown hbe'
      · have hfin : putS bs n k = ([], 1) := by
          unfold putS
          rw [if_neg (fun h => hz (hm.out.trans (by simpa using h.2.2)))]
        have HF := hid hfin
        clear hfin
        go_wp2_with fail
        go_ret2
        rw [HF.out]
        exact ⟨none, 0, rfl, World.ownsRow_nil _ _ _ _, hbe'⟩
theorem rput_any (A : Option Addr) (bs : List UInt8) (l c n B : Nat) (size : Int) (w : World) (hr : Rd w B A (bvs bs)) (hl : l = bs.length) (hB : B ≤ w.heap.size) (hl2 : l ≤ 140737488351232) (hn : Hid (n < 18446744073709551616)) :
    Calls Tryz.prog 88 #[.slice A l c, .int .u64 n, .int .i64 size] w (BE w (putS bs n size)) := by
  by_cases h : 1 ≤ size ∧ size ≤ 8
  · obtain ⟨s, rfl⟩ := Int.eq_ofNat_of_zero_le (show 0 ≤ size by omega)
    exact rput_yes A bs l c n s B w hr hl (by omega) (by omega) hB hl2 hn
  · have e : putS bs n size = ([], 1) := by
      unfold putS
      rw [if_neg (fun h3 => h ⟨h3.1, h3.2.1⟩)]
    rw [e]
    exact rput_no A l c n size w h
end Go.Proofs.YtcildaeiogdfdaaGreatDoor
/-
  The walks of Take and of the answer held against it.
-/
namespace Go.Proofs.YtcildaeiogdfdaaGreatDoor
open Go.RowKit
set_option maxRecDepth 10000

/-- the number of some bytes, the lowest first -/
def leV : List UInt8 → Nat
  | [] => 0
  | b :: r => b.toNat + 256 * leV r
/-- a number and an error's number -/
def NE (w : World) (r : Nat × Int) (e : Ending) (w' : World) : Prop :=
  e = .returned (.tuple #[.int .u64 (r.1 : Int), .int .i64 r.2]) ∧ Below w.heap.size w w'
/-- what Take answers -/
def takeS (bs : List UInt8) (at_ size : Int) : Nat × Int :=
  if ¬ (1 ≤ size ∧ size ≤ 8) ∨ at_ < 0 then (0, 1) else if (bs.length : Int) - size < at_ then (0, 3) else (leV ((bs.drop at_.toNat).take size.toNat), 0)
theorem lacks_any (A : Option Addr) (l c : Nat) (at_ size : Int) (w : World) (h0 : 0 ≤ size) (h8 : size ≤ 70000) (hl : l ≤ 140737488355328) :
    Calls Tryz.prog 82 #[.slice A l c, .int .i64 at_, .int .i64 size] w fun e w' => e = .returned (.bool (decide ((l : Int) - size < at_))) ∧ w = w' := by
  go_enter Tryz.func82, Tryz.ntmps82
  go_wp2
  go_ret
  exact ⟨rfl, rfl⟩
set_option maxHeartbeats 400000 in
theorem take_arg (A : Option Addr) (l c : Nat) (at_ size : Int) (w : World) (h : ¬ (1 ≤ size ∧ size ≤ 8) ∨ at_ < 0) :
    Calls Tryz.prog 53 #[.slice A l c, .int .i64 at_, .int .i64 size] w (NE w (0, 1)) := by
  by_cases h1 : 1 ≤ size ∧ size ≤ 8
  · have h2 : at_ < 0 := h.resolve_left (fun h => h h1)
    clear h
    have H1 := hid h1
    clear h1
    go_enter Tryz.func53, Tryz.ntmps53
    go_wp2_with (go_at_call 81; refine (isSize_yes _ _ H1.out.1 H1.out.2).mono ?_; rintro e w' ⟨rfl, rfl⟩)
    go_ret2
    exact ⟨rfl, Below.refl _ _⟩
  · clear h
    have H1 := hid h1
    clear h1
    go_enter Tryz.func53, Tryz.ntmps53
    go_wp2_with (go_at_call 81; refine (isSize_no _ _ H1.out).mono ?_; rintro e w' ⟨rfl, rfl⟩)
    go_ret2
    exact ⟨rfl, Below.refl _ _⟩
set_option maxHeartbeats 400000 in
theorem take_short (A : Option Addr) (l c : Nat) (at_ size : Int) (w : World) (h1 : 1 ≤ size) (h8 : size ≤ 8) (h0 : 0 ≤ at_) (hl : l ≤ 140737488355328) (hs : decide ((l : Int) - size < at_) = true) :
    Calls Tryz.prog 53 #[.slice A l c, .int .i64 at_, .int .i64 size] w (NE w (0, 3)) := by
  have HS := hid hs
  clear hs
  go_enter Tryz.func53, Tryz.ntmps53
  go_wp2_with (first
    | (go_at_call 81; refine (isSize_yes _ _ h1 h8).mono ?_; rintro e w' ⟨rfl, rfl⟩)
    | (go_at_call 82; refine (lacks_any A l c at_ size _ (by omega) (by omega) hl).mono ?_; rw [HS.out]; rintro e w' ⟨rfl, rfl⟩))
  go_ret2
  exact ⟨rfl, Below.refl _ _⟩
/-- the eight cells behind the copy -/
def tw (xs : List UInt8) : List Value := bvs xs ++ List.replicate (8 - xs.length) (.int .u8 0)
theorem tw_len (xs : List UInt8) (h : xs.length ≤ 8) : (tw xs).length = 8 := by simp [tw, bvs_len]; omega
theorem tw_splice (xs : List UInt8) : splice (List.replicate 8 (Value.int .u8 0)) 0 (bvs xs) = tw xs := by
  unfold splice tw
  rw [List.drop_replicate]
  simp [bvs_len]
/-- its byte at k -/
def tb (xs : List UInt8) (k : Nat) : Nat := (xs.getD k 0).toNat
theorem tw_at (xs : List UInt8) (k : Nat) (h : k < 8) : (tw xs)[k]? = some (.int .u8 ((tb xs k : Nat) : Int)) := by
  unfold tw tb
  by_cases hk : k < xs.length
  · rw [List.getElem?_append_left (by rw [bvs_len]; exact hk)]
    simp [bvs, bv, hk]
  · rw [List.getElem?_append_right (by rw [bvs_len]; omega), bvs_len, List.getElem?_replicate, if_pos (by omega)]
    simp [List.getD, List.getElem?_eq_none (show xs.length ≤ k by omega)]
/-- the number of the first k bytes -/
def acc (xs : List UInt8) : Nat → Nat
  | 0 => 0
  | k + 1 => acc xs k + tb xs k * 2 ^ (8 * k)
theorem tb_lt (xs : List UInt8) (k : Nat) : tb xs k < 256 := by unfold tb; exact UInt8.toNat_lt _
theorem acc_lt (xs : List UInt8) : ∀ k, acc xs k < 2 ^ (8 * k)
  | 0 => by simp [acc]
  | k + 1 => by
    have h := acc_lt xs k
    have h1 := tb_lt xs k
    rw [acc, show 8 * (k + 1) = 8 * k + 8 by omega, Nat.pow_add]
    have h2 : tb xs k * 2 ^ (8 * k) ≤ 255 * 2 ^ (8 * k) := Nat.mul_le_mul_right _ (by omega)
    omega
theorem acc_or (xs : List UInt8) (k : Nat) : acc xs k ||| (tb xs k * 2 ^ (8 * k)) = acc xs (k + 1) := by
  have h := Nat.two_pow_add_eq_or_of_lt (acc_lt xs k) (tb xs k)
  rw [acc, Nat.or_comm, Nat.mul_comm (tb xs k), ← h, Nat.add_comm]
theorem leV_snoc : ∀ (l : List UInt8) (b : UInt8), leV (l ++ [b]) = leV l + b.toNat * 2 ^ (8 * l.length)
  | [], b => by simp [leV]
  | c :: l, b => by
    simp only [List.cons_append, leV, leV_snoc l b, List.length_cons]
    rw [show 8 * (l.length + 1) = 8 * l.length + 8 by omega, Nat.pow_add, Nat.mul_add]
    have : 256 * (b.toNat * 2 ^ (8 * l.length)) = b.toNat * (2 ^ (8 * l.length) * 2 ^ 8) := by
      rw [Nat.mul_left_comm, Nat.mul_comm 256]
    omega
theorem acc_take (xs : List UInt8) : ∀ k, acc xs k = leV (xs.take k)
  | 0 => by simp [acc, leV]
  | k + 1 => by
    rw [acc, acc_take xs k]
    by_cases hk : k < xs.length
    · rw [List.take_succ_eq_append_getElem hk, leV_snoc, List.length_take, Nat.min_eq_left (by omega)]
      simp [tb, hk]
    · have h0 : tb xs k = 0 := by simp [tb, List.getD, List.getElem?_eq_none (show xs.length ≤ k by omega)]
      rw [h0, List.take_of_length_le (by omega), List.take_of_length_le (by omega)]
      simp
theorem bits_or_u64 (x y : Nat) (hx : x < 2 ^ 64) (hy : y < 2 ^ 64) : bits .or .u64 x y = ((x ||| y : Nat) : Int) := by
  have e : ∀ z : Nat, BitVec.ofInt 64 (z : Int) = BitVec.ofNat 64 z := fun z => BitVec.ofInt_natCast 64 z
  have h1 : (BitVec.ofInt IntKind.u64.bits (x : Int) ||| BitVec.ofInt IntKind.u64.bits (y : Int)).toNat = x ||| y := by
    show (BitVec.ofInt 64 (x : Int) ||| BitVec.ofInt 64 (y : Int)).toNat = x ||| y
    rw [e, e, BitVec.toNat_or, BitVec.toNat_ofNat, BitVec.toNat_ofNat, Nat.mod_eq_of_lt hx, Nat.mod_eq_of_lt hy]
  have h2 : x ||| y < 2 ^ 64 := Nat.or_lt_two_pow hx hy
  show IntKind.u64.wrap _ = _
  rw [h1]
  exact IntWalk.u64_in _ ⟨by omega, by omega⟩
theorem acc_step (xs : List UInt8) (k : Nat) (hk : k < 8) :
    bits .or .u64 (acc xs k : Int) (IntKind.u64.wrap (IntKind.u64.wrap (tb xs k : Int) * 2 ^ (8 * k))) = ((acc xs (k + 1) : Nat) : Int) := by
  have h1 := tb_lt xs k
  have h2 : 2 ^ (8 * (k + 1)) ≤ 2 ^ 64 := Nat.pow_le_pow_right (by omega) (by omega)
  have h3 := acc_lt xs (k + 1)
  have h4 : tb xs k * 2 ^ (8 * k) ≤ acc xs (k + 1) := by rw [acc]; omega
  have h5 : acc xs k ≤ acc xs (k + 1) := by rw [acc]; omega
  rw [IntWalk.u64_in (tb xs k : Int) ⟨by omega, by omega⟩]
  have e : ((tb xs k : Int) * 2 ^ (8 * k)) = ((tb xs k * 2 ^ (8 * k) : Nat) : Int) := by simp
  rw [e, IntWalk.u64_in _ ⟨by omega, by omega⟩, bits_or_u64 _ _ (by omega) (by omega), acc_or]
set_option maxHeartbeats 800000 in
theorem take_ok (A : Option Addr) (bs : List UInt8) (l c a s B : Nat) (w : World) (hr : Rd w B A (bvs bs)) (hll : l = bs.length) (h1 : 1 ≤ s) (h8 : s ≤ 8) (hl : l ≤ 140737488355328) (hlc : l ≤ c) (has : a + s ≤ l) (hB : B ≤ w.heap.size) :
    Calls Tryz.prog 53 #[.slice A l c, .int .i64 a, .int .i64 s] w (NE w (leV ((bs.drop a).take s), 0)) := by
  obtain ⟨g0, o, rfl, hg0, hx⟩ := Rd.at_ hr (j := 0) (by rw [bvs_len]; omega)
  clear hx
  have HL := hid hll
  clear hll
  have HS : Hid (decide ((l : Int) - s < a) = false) := hid (by simp; omega)
  go_enter Tryz.func53, Tryz.ntmps53
  go_wp2_with (first
    | (go_at_call 81; refine (isSize_yes _ _ (by omega) (by omega)).mono ?_; rintro e w' ⟨rfl, rfl⟩)
    | (go_at_call 82; refine (lacks_any _ l c a s _ (by omega) (by omega) hl).mono ?_; rw [HS.out]; rintro e w' ⟨rfl, rfl⟩))
  have hws := IntWalk.i64_in ((a : Int) + s) (by omega)
  have q1 : (a : Int) ≤ (a : Int) + s := by omega
  have q2 : (a : Int) + s ≤ c := by omega
  have q3 : ¬ c = a := by omega
  have q4 : ((a : Int) + s).toNat = a + s := by omega
  have f1 : Hid (Rd w B (some ⟨g0, o + a, none⟩) (bvs ((bs.drop a).take s))) := hid (by
    have h := (hr.cut (k := a) (cap := c) (by rw [bvs_len]; have := HL.out; omega) (by rw [bvs_len]; have := HL.out; omega)).take s
    rw [if_neg q3] at h
    simpa [bvs, add_lit] using h)
  have hlen : ((bs.drop a).take s).length = s := by have := HL.out; simp; omega
  generalize hxs : (bs.drop a).take s = xs at *
  have HX := hid hlen
  clear hxs hlen
  go_region_law (refine step_of_wpo rfl (wpo_copy (.tmp 23) (.tmp 29) 47 47 rfl 5 Tryz.underlying47 rfl (some ⟨w.heap.size, 0, none⟩) (some ⟨g0, o + a, none⟩) 8 8 s (c - a) (by simp [Act.eval, Act.put]) (by simp [Act.eval, Act.put]) w.heap.size 0 _ 126 (Row.new _ _ _) B (bvs xs) (fun w3 HR3 HB3 => ?_) (hid (f1.out.below (((Below.refl _ _).alloc hB _).drew) (Nat.le_refl _))) (hid (by rw [bvs_len, HX.out]; exact (Nat.min_eq_left h8).symm)) (hid (fun _ => rfl)) (hid (by rw [bvs_len, HX.out]; simp; omega)) (hid (bvs_one xs))))
  have HR : Row w3 w.heap.size 126 (tw xs) := by
    rw [← tw_splice]
    exact HR3
  have HB : Below w.heap.size w w3 := (((Below.refl _ _).alloc (Nat.le_refl _) _).drew).trans (below_grown HB3 (Nat.le_refl _) (by simp))
  clear HR3 HB3
  have HT : Hid ((tw xs).toArray.size = 8) := hid (by simpa using tw_len xs (by rw [HX.out]; omega))
  go_wp2_with (refine wpList_load_row rfl 126 (.tmp 8) rfl w.heap.size rfl 126 (tw xs).toArray (0, 0) _ HR Tryz.underlying126 rfl (by rw [HT.out]; kernel_rfl) ?_)
  go_loop [9, 10, 11, 32] (fun v _ _ i => ∃ k : Nat, k ≤ 8 ∧ i = .int .i64 k ∧ v = .int .u64 ((acc xs k : Nat) : Int)) (fun _ _ _ i => 8 - (intOf i).toNat)
  case atStart => exact ⟨0, by omega, rfl, rfl⟩
  case round =>
    obtain ⟨k, hk, rfl, rfl⟩ := hrel
    by_cases hlt : k < 8
    · have hix := run_index_arr (P := Tryz.prog) w3 126 5 8 (tw xs).toArray .i64 k _ .u8 Tryz.underlying126 Tryz.underlying5 (by kernel_rfl) hlt (by simpa using tw_at xs k hlt)
      go_wp2_with fail
      go_roundw
      case rel => exact ⟨k + 1, by omega, by go_num, by rw [acc_step xs k hlt]⟩
      case measure => simp [intOf]; omega
    · obtain rfl : k = 8 := by omega
      go_wp2_with fail
      go_ret2
      refine ⟨?_, HB⟩
      rw [acc_take, List.take_of_length_le (by rw [HX.out]; omega)]
      rfl
theorem take_any (A : Option Addr) (bs : List UInt8) (l c B : Nat) (at_ size : Int) (w : World) (hr : Rd w B A (bvs bs)) (hll : l = bs.length) (hl : l ≤ 140737488355328) (hlc : l ≤ c) (hB : B ≤ w.heap.size) :
    Calls Tryz.prog 53 #[.slice A l c, .int .i64 at_, .int .i64 size] w (NE w (takeS bs at_ size)) := by
  unfold takeS
  by_cases h : ¬ (1 ≤ size ∧ size ≤ 8) ∨ at_ < 0
  · rw [if_pos h]
    exact take_arg A l c at_ size w h
  · rw [if_neg h]
    have h1 : 1 ≤ size ∧ size ≤ 8 := by omega
    have h2 : 0 ≤ at_ := by omega
    by_cases h3 : (bs.length : Int) - size < at_
    · rw [if_pos h3]
      exact take_short A l c at_ size w h1.1 h1.2 h2 hl (by rw [hll]; simpa using h3)
    · rw [if_neg h3]
      obtain ⟨s, rfl⟩ := Int.eq_ofNat_of_zero_le (show 0 ≤ size by omega)
      obtain ⟨a, rfl⟩ := Int.eq_ofNat_of_zero_le h2
      exact take_ok A bs l c a s B w hr hll (by omega) (by omega) hl hlc (by omega) hB
end Go.Proofs.YtcildaeiogdfdaaGreatDoor
/-
  The walk of the answer held against Take.
-/
namespace Go.Proofs.YtcildaeiogdfdaaGreatDoor
open Go.RowKit
set_option maxRecDepth 10000

theorem leV_lt : ∀ l : List UInt8, leV l < 2 ^ (8 * l.length)
  | [] => by simp [leV]
  | b :: r => by
    have h := leV_lt r
    have h1 : b.toNat < 256 := UInt8.toNat_lt _
    rw [leV, List.length_cons, show 8 * (r.length + 1) = 8 * r.length + 8 by omega, Nat.pow_add]
    omega
set_option maxHeartbeats 400000 in
theorem rtake_arg (A : Option Addr) (l c : Nat) (at_ size : Int) (w : World) (h : ¬ (1 ≤ size ∧ size ≤ 8) ∨ at_ < 0) :
    Calls Tryz.prog 34 #[.slice A l c, .int .i64 at_, .int .i64 size] w (NE w (0, 1)) := by
  by_cases h1 : size < 1
  · clear h
    go_enter Tryz.func34, Tryz.ntmps34
    go_wp2_with fail
    go_ret2
    exact ⟨rfl, Below.refl _ _⟩
  · by_cases h2 : 8 < size
    · clear h
      go_enter Tryz.func34, Tryz.ntmps34
      go_wp2_with fail
      go_ret2
      exact ⟨rfl, Below.refl _ _⟩
    · have h3 : at_ < 0 := by omega
      clear h
      go_enter Tryz.func34, Tryz.ntmps34
      go_wp2_with fail
      go_ret2
      exact ⟨rfl, Below.refl _ _⟩
set_option maxHeartbeats 400000 in
theorem rtake_short (A : Option Addr) (l c : Nat) (at_ size : Int) (w : World) (h1 : 1 ≤ size) (h8 : size ≤ 8) (h0 : 0 ≤ at_) (hl : l ≤ 140737488355328) (hs : (l : Int) - size < at_) :
    Calls Tryz.prog 34 #[.slice A l c, .int .i64 at_, .int .i64 size] w (NE w (0, 3)) := by
  go_enter Tryz.func34, Tryz.ntmps34
  go_wp2_with fail
  go_ret2
  exact ⟨rfl, Below.refl _ _⟩
set_option maxHeartbeats 800000 in
theorem rtake_ok (A : Option Addr) (bs : List UInt8) (l c a s B : Nat) (w : World) (hr : Rd w B A (bvs bs)) (hll : l = bs.length) (h1 : 1 ≤ s) (h8 : s ≤ 8) (hl : l ≤ 140737488355328) (has : a + s ≤ l) :
    Calls Tryz.prog 34 #[.slice A l c, .int .i64 a, .int .i64 s] w (NE w (leV ((bs.drop a).take s), 0)) := by
  obtain ⟨g0, o, rfl, hg0, hx⟩ := Rd.at_ hr (j := 0) (by rw [bvs_len]; omega)
  clear hx
  have HL := hid hll
  clear hll
  have hlen : ((bs.drop a).take s).length = s := by have := HL.out; simp; omega
  have hget : ∀ i (h : i < s), w.cell? ⟨g0, o + (a + i), none⟩ = some (.int .u8 ((((bs.drop a).take s)[i]'(by rw [hlen]; exact h)).toNat : Int)) := by
    intro i h
    obtain ⟨g1, o1, e, _, hc⟩ := Rd.at_ hr (j := a + i) (by rw [bvs_len]; have := HL.out; omega)
    cases e
    rw [hc]
    simp [bvs, bv]
  generalize hxs : (bs.drop a).take s = xs at *
  have HX := hid hlen
  have HGET := hid hget
  clear hxs hget
  go_enter Tryz.func34, Tryz.ntmps34
  go_wp2_with fail
  go_loop [8, 9] (fun v i => ∃ (x : Int) (m : Nat), -1 ≤ x ∧ x < s ∧ i = .int .i64 x ∧ v = .int .u64 (m : Int) ∧ Hid (m = leV (xs.drop (x + 1).toNat))) (fun _ i => (intOf i + 1).toNat)
  case atStart => exact ⟨(s : Int) - 1, 0, by omega, by omega, rfl, rfl, hid (by rw [List.drop_of_length_le (by rw [HX.out]; omega)]; rfl)⟩
  case round =>
    obtain ⟨x, m, hx1, hx2, rfl, rfl, hm⟩ := hrel
    by_cases hlt : 0 ≤ x
    · obtain ⟨i, rfl⟩ := Int.eq_ofNat_of_zero_le hlt
      have hi : i < s := by omega
      have hi2 : i < xs.length := by rw [HX.out]; exact hi
      have hc := HGET.out i hi
      generalize hb : xs[i] = b at *
      have HB := hid hb
      clear hb
      have hd : leV (xs.drop i) = b.toNat + 256 * m := by
        rw [List.drop_eq_getElem_cons hi2, leV, HB.out, hm.out]
        rfl
      have hlt2 := leV_lt (xs.drop i)
      have h2 : 2 ^ (8 * (xs.drop i).length) ≤ 2 ^ 64 := Nat.pow_le_pow_right (by omega) (by simp [HX.out]; omega)
      have hw : IntKind.u64.wrap (IntKind.u64.wrap ((m : Int) * 256) + IntKind.u64.wrap (b.toNat : Int)) = ((leV (xs.drop i) : Nat) : Int) := by
        rw [IntWalk.u64_in ((m : Int) * 256) ⟨by omega, by omega⟩, IntWalk.u64_in (b.toNat : Int) ⟨by omega, by omega⟩, IntWalk.u64_in _ ⟨by omega, by omega⟩]
        omega
      have HW := hid hw
      clear hw hd hlt2 h2
      go_wp2_with fail
      go_round
      case rel => exact ⟨(i : Int) - 1, leV (xs.drop i), by omega, by omega, rfl, by rw [HW.out], hid (by simp)⟩
      case measure => simp [intOf]
    · go_wp2_with fail
      go_ret2
      obtain rfl : x = -1 := by omega
      refine ⟨?_, Below.refl _ _⟩
      have := hm.out
      simp at this
      rw [this]
      rfl
theorem rtake_any (A : Option Addr) (bs : List UInt8) (l c B : Nat) (at_ size : Int) (w : World) (hr : Rd w B A (bvs bs)) (hll : l = bs.length) (hl : l ≤ 140737488355328) :
    Calls Tryz.prog 34 #[.slice A l c, .int .i64 at_, .int .i64 size] w (NE w (takeS bs at_ size)) := by
  unfold takeS
  by_cases h : ¬ (1 ≤ size ∧ size ≤ 8) ∨ at_ < 0
  · rw [if_pos h]
    exact rtake_arg A l c at_ size w h
  · rw [if_neg h]
    have h1 : 1 ≤ size ∧ size ≤ 8 := by omega
    have h2 : 0 ≤ at_ := by omega
    by_cases h3 : (bs.length : Int) - size < at_
    · rw [if_pos h3]
      exact rtake_short A l c at_ size w h1.1 h1.2 h2 hl (by rw [hll]; exact h3)
    · rw [if_neg h3]
      obtain ⟨s, rfl⟩ := Int.eq_ofNat_of_zero_le (show 0 ≤ size by omega)
      obtain ⟨a, rfl⟩ := Int.eq_ofNat_of_zero_le h2
      exact rtake_ok A bs l c a s B w hr hll (by omega) (by omega) hl (by omega)
end Go.Proofs.YtcildaeiogdfdaaGreatDoor
/-
  The walks of PutText and of the answer held against it; the chapter's examples.
-/
namespace Go.Proofs.YtcildaeiogdfdaaGreatDoor
open Go.RowKit
set_option maxRecDepth 10000

theorem BE.len {w w' : World} {e : Ending} {bs : List UInt8} {x : Int} {n : Nat} (h : BE w (bs, x) e w') (hn : bs.length = n) :
    ∃ A c, e = .returned (.tuple #[.slice A n c, .int .i64 x]) ∧ w'.ownsRow w.heap.size 5 1 (.slice A n c) n (bvs bs) ∧ Below w.heap.size w w' := by
  subst hn
  exact h
/-- what PutText answers -/
def ptS (bs ss : List UInt8) : List UInt8 × Int := if 65535 < ss.length then ([], 5) else (bs ++ le ss.length 2 ++ ss, 0)
set_option maxHeartbeats 400000 in
theorem pt_long (A : Option Addr) (l c : Nat) (s : ByteArray) (w : World) (h : 65535 < (s.size : Int)) :
    Calls Tryz.prog 73 #[.slice A l c, .string s] w (BE w ([], 5)) := by
  go_enter Tryz.func73, Tryz.ntmps73
  go_wp2_with fail
  go_ret2
  exact ⟨none, 0, rfl, World.ownsRow_nil _ _ _ _, Below.refl _ _⟩
set_option maxHeartbeats 400000 in
theorem pt_ok (A : Option Addr) (bs : List UInt8) (l c B : Nat) (s : ByteArray) (w : World) (hr : Rd w B A (bvs bs)) (hl : l = bs.length) (hB : B ≤ w.heap.size) (hl2 : l ≤ 140737488200000) (h : (s.size : Int) ≤ 65535) :
    Calls Tryz.prog 73 #[.slice A l c, .string s] w (BE w (bs ++ le s.size 2 ++ sb s, 0)) := by
  obtain ⟨i0, hi, hz0, hz1, hz2⟩ := info_parts u8info
  have HL := hid hl
  clear hl
  go_enter Tryz.func73, Tryz.ntmps73
  go_wp2_with (first
    | (go_at_call 94; have L := lay_any A bs l c s.size 2 B w hr HL.out (by omega) hB (by omega); refine L.mono ?_; clear L; rintro e w1 ⟨g, rfl, hg, hrow, hbe⟩; have hown := hrow.own (B := w.heap.size) hg (le_maxLen (by rw [bvs_len, List.length_append, le_len, ← HL.out]; omega)); have HLL : (bvs (bs ++ le s.size 2)).length = l + 2 := (by simp [bvs_len, le_len, HL.out]); rw [HLL] at hown; clear HLL)
    | (with_reducible refine wpl_append_str rfl (.tmp 13) (.tmp 14) 47 9 rfl w.heap.size 5 i0 Tryz.underlying47 Tryz.underlying9 hi hz0 hz1 hz2 (.slice (some ⟨g, 0, none⟩) (l + 2) (l + 2)) (l + 2) _ rfl hown s rfl ?_ ?_ ?_ ?_; intro v' w2 hown2 hb2 hg2))
  rotate_left
  · exact hid (le_maxLen (by omega))
  · exact hid (by omega)
  · exact hid hbe.size
  go_ret2
  rw [← bvs_app] at hown2
  exact BE_own (by simp [le_len, HL.out, sb_len]; omega) hown2 (hbe.trans hb2)
theorem pt_any (A : Option Addr) (bs : List UInt8) (l c B : Nat) (s : ByteArray) (w : World) (hr : Rd w B A (bvs bs)) (hl : l = bs.length) (hB : B ≤ w.heap.size) (hl2 : l ≤ 140737488200000) :
    Calls Tryz.prog 73 #[.slice A l c, .string s] w (BE w (ptS bs (sb s))) := by
  unfold ptS
  rw [sb_len]
  by_cases h : 65535 < s.size
  · rw [if_pos h]
    exact pt_long A l c s w (by omega)
  · rw [if_neg h]
    exact pt_ok A bs l c B s w hr hl hB hl2 (by omega)
set_option maxHeartbeats 400000 in
theorem rpt_long (A : Option Addr) (l c : Nat) (s : ByteArray) (w : World) (h : 65535 < (s.size : Int)) :
    Calls Tryz.prog 92 #[.slice A l c, .string s] w (BE w ([], 5)) := by
  go_enter Tryz.func92, Tryz.ntmps92
  go_wp2_with fail
  go_ret2
  exact ⟨none, 0, rfl, World.ownsRow_nil _ _ _ _, Below.refl _ _⟩
theorem putS_two (bs : List UInt8) (n : Nat) (h : n ≤ 65535) : putS bs n 2 = (bs ++ le n 2, 0) := by
  unfold putS
  rw [if_pos ⟨by omega, by omega, by simp; omega⟩]
  rfl
theorem sb_take (s : ByteArray) (k : Nat) (h : k < s.size) : (sb s).take (k + 1) = (sb s).take k ++ [s[k]] := by
  rw [List.take_succ_eq_append_getElem (by rw [sb_len]; exact h)]
  rfl
set_option maxHeartbeats 400000 in
theorem rpt_ok (A : Option Addr) (bs : List UInt8) (l c B : Nat) (s : ByteArray) (w : World) (hr : Rd w B A (bvs bs)) (hl : l = bs.length) (hB : B ≤ w.heap.size) (hl2 : l ≤ 140737488200000) (h : (s.size : Int) ≤ 65535) :
    Calls Tryz.prog 92 #[.slice A l c, .string s] w (BE w (bs ++ le s.size 2 ++ sb s, 0)) := by
  obtain ⟨i0, hi, hz0, hz1, hz2⟩ := info_parts u8info
  have HL := hid hl
  clear hl
  have HP := hid (putS_two bs s.size (by omega))
  go_enter Tryz.func92, Tryz.ntmps92
  go_wp2_with (go_at_call 88; refine (rput_any A bs l c s.size B 2 _ hr HL.out hB (by omega) (hid (by omega))).mono ?_; rw [HP.out]; rintro e w1 hbe0; obtain ⟨A1, c1, rfl, hown, hbe⟩ := hbe0.len (n := l + 2) (by simp [le_len, HL.out]); clear hbe0)
  go_loopw [6, 8] (fun out i wr => ∃ k : Nat, k ≤ s.size ∧ i = .int .i64 k ∧ wr.ownsRow w.heap.size 5 1 out (l + 2 + k) (bvs (bs ++ le s.size 2 ++ (sb s).take k)) ∧ Below w.heap.size w wr) (fun _ i _ => s.size - (intOf i).toNat)
  case atStart =>
    refine ⟨0, by omega, rfl, ?_, hbe⟩
    simpa using hown
  case round =>
    obtain ⟨k, hk, rfl, hown, hbe'⟩ := hrel
    have hsz := hbe'.size
    by_cases hlt : k < s.size
    · go_wp2_with (with_reducible refine wpl_append rfl (.tmp 26) (.tmp 30) 47 rfl w.heap.size 5 i0 _ 1 1 Tryz.underlying47 hi hz0 hz1 hz2 rfl (by omega) u6 (l + 2 + k) _ rfl (hown.alloc _) (wr.heap.size + 1) (some ⟨wr.heap.size, 0, none⟩) 1 1 [.int .u8 (s[k].toNat : Int)] rfl ?_ ?_ ?_ ?_ ?_ ?_ ?_; intro v' w2 hown2 hb2 hg2)
      rotate_left
      · refine hid fun _ => ⟨_, _, rfl, by omega, ?_⟩
        intro j u hu
        match j, hu with
        | 0, hu => simp at hu; subst hu; simp
      · exact hid rfl
      · exact hid (by intro u hu; simp at hu; subst hu; rfl)
      · exact hid (le_maxLen (by omega))
      · exact hid (by omega)
      · exact hid (by simp; omega)
      go_roundw
      case rel =>
        refine ⟨k + 1, by omega, by go_num, ?_, (hbe'.alloc hsz _).trans hb2⟩
        rw [sb_take s k hlt, ← List.append_assoc, bvs_app (bs ++ le s.size 2 ++ _)]
        exact hown2
      case measure => simp [intOf]; omega
    · go_wp2_with fail
      go_ret2
      obtain rfl : k = s.size := by omega
      rw [List.take_of_length_le (by rw [sb_len]; omega)] at hown
      exact BE_own (by simp [le_len, HL.out, sb_len]; omega) hown hbe'
theorem rpt_any (A : Option Addr) (bs : List UInt8) (l c B : Nat) (s : ByteArray) (w : World) (hr : Rd w B A (bvs bs)) (hl : l = bs.length) (hB : B ≤ w.heap.size) (hl2 : l ≤ 140737488200000) :
    Calls Tryz.prog 92 #[.slice A l c, .string s] w (BE w (ptS bs (sb s))) := by
  unfold ptS
  rw [sb_len]
  by_cases h : 65535 < s.size
  · rw [if_pos h]
    exact rpt_long A l c s w (by omega)
  · rw [if_neg h]
    exact rpt_ok A bs l c B s w hr hl hB hl2 (by omega)
end Go.Proofs.YtcildaeiogdfdaaGreatDoor
/-
  The walks of TakeText and of the answer held against it.
-/
namespace Go.Proofs.YtcildaeiogdfdaaGreatDoor
open Go.RowKit
set_option maxRecDepth 10000

/-- a text, a place and an error's number -/
def TE (w : World) (r : List UInt8 × Int × Int) (e : Ending) (w' : World) : Prop :=
  e = .returned (.tuple #[.string ⟨r.1.toArray⟩, .int .i64 r.2.1, .int .i64 r.2.2]) ∧ Below w.heap.size w w'
/-- what TakeText answers, the length being taken -/
def ttN (bs : List UInt8) (a n : Nat) : List UInt8 × Int × Int :=
  if bs.length < a + 2 + n then ([], 0, 3) else ((bs.drop (a + 2)).take n, (a : Int) + 2 + n, 0)
/-- what TakeText answers -/
def ttS (bs : List UInt8) (at_ most : Int) : List UInt8 × Int × Int :=
  if (takeS bs at_ 2).2 ≠ 0 then ([], 0, (takeS bs at_ 2).2) else if most < (takeS bs at_ 2).1 then ([], 0, 5) else ttN bs at_.toNat (takeS bs at_ 2).1
theorem Rd.byte {w : World} {B g o : Nat} {bs : List UInt8} (h : Rd w B (some ⟨g, o, none⟩) (bvs bs)) : ∀ (i : Nat) (b : UInt8), bs[i]? = some b → w.cell? ⟨g, o + i, none⟩ = some (.int .u8 (b.toNat : Int)) := by
  intro i b hb
  obtain ⟨g1, o1, e, _, hc⟩ := h (by intro e; have : bs = [] := by simpa [bvs] using e
                                     subst this; simp at hb)
  cases e
  exact hc i _ (by simp [bvs, hb, bv])
set_option maxHeartbeats 400000 in
theorem tt_err (A : Option Addr) (bs : List UInt8) (l c B : Nat) (at_ most : Int) (w : World) (hr : Rd w B A (bvs bs)) (hll : l = bs.length) (hl : l ≤ 140737488355328) (hlc : l ≤ c) (hB : B ≤ w.heap.size)
    (m : Nat) (x : Int) (h : takeS bs at_ 2 = (m, x)) (hx : (x != 0) = true) :
    Calls Tryz.prog 55 #[.slice A l c, .int .i64 at_, .int .i64 most] w (TE w ([], 0, x)) := by
  have T := take_any A bs l c B at_ 2 w hr hll hl hlc hB
  rw [h] at T
  have HT := hid T
  clear T h hll
  go_enter Tryz.func55, Tryz.ntmps55
  go_wp2_with (go_at_call 53; refine HT.out.mono ?_; rintro e w1 ⟨rfl, hbe⟩)
  go_ret3
  exact ⟨rfl, hbe⟩
set_option maxHeartbeats 400000 in
theorem tt_long (A : Option Addr) (bs : List UInt8) (l c B : Nat) (at_ most : Int) (w : World) (hr : Rd w B A (bvs bs)) (hll : l = bs.length) (hl : l ≤ 140737488355328) (hlc : l ≤ c) (hB : B ≤ w.heap.size)
    (m : Nat) (h : takeS bs at_ 2 = (m, 0)) (hx : most < m) (hm : m ≤ 65535) :
    Calls Tryz.prog 55 #[.slice A l c, .int .i64 at_, .int .i64 most] w (TE w ([], 0, 5)) := by
  have T := take_any A bs l c B at_ 2 w hr hll hl hlc hB
  rw [h] at T
  have HT := hid T
  clear T h hll
  go_enter Tryz.func55, Tryz.ntmps55
  go_wp2_with (go_at_call 53; refine HT.out.mono ?_; rintro e w1 ⟨rfl, hbe⟩)
  go_ret3
  exact ⟨rfl, hbe⟩
set_option maxHeartbeats 400000 in
theorem tt_short (A : Option Addr) (bs : List UInt8) (l c B a : Nat) (most : Int) (w : World) (hr : Rd w B A (bvs bs)) (hll : l = bs.length) (hl : l ≤ 140737488355328) (hlc : l ≤ c) (hB : B ≤ w.heap.size)
    (m : Nat) (h : takeS bs a 2 = (m, 0)) (hx : m ≤ most) (hm : m ≤ 65535) (ha : a ≤ 140737488355328) (hs : l < a + 2 + m) :
    Calls Tryz.prog 55 #[.slice A l c, .int .i64 a, .int .i64 most] w (TE w ([], 0, 3)) := by
  have T := take_any A bs l c B a 2 w hr hll hl hlc hB
  rw [h] at T
  have HT := hid T
  clear T h hll
  have HS : Hid (decide ((l : Int) - m < (a : Int) + 2) = true) := hid (by simp; omega)
  go_enter Tryz.func55, Tryz.ntmps55
  go_wp2_with (first
    | (go_at_call 53; refine HT.out.mono ?_; rintro e w1 ⟨rfl, hbe⟩)
    | (go_at_call 82; refine (lacks_any A l c ((a : Int) + 2) m _ (by omega) (by omega) hl).mono ?_; rw [HS.out]; rintro e w' ⟨rfl, rfl⟩))
  go_ret3
  exact ⟨rfl, hbe⟩
set_option maxHeartbeats 400000 in
theorem tt_ok (A : Option Addr) (bs : List UInt8) (l c B a : Nat) (most : Int) (w : World) (hr : Rd w B A (bvs bs)) (hll : l = bs.length) (hl : l ≤ 140737488355328) (hlc : l ≤ c) (hB : B ≤ w.heap.size)
    (m : Nat) (h : takeS bs a 2 = (m, 0)) (hx : m ≤ most) (hm : m ≤ 65535) (ha : a ≤ 140737488355328) (hs : a + 2 + m ≤ l) :
    Calls Tryz.prog 55 #[.slice A l c, .int .i64 a, .int .i64 most] w (TE w ((bs.drop (a + 2)).take m, (a : Int) + 2 + m, 0)) := by
  have T := take_any A bs l c B a 2 w hr hll hl hlc hB
  rw [h] at T
  have HT := hid T
  have hcut := (hr.cut (k := a + 2) (cap := c) (by rw [bvs_len]; omega) (by rw [bvs_len]; omega)).take m
  have hsub : ((bvs bs).drop (a + 2)).take m = bvs ((bs.drop (a + 2)).take m) := by simp [bvs]
  rw [hsub] at hcut
  have hlen : m = ((bs.drop (a + 2)).take m).length := by simp; omega
  obtain ⟨g0, o, rfl, hg0, hz⟩ := Rd.at_ hr (j := 0) (by rw [bvs_len]; omega)
  clear hz
  have hlen' := hid hlen
  generalize hxs : (bs.drop (a + 2)).take m = xs at *
  have HC := hid hcut
  clear T h hll hcut hsub hxs hlen
  have HS : Hid (decide ((l : Int) - m < (a : Int) + 2) = false) := hid (by simp; omega)
  have q1 : (a : Int) + 2 ≤ (a : Int) + 2 + m := by omega
  have q2 : (a : Int) + 2 + m ≤ c := by omega
  go_enter Tryz.func55, Tryz.ntmps55
  go_wp2_with (first
    | (go_at_call 53; refine HT.out.mono ?_; rintro e w1 ⟨rfl, hbe⟩)
    | (go_at_call 82; refine (lacks_any (some ⟨g0, o, none⟩) l c ((a : Int) + 2) m _ (by omega) (by omega) hl).mono ?_; rw [HS.out]; rintro e w' ⟨rfl, rfl⟩)
    | (with_reducible refine wpl_str rfl (.tmp 38) 47 9 rfl 5 Tryz.underlying47 Tryz.underlying5 Tryz.underlying9 _ _ _ rfl B xs ?_ ?_ ?_))
  · go_ret3
    exact ⟨rfl, hbe⟩
  · go_ret3
    exact ⟨rfl, hbe⟩
  · have h := HC.out
    rw [if_pos (by omega)] at h
    exact hid (h.below hbe hB)
  · have h := HC.out
    rw [if_neg (by omega)] at h
    exact hid ((by simpa [add_lit] using h : Rd w B (some ⟨g0, o + (a + 2), none⟩) (bvs xs)).below hbe hB)
  · exact hid (by rw [← hlen'.out]; omega)
theorem takeS_two (bs : List UInt8) (at_ : Int) : (takeS bs at_ 2).1 ≤ 65535 ∧ ((takeS bs at_ 2).2 = 0 → 0 ≤ at_ ∧ at_ + 2 ≤ bs.length) := by
  unfold takeS
  split
  · exact ⟨by simp, by intro h; simp at h⟩
  · split
    · exact ⟨by simp, by intro h; simp at h⟩
    · rename_i h1 h2
      refine ⟨?_, fun _ => by omega⟩
      have h := leV_lt ((bs.drop at_.toNat).take 2)
      have h3 : 2 ^ (8 * ((bs.drop at_.toNat).take 2).length) ≤ 2 ^ 16 := Nat.pow_le_pow_right (by omega) (by have := List.length_take_le 2 (bs.drop at_.toNat); omega)
      show leV ((bs.drop at_.toNat).take (2 : Int).toNat) ≤ 65535
      have h4 : (2 : Int).toNat = 2 := rfl
      rw [h4]
      omega
theorem tt_any (A : Option Addr) (bs : List UInt8) (l c B : Nat) (at_ most : Int) (w : World) (hr : Rd w B A (bvs bs)) (hll : l = bs.length) (hl : l ≤ 140737488355328) (hlc : l ≤ c) (hB : B ≤ w.heap.size) :
    Calls Tryz.prog 55 #[.slice A l c, .int .i64 at_, .int .i64 most] w (TE w (ttS bs at_ most)) := by
  obtain ⟨h1, h2⟩ := takeS_two bs at_
  unfold ttS
  rcases ht : takeS bs at_ 2 with ⟨m, x⟩
  rw [ht] at h1 h2
  dsimp only at h1 h2 ⊢
  by_cases hx : x = 0
  · subst hx
    rw [if_neg (by simp)]
    obtain ⟨h3, h4⟩ := h2 rfl
    obtain ⟨a, rfl⟩ := Int.eq_ofNat_of_zero_le h3
    by_cases hm : most < m
    · rw [if_pos hm]
      exact tt_long A bs l c B a most w hr hll hl hlc hB m ht hm h1
    · rw [if_neg hm]
      unfold ttN
      simp only [Int.toNat_natCast]
      by_cases hs : bs.length < a + 2 + m
      · rw [if_pos hs]
        exact tt_short A bs l c B a most w hr hll hl hlc hB m ht (by omega) h1 (by omega) (by omega)
      · rw [if_neg hs]
        exact tt_ok A bs l c B a most w hr hll hl hlc hB m ht (by omega) h1 (by omega) (by omega)
  · rw [if_pos hx]
    exact tt_err A bs l c B at_ most w hr hll hl hlc hB m x ht (by simpa using hx)
set_option maxHeartbeats 400000 in
theorem rtt_err (A : Option Addr) (bs : List UInt8) (l c B : Nat) (at_ most : Int) (w : World) (hr : Rd w B A (bvs bs)) (hll : l = bs.length) (hl : l ≤ 140737488355328)
    (m : Nat) (x : Int) (h : takeS bs at_ 2 = (m, x)) (hx : (x != 0) = true) :
    Calls Tryz.prog 61 #[.slice A l c, .int .i64 at_, .int .i64 most] w (TE w ([], 0, x)) := by
  have T := rtake_any A bs l c B at_ 2 w hr hll hl
  rw [h] at T
  have HT := hid T
  clear T h hll
  go_enter Tryz.func61, Tryz.ntmps61
  go_wp2_with (go_at_call 34; refine HT.out.mono ?_; rintro e w1 ⟨rfl, hbe⟩)
  go_ret3
  exact ⟨rfl, hbe⟩
set_option maxHeartbeats 400000 in
theorem rtt_long (A : Option Addr) (bs : List UInt8) (l c B : Nat) (at_ most : Int) (w : World) (hr : Rd w B A (bvs bs)) (hll : l = bs.length) (hl : l ≤ 140737488355328)
    (m : Nat) (h : takeS bs at_ 2 = (m, 0)) (hx : most < m) (hm : m ≤ 65535) :
    Calls Tryz.prog 61 #[.slice A l c, .int .i64 at_, .int .i64 most] w (TE w ([], 0, 5)) := by
  have T := rtake_any A bs l c B at_ 2 w hr hll hl
  rw [h] at T
  have HT := hid T
  clear T h hll
  go_enter Tryz.func61, Tryz.ntmps61
  go_wp2_with (go_at_call 34; refine HT.out.mono ?_; rintro e w1 ⟨rfl, hbe⟩)
  go_ret3
  exact ⟨rfl, hbe⟩
set_option maxHeartbeats 800000 in
theorem rtt_rest (A : Option Addr) (bs : List UInt8) (l c B a : Nat) (most : Int) (w : World) (hr : Rd w B A (bvs bs)) (hll : l = bs.length) (hl : l ≤ 140737488355328) (hB : B ≤ w.heap.size)
    (m : Nat) (h : takeS bs a 2 = (m, 0)) (hx : m ≤ most) (hm : m ≤ 65535) (ha : a + 2 ≤ l) :
    Calls Tryz.prog 61 #[.slice A l c, .int .i64 a, .int .i64 most] w (TE w (ttN bs a m)) := by
  have T := rtake_any A bs l c B a 2 w hr hll hl
  rw [h] at T
  have HT := hid T
  obtain ⟨g0, o, rfl, hg0, hz⟩ := Rd.at_ hr (j := 0) (by rw [bvs_len]; omega)
  clear hz
  have HGET := hid (Rd.byte hr)
  have HL := hid hll
  clear T h hll
  obtain ⟨i0, hi, hz0, hz1, hz2⟩ := info_parts u8info
  go_enter Tryz.func61, Tryz.ntmps61
  go_wp2_with (go_at_call 34; refine HT.out.mono ?_; rintro e w1 ⟨rfl, hbe⟩)
  have hsz1 := hbe.size
  go_loopw [11, 12] (fun out i wr => ∃ k : Nat, k ≤ m ∧ a + 2 + k ≤ l ∧ i = .int .i64 k ∧ wr.ownsRow w.heap.size 5 1 out k (bvs ((bs.drop (a + 2)).take k)) ∧ Below w.heap.size w wr) (fun _ i _ => m - (intOf i).toNat)
  case atStart =>
    refine ⟨0, by omega, by omega, rfl, ?_, hbe.alloc hsz1 _⟩
    exact (Row.new w1 5 #[]).own hsz1 (by simp)
  case round =>
    obtain ⟨k, hk, hk2, rfl, hown, hbe'⟩ := hrel
    have hsz := hbe'.size
    by_cases hlt : k < m
    · by_cases hlt2 : a + 2 + k < l
      · obtain ⟨b, hb⟩ : ∃ b, bs[a + 2 + k]? = some b := ⟨_, List.getElem?_eq_getElem (by rw [← HL.out]; exact hlt2)⟩
        have HB := hid hb
        clear hb
        have hc := (hbe'.cell (p := ⟨g0, o + (a + 2 + k), none⟩) (by show g0 < _; omega)).trans (HGET.out (a + 2 + k) b HB.out)
        go_wp2_with (with_reducible refine wpl_append rfl (.tmp 40) (.tmp 48) 47 rfl w.heap.size 5 i0 _ 1 1 Tryz.underlying47 hi hz0 hz1 hz2 rfl (by omega) u11 k _ rfl (hown.alloc _) (wr.heap.size + 1) (some ⟨wr.heap.size, 0, none⟩) 1 1 [.int .u8 (b.toNat : Int)] rfl ?_ ?_ ?_ ?_ ?_ ?_ ?_; intro v' w2 hown2 hb2 hg2)
        rotate_left
        · refine hid fun _ => ⟨_, _, rfl, by omega, ?_⟩
          intro j u hu
          match j, hu with
          | 0, hu => simp at hu; subst hu; simp
        · exact hid rfl
        · exact hid (by intro u hu; simp at hu; subst hu; rfl)
        · exact hid (le_maxLen (by omega))
        · exact hid (by omega)
        · exact hid (by simp; omega)
        go_roundw
        case rel =>
          refine ⟨k + 1, by omega, by omega, by go_num, ?_, (hbe'.alloc hsz _).trans hb2⟩
          have e : (bs.drop (a + 2)).take (k + 1) = (bs.drop (a + 2)).take k ++ [b] := by
            rw [List.take_add_one, List.getElem?_drop, HB.out]
            rfl
          rw [e, bvs_app]
          exact hown2
        case measure => simp [intOf]; omega
      · have hfin : ttN bs a m = ([], 0, 3) := by
          unfold ttN
          rw [if_pos (by rw [← HL.out]; omega)]
        have HF := hid hfin
        clear hfin
        go_wp2_with fail
        go_ret3
        rw [HF.out]
        exact ⟨rfl, hbe'⟩
    · obtain rfl : k = m := by omega
      have hfin : ttN bs a k = ((bs.drop (a + 2)).take k, (a : Int) + 2 + k, 0) := by
        unfold ttN
        rw [if_neg (by rw [← HL.out]; omega)]
      have HF := hid hfin
      have hlen : k = ((bs.drop (a + 2)).take k).length := by rw [List.length_take, List.length_drop, ← HL.out]; omega
      generalize hxs : (bs.drop (a + 2)).take k = xs at *
      have HX := hid hlen
      clear hfin hxs hlen
      obtain ⟨A1, c1, rfl, _, _, hrd⟩ := own_shape hown
      go_wp2_with (with_reducible refine wpl_str rfl _ 47 9 rfl 5 Tryz.underlying47 Tryz.underlying5 Tryz.underlying9 A1 k c1 rfl wr.heap.size xs ?_ ?_ ?_)
      rotate_left
      · exact hid hrd
      · exact HX
      go_ret3
      rw [HF.out]
      exact ⟨rfl, hbe'⟩
theorem rtt_any (A : Option Addr) (bs : List UInt8) (l c B : Nat) (at_ most : Int) (w : World) (hr : Rd w B A (bvs bs)) (hll : l = bs.length) (hl : l ≤ 140737488355328) (hB : B ≤ w.heap.size) :
    Calls Tryz.prog 61 #[.slice A l c, .int .i64 at_, .int .i64 most] w (TE w (ttS bs at_ most)) := by
  obtain ⟨h1, h2⟩ := takeS_two bs at_
  unfold ttS
  rcases ht : takeS bs at_ 2 with ⟨m, x⟩
  rw [ht] at h1 h2
  dsimp only at h1 h2 ⊢
  by_cases hx : x = 0
  · subst hx
    rw [if_neg (by simp)]
    obtain ⟨h3, h4⟩ := h2 rfl
    obtain ⟨a, rfl⟩ := Int.eq_ofNat_of_zero_le h3
    by_cases hm : most < m
    · rw [if_pos hm]
      exact rtt_long A bs l c B a most w hr hll hl m ht hm h1
    · rw [if_neg hm]
      exact rtt_rest A bs l c B a most w hr hll hl hB m ht (by omega) h1 (by omega)
  · rw [if_pos hx]
    exact rtt_err A bs l c B at_ most w hr hll hl m x ht (by simpa using hx)
end Go.Proofs.YtcildaeiogdfdaaGreatDoor
