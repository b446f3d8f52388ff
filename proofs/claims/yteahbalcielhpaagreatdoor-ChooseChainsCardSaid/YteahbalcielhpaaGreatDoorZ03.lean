/-
  The walks of package num's inner functions.
-/
import Derived.Test.YteahbalcielhpaaGreatDoorRows
import Derived.Test.YteahbalcielhpaaGreatDoorZ01
namespace Go.Proofs.YteahbalcielhpaaGreatDoor
open Go.RowKit

/-- the size lowest bytes of n, the lowest first -/
def le : Nat → Nat → List UInt8
  | _, 0 => []
  | n, k + 1 => UInt8.ofNat n :: le (n / 256) k
theorem le_len : ∀ k n, (le n k).length = k
  | 0, _ => rfl
  | k + 1, n => by simp [le, le_len k]
theorem le_get : ∀ (k n j : Nat), j < k → (le n k)[j]? = some (UInt8.ofNat (n / 2 ^ (8 * j)))
  | 0, _, _, h => by omega
  | k + 1, n, 0, _ => by simp [le]
  | k + 1, n, j + 1, h => by
    rw [le, List.getElem?_cons_succ, le_get k _ j (by omega), Nat.div_div_eq_div_mul]
    congr 3
    rw [show 8 * (j + 1) = 8 + 8 * j by omega, Nat.pow_add]
theorem bv_ofNat (m : Nat) : bv (UInt8.ofNat m) = .int .u8 ((m : Int) % 256) := by
  simp [bv]
def lw (n k : Nat) : List Value := bvs (le n k) ++ List.replicate (8 - k) (.int .u8 0)
theorem lw_len (n k : Nat) (h : k ≤ 8) : (lw n k).length = 8 := by simp [lw, bvs, le_len]; omega
theorem lw_at (n k : Nat) (h : k < 8) : (lw n k)[k]? = some (.int .u8 0) := by
  have h1 : (bvs (le n k)).length = k := by simp [bvs, le_len]
  rw [lw, List.getElem?_append_right (by omega), h1]
  simp [show 0 < 8 - k by omega]
theorem lw_set (n k : Nat) (h : k < 8) : (lw n k).set k (.int .u8 ((n : Int) / 2 ^ (8 * k) % 256)) = lw n (k + 1) := by
  have h1 : ∀ m, (bvs (le n m)).length = m := fun m => by simp [bvs, le_len]
  apply List.ext_getElem?
  intro j
  by_cases hj : j = k
  · subst hj
    rw [List.getElem?_set_self (by rw [lw_len n j (by omega)]; omega)]
    rw [lw, List.getElem?_append_left (by rw [h1]; omega), bvs, List.getElem?_map, le_get _ _ _ (by omega)]
    simp only [Option.map_some, bv_ofNat]
    simp
  · rw [List.getElem?_set_ne (by omega)]
    by_cases hlt : j < k
    · rw [lw, lw, List.getElem?_append_left (by rw [h1]; omega), List.getElem?_append_left (by rw [h1]; omega), bvs, bvs, List.getElem?_map, List.getElem?_map, le_get _ _ _ hlt, le_get _ _ _ (by omega)]
    · rw [lw, lw, List.getElem?_append_right (by rw [h1]; omega), List.getElem?_append_right (by rw [h1]; omega), h1, h1]
      simp [List.getElem?_replicate]
      by_cases h8 : j < 8
      · rw [if_pos (by omega), if_pos (by omega)]
      · rw [if_neg (by omega), if_neg (by omega)]
theorem lw_zero (n : Nat) : lw n 0 = List.replicate 8 (.int .u8 0) := by simp [lw, le, bvs]
theorem lw_take (n k : Nat) (h : k ≤ 8) : (lw n 8).take k = bvs (le n k) := by
  apply List.ext_getElem?
  intro j
  have h1 : ∀ m, (bvs (le n m)).length = m := fun m => by simp [bvs, le_len]
  rw [List.getElem?_take]
  by_cases hj : j < k
  · rw [if_pos hj, lw, List.getElem?_append_left (by rw [h1]; omega), bvs, bvs, List.getElem?_map, List.getElem?_map, le_get _ _ _ hj, le_get _ _ _ (by omega)]
  · rw [if_neg hj, List.getElem?_eq_none (by rw [h1]; omega)]
theorem u8info : (Tryz.prog.info? 5).map (fun i => (i.zero, i.size, i.bytes)) = some (some (.int .u8 0), 1, 1) := by kernel_rfl
theorem splice_two {α : Type} (Z X Y : List α) (hz : Z.length = X.length + Y.length) : splice (splice Z 0 X) X.length Y = X ++ Y := by
  simp [splice]
  omega
set_option maxRecDepth 10000 in
set_option maxHeartbeats 400000 in
theorem lay_any (A : Option Addr) (bs : List UInt8) (l c n size B : Nat) (w : World) (hr : Rd w B A (bvs bs)) (hl : l = bs.length) (h0 : size ≤ 8) (hB : B ≤ w.heap.size) (hl2 : l ≤ 140737488351232) :
    Calls Tryz.prog 87 #[.slice A l c, .int .u64 n, .int .i64 size] w fun e w' => ∃ g, e = .returned (.slice (some ⟨g, 0, none⟩) (l + size) (l + size)) ∧
      w.heap.size ≤ g ∧ Row w' g 5 (bvs (bs ++ le n size)) ∧ Below w.heap.size w w' := by
  obtain ⟨i0, hi, hz0, hz1, hz2⟩ := info_parts u8info
  have HL : Hid (l = bs.length) := hl
  clear hl
  go_enter Tryz.func87, Tryz.ntmps87
  go_wp2_with fail
  go_loopw [8, 10] (fun _ i wr => ∃ k : Nat, k ≤ 8 ∧ i = .int .i64 k ∧ Row wr w.heap.size 124 (lw n k) ∧ Below w.heap.size w wr) (fun _ i _ => 8 - (intOf i).toNat)
  case atStart => exact ⟨0, by omega, rfl, by rw [lw_zero]; exact Row.new _ _ _, (Below.refl _ _).alloc (Nat.le_refl _) _⟩
  case round =>
    obtain ⟨k, hk, rfl, hb, hbe⟩ := hrel
    by_cases hlt : k < 8
    · have hc := (hb.cell k).trans (lw_at n k hlt)
      have hf := hb.frozen k
      have hst := hb.set_ k (.int .u8 ((n : Int) / 2 ^ (8 * k) % 256))
      rw [lw_set n k hlt] at hst
      have HS := hid hst
      clear hst hb
      go_wp2_with fail
      go_roundw
      case rel => exact ⟨k + 1, by omega, by go_num, HS.out, hbe.setCell (Nat.le_refl _) _⟩
      case measure => simp [intOf]; omega
    · have HB := hid hb
      have hbsz : w.heap.size < wr.heap.size := hb.lt
      have HBe := hid hbe
      clear hb hbe
      obtain rfl : k = 8 := by omega
      go_wp2_with (first
        | (with_reducible refine wpl_make rfl _ _ _ rfl 5 i0 _ Tryz.underlying81 hi hz0 hz1 rfl _ _ _ _ (l + size) rfl rfl ?_ ?_ ?_ ?_ ?_; intro g w1 HG HR1 HB1)
        | (with_reducible refine wpl_copy rfl _ _ _ _ rfl 5 Tryz.underlying81 rfl (some ⟨g, 0, none⟩) A (l + size) (l + size) l c rfl rfl g 0 _ 5 HR1 B (bvs bs) ?_ ?_ ?_ ?_ ?_ ?_; intro w2 HR2 HB2))
      rotate_left
      · exact hid ((hr.below HBe.out hB).below HB1 (by have := HG.out; omega))
      · exact hid (by rw [bvs_len, ← HL.out]; simp)
      · exact hid trivial
      · exact hid (by rw [bvs_len, ← HL.out]; simp)
      · exact hid (bvs_one bs)
      · exact hid (by omega)
      · exact hid (by omega)
      · exact hid (by rw [hz2]; omega)
      · exact hid (by simp only [maxLen]; omega)
      have hle : (l : Int) ≤ (l : Int) + size := by omega
      have hle8 : (size : Int) ≤ 8 := by omega
      have RW : Row w2 w.heap.size 124 (lw n 8) := ((HB.out.below HB1 (by have := HG.out; omega))).grown HB2 (by have := HG.out; simp; omega)
      have f1 : Hid (Rd w2.drew w2.heap.size (some ⟨w.heap.size, 0, none⟩) (bvs (le n size))) := hid (by rw [← lw_take n size h0]; exact (RW.rd RW.lt).take size)
      have f2 : Hid ((bvs (le n size)).length = Nat.min size size) := hid (by rw [bvs_len, le_len]; simp)
      have f3 : Hid (0 < (bvs (le n size)).length → (if size = 0 then some (⟨g, 0, none⟩ : Addr) else some ⟨g, l, none⟩) = some ⟨g, l, none⟩) := hid (fun h => by rw [bvs_len, le_len] at h; rw [if_neg (by omega)])
      have f4 : Hid (l + (bvs (le n size)).length ≤ (splice (List.replicate (l + size) (Value.int .u8 0)) 0 (bvs bs)).length) := hid (by rw [length_splice _ _ _ (by rw [bvs_len, ← HL.out]; simp), bvs_len, le_len]; simp)
      have f5 := hid (bvs_one (le n size))
      have HR3 : Row w2.drew g 5 (splice (List.replicate (l + size) (Value.int .u8 0)) 0 (bvs bs)) := HR2
      go_region_law (refine step_of_wpo rfl (wpo_copy (.tmp 32) (.tmp 34) 81 81 rfl 5 Tryz.underlying81 rfl (if size = 0 then some ⟨g, 0, none⟩ else some ⟨g, l, none⟩) (some ⟨w.heap.size, 0, none⟩) size size size 8 (by simp [Act.eval, Act.put]) (by simp [Act.eval, Act.put]) g l _ 5 HR3 _ _ (fun w3 HR4 HB3 => ?_) f1 f2 f3 f4 f5))
      have hfin : ∀ s, s = size → Row w3 g 5 (bvs (bs ++ le n s)) := by
        rintro s rfl
        have h := splice_two (List.replicate (l + s) (Value.int .u8 0)) (bvs bs) (bvs (le n s)) (by simp [bvs_len, le_len, HL.out])
        rw [bvs_len, ← HL.out] at h
        rw [h, ← bvs_app] at HR4
        exact HR4
      have HF := hid hfin
      clear hfin
      go_wp2_with fail
      all_goals
        go_ret
        have h0 := HG.out
        exact ⟨g, rfl, by omega, HF.out _ (by omega), ((HBe.out.trans (HB1.mono (by omega))).trans (below_grown HB2 (by omega) (by have := HR1.lt; omega))).drew.trans (below_grown HB3 (by omega) (by have := HR3.lt; omega))⟩
end Go.Proofs.YteahbalcielhpaaGreatDoor
/-
  The walks of Put and PutText, and of the answers held against them.
-/
namespace Go.Proofs.YteahbalcielhpaaGreatDoor
open Go.RowKit
set_option maxRecDepth 10000

theorem own_shape {w : World} {B : Nat} {e : TypeId} {v : Value} {n : Nat} {xs : List Value} (h : w.ownsRow B e 1 v n xs) :
    ∃ A c, v = .slice A n c ∧ n ≤ c ∧ xs.length = n ∧ Rd w w.heap.size A xs := by
  obtain ⟨h1, h2⟩ := h
  have h3 : xs.length = n := by omega
  subst h3
  rcases h2 with ⟨rfl, h0⟩ | ⟨g, cap, cur, rfl, a, b, c, d⟩
  · rw [h0]
    exact ⟨none, 0, rfl, Nat.le_refl _, rfl, by rw [List.eq_nil_of_length_eq_zero h0]; exact Rd.nil⟩
  · exact ⟨_, cap, rfl, c, rfl, Rd.of_own ⟨h1, .inr ⟨g, cap, cur, rfl, a, b, c, d⟩⟩⟩
/-- new bytes and an error's number -/
def BE (w : World) (r : List UInt8 × Int) (e : Ending) (w' : World) : Prop :=
  ∃ A c, e = .returned (.tuple #[.slice A r.1.length c, .int .i64 r.2]) ∧ w'.ownsRow w.heap.size 5 1 (.slice A r.1.length c) r.1.length (bvs r.1) ∧ Below w.heap.size w w'
/-- what Put answers -/
def putS (bs : List UInt8) (n : Nat) (size : Int) : List UInt8 × Int :=
  if 1 ≤ size ∧ size ≤ 8 ∧ n / 2 ^ (8 * size.toNat) = 0 then (bs ++ le n size.toNat, 0) else ([], 1)
theorem isSize_yes (n : Int) (w : World) (h1 : 1 ≤ n) (h2 : n ≤ 8) :
    Calls Tryz.prog 86 #[.int .i64 n] w fun e w' => e = .returned (.bool true) ∧ w = w' := by
  go_enter Tryz.func86, Tryz.ntmps86
  go_wp2
  go_ret
  exact ⟨by simp, rfl⟩
theorem isSize_no (n : Int) (w : World) (h : ¬ (1 ≤ n ∧ n ≤ 8)) :
    Calls Tryz.prog 86 #[.int .i64 n] w fun e w' => e = .returned (.bool false) ∧ w = w' := by
  by_cases h1 : 1 ≤ n
  · have h2 : ¬ n ≤ 8 := fun h2 => h ⟨h1, h2⟩
    clear h
    go_enter Tryz.func86, Tryz.ntmps86
    go_wp2
    go_ret
    exact ⟨by simp, rfl⟩
  · have h2 : decide (1 ≤ n) = false := by simp; omega
    clear h
    go_enter Tryz.func86, Tryz.ntmps86
    go_wp2
    go_ret
    exact ⟨by simp, rfl⟩
set_option maxHeartbeats 400000 in
theorem put_no (A : Option Addr) (l c n : Nat) (size : Int) (w : World) (h : ¬ (1 ≤ size ∧ size ≤ 8)) :
    Calls Tryz.prog 76 #[.slice A l c, .int .u64 n, .int .i64 size] w (BE w ([], 1)) := by
  have H := hid h
  clear h
  go_enter Tryz.func76, Tryz.ntmps76
  go_wp2_with (go_at_call 86; refine (isSize_no _ _ H.out).mono ?_; rintro e w' ⟨rfl, rfl⟩)
  go_ret2
  exact ⟨none, 0, rfl, World.ownsRow_nil _ _ _ _, Below.refl _ _⟩
set_option maxHeartbeats 400000 in
theorem put_big (A : Option Addr) (l c n s : Nat) (w : World) (h0 : 1 ≤ s) (h8 : s ≤ 8) (hn : ((n : Int) / 2 ^ (8 * s) != 0) = true) :
    Calls Tryz.prog 76 #[.slice A l c, .int .u64 n, .int .i64 s] w (BE w ([], 1)) := by
  go_enter Tryz.func76, Tryz.ntmps76
  go_wp2_with (go_at_call 86; refine (isSize_yes _ _ (by omega) (by omega)).mono ?_; rintro e w' ⟨rfl, rfl⟩)
  go_ret2
  exact ⟨none, 0, rfl, World.ownsRow_nil _ _ _ _, Below.refl _ _⟩
theorem BE_row {w w' : World} {g : Nat} {bs : List UInt8} {n : Nat} (hn : n = bs.length) (hg : w.heap.size ≤ g) (hr : Row w' g 5 (bvs bs)) (hm : n ≤ maxLen) (hb : Below w.heap.size w w') :
    BE w (bs, 0) (.returned (.tuple #[.slice (some ⟨g, 0, none⟩) n n, .int .i64 0])) w' := by
  subst hn
  refine ⟨_, _, rfl, ?_, hb⟩
  have h := hr.own (B := w.heap.size) hg (by rw [bvs_len]; exact hm)
  rw [bvs_len] at h
  exact h
set_option maxHeartbeats 400000 in
theorem put_ok (A : Option Addr) (bs : List UInt8) (l c n s B : Nat) (w : World) (hr : Rd w B A (bvs bs)) (hl : l = bs.length) (h0 : 1 ≤ s) (h8 : s ≤ 8) (hB : B ≤ w.heap.size) (hl2 : l ≤ 140737488351232)
    (hn : ((n : Int) / 2 ^ (8 * s) != 0) = false) :
    Calls Tryz.prog 76 #[.slice A l c, .int .u64 n, .int .i64 s] w (BE w (bs ++ le n s, 0)) := by
  have H1 := hid hl
  clear hl
  go_enter Tryz.func76, Tryz.ntmps76
  go_wp2_with (first
    | (go_at_call 86; refine (isSize_yes _ _ (by omega) (by omega)).mono ?_; rintro e w' ⟨rfl, rfl⟩)
    | (go_at_call 87; refine (lay_any A bs l c n s B _ hr H1.out h8 hB hl2).mono ?_; rintro e w1 ⟨g, rfl, hg, hrow, hbe⟩))
  go_ret2
  exact BE_row (by simp [le_len, H1.out]) hg hrow (by simp only [maxLen]; omega) hbe
theorem int_div_pow (n k : Nat) : ((n : Int) / 2 ^ k) = ((n / 2 ^ k : Nat) : Int) := by simp
theorem put_any (A : Option Addr) (bs : List UInt8) (l c n B : Nat) (size : Int) (w : World) (hr : Rd w B A (bvs bs)) (hl : l = bs.length) (hB : B ≤ w.heap.size) (hl2 : l ≤ 140737488351232) :
    Calls Tryz.prog 76 #[.slice A l c, .int .u64 n, .int .i64 size] w (BE w (putS bs n size)) := by
  by_cases h : 1 ≤ size ∧ size ≤ 8
  · obtain ⟨s, rfl⟩ := Int.eq_ofNat_of_zero_le (show 0 ≤ size by omega)
    by_cases h2 : n / 2 ^ (8 * s) = 0
    · have e : putS bs n s = (bs ++ le n s, 0) := by
        unfold putS
        rw [if_pos ⟨h.1, h.2, by simpa using h2⟩]
        simp
      rw [e]
      exact put_ok A bs l c n s B w hr hl (by omega) (by omega) hB hl2 (by rw [int_div_pow, h2]; rfl)
    · have e : putS bs n s = ([], 1) := by
        unfold putS
        rw [if_neg (fun h3 => h2 (by simpa using h3.2.2))]
      rw [e]
      exact put_big A l c n s w (by omega) (by omega) (by rw [int_div_pow]; exact bne_iff_ne.2 (fun h => h2 (by exact_mod_cast h)))
  · have e : putS bs n size = ([], 1) := by
      unfold putS
      rw [if_neg (fun h3 => h ⟨h3.1, h3.2.1⟩)]
    rw [e]
    exact put_no A l c n size w h
end Go.Proofs.YteahbalcielhpaaGreatDoor
/-
  The walks of the document's answers: Bytes, Put, Same.
-/
namespace Go.Proofs.YteahbalcielhpaaGreatDoor
open Go.RowKit
set_option maxRecDepth 10000

set_option maxHeartbeats 400000 in
theorem rbytes_any (A : Option Addr) (bs : List UInt8) (l c B : Nat) (w : World) (hr : Rd w B A (bvs bs)) (hl : l = bs.length) (hB : B ≤ w.heap.size) (hl2 : l ≤ 140737488355328) :
    Calls Tryz.prog 91 #[.slice A l c] w fun e w' => ∃ g, e = .returned (.slice (some ⟨g, 0, none⟩) l l) ∧
      Hid (g = w.heap.size) ∧ Row w' g 5 (bvs bs) ∧ Below w.heap.size w w' := by
  obtain ⟨i0, hi, hz0, hz1, hz2⟩ := info_parts u8info
  have HL := hid hl
  clear hl
  go_enter Tryz.func91, Tryz.ntmps91
  go_wp2_with (first
    | (with_reducible refine wpl_make rfl _ _ _ rfl 5 i0 _ Tryz.underlying81 hi hz0 hz1 rfl _ _ _ _ l rfl rfl ?_ ?_ ?_ ?_ ?_; intro g w1 HG HR1 HB1)
    | (with_reducible refine wpl_copy rfl _ _ _ _ rfl 5 Tryz.underlying81 rfl (some ⟨g, 0, none⟩) A l l l c rfl rfl g 0 _ 5 HR1 B (bvs bs) ?_ ?_ ?_ ?_ ?_ ?_; intro w2 HR2 HB2))
  rotate_left
  · exact hid (hr.below HB1 (by have := HG.out; omega))
  · exact hid (by rw [bvs_len, ← HL.out]; simp)
  · exact hid trivial
  · exact hid (by rw [bvs_len, ← HL.out]; simp)
  · exact hid (bvs_one bs)
  · exact hid trivial
  · exact hid trivial
  · exact hid (by rw [hz2]; omega)
  · exact hid (by simp only [maxLen]; omega)
  go_ret
  have h0 := HG.out
  have h1 : splice (List.replicate l (Value.int .u8 0)) 0 (bvs bs) = bvs bs := by
    simp [splice, bvs_len, HL.out]
  rw [h1] at HR2
  exact ⟨g, rfl, HG, HR2, (HB1.mono (by omega)).trans (below_grown HB2 (by omega) (by have := HR1.lt; omega))⟩
set_option maxHeartbeats 400000 in
theorem rput_no (A : Option Addr) (l c n : Nat) (size : Int) (w : World) (h : ¬ (1 ≤ size ∧ size ≤ 8)) :
    Calls Tryz.prog 84 #[.slice A l c, .int .u64 n, .int .i64 size] w (BE w ([], 1)) := by
  by_cases h1 : 1 ≤ size
  · have h2 : 8 < size := by omega
    clear h
    go_enter Tryz.func84, Tryz.ntmps84
    go_wp2_with fail
    go_ret2
    exact ⟨none, 0, rfl, World.ownsRow_nil _ _ _ _, Below.refl _ _⟩
  · have h2 : size < 1 := by omega
    clear h
    go_enter Tryz.func84, Tryz.ntmps84
    go_wp2_with fail
    go_ret2
    exact ⟨none, 0, rfl, World.ownsRow_nil _ _ _ _, Below.refl _ _⟩
theorem BE_own {w w' : World} {v : Value} {bs : List UInt8} {n : Nat} (hn : n = bs.length) (h : w'.ownsRow w.heap.size 5 1 v n (bvs bs)) (hb : Below w.heap.size w w') :
    BE w (bs, 0) (.returned (.tuple #[v, .int .i64 0])) w' := by
  subst hn
  obtain ⟨A, c, rfl, _⟩ := own_shape h
  exact ⟨A, c, rfl, h, hb⟩
theorem le_snoc : ∀ (k n : Nat), le n (k + 1) = le n k ++ [UInt8.ofNat (n / 2 ^ (8 * k))]
  | 0, n => by simp [le]
  | k + 1, n => by
    rw [le, le_snoc k, le]
    simp only [List.cons_append, List.cons.injEq, true_and, List.append_cancel_left_eq, and_true]
    rw [Nat.div_div_eq_div_mul, show 8 * (k + 1) = 8 + 8 * k by omega, Nat.pow_add]
set_option maxHeartbeats 400000 in
theorem rput_yes (A : Option Addr) (bs : List UInt8) (l c n s B : Nat) (w : World) (hr : Rd w B A (bvs bs)) (hl : l = bs.length) (h0 : 1 ≤ s) (h8 : s ≤ 8) (hB : B ≤ w.heap.size) (hl2 : l ≤ 140737488351232) (hn : Hid (n < 18446744073709551616)) :
    Calls Tryz.prog 84 #[.slice A l c, .int .u64 n, .int .i64 s] w (BE w (putS bs n s)) := by
  obtain ⟨i0, hi, hz0, hz1, hz2⟩ := info_parts u8info
  have H1 := hid hl
  clear hl
  go_enter Tryz.func84, Tryz.ntmps84
  go_wp2_with (go_at_call 91; refine (rbytes_any A bs l c B _ hr H1.out hB (by omega)).mono ?_; rintro e w1 ⟨g, rfl, hg, hrow, hbe⟩)
  go_loopw [1, 8, 9] (fun x out i wr => ∃ (k m : Nat) , k ≤ s ∧ i = .int .i64 k ∧ x = .int .u64 m ∧ Hid (m = n / 2 ^ (8 * k)) ∧ wr.ownsRow w.heap.size 5 1 out (l + k) (bvs (bs ++ le n k)) ∧ Below w.heap.size w wr) (fun _ _ i _ => s - (intOf i).toNat)
  case atStart =>
    refine ⟨0, n, by omega, rfl, rfl, hid (by simp), ?_, hbe⟩
    have h := hrow.own (B := w.heap.size) (by have := hg.out; omega) (by rw [bvs_len, ← H1.out]; simp only [maxLen]; omega)
    rw [bvs_len, ← H1.out] at h
    simpa [le] using h
  case round =>
    obtain ⟨k, m, hk, rfl, rfl, hm, hown, hbe'⟩ := hrel
    have hsz := hbe'.size
    by_cases hlt : k < s
    · go_wp2_with (with_reducible refine wpl_append rfl (.tmp 23) (.tmp 27) 81 rfl w.heap.size 5 i0 _ 1 1 Tryz.underlying81 hi hz0 hz1 hz2 rfl (by omega) u8 (l + k) _ rfl (hown.alloc _) (wr.heap.size + 1) (some ⟨wr.heap.size, 0, none⟩) 1 1 [.int .u8 ((m : Int) % 256)] rfl ?_ ?_ ?_ ?_ ?_ ?_ ?_; intro v' w2 hown2 hb2 hg2)
      rotate_left
      · refine hid fun _ => ⟨_, _, rfl, by omega, ?_⟩
        intro j u hu
        match j, hu with
        | 0, hu => simp at hu; subst hu; simp
      · exact hid rfl
      · exact hid (by intro u hu; simp at hu; subst hu; rfl)
      · exact hid (by simp only [maxLen]; omega)
      · exact hid (by omega)
      · exact hid (by simp; omega)
      have e1 : ((m : Int) / 256) = ((m / 256 : Nat) : Int) := by simp
      go_roundw
      case rel =>
        refine ⟨k + 1, m / 256, by omega, by go_num, ?_, hid ?_, ?_, ?_⟩
        · rw [← e1]
          congr 1
          exact IntWalk.u64_in _ ⟨by omega, by have := hm.out; have := Nat.div_le_self n (2 ^ (8 * k)); have := hn.out; omega⟩
        · rw [hm.out, Nat.div_div_eq_div_mul, show 8 * (k + 1) = 8 * k + 8 by omega, Nat.pow_add]
        · rw [le_snoc, ← hm.out, ← List.append_assoc, bvs_app (bs ++ le n k)]
          have : bvs [UInt8.ofNat m] = [.int .u8 ((m : Int) % 256)] := by simp [bvs, bv_ofNat]
          rw [this]
          exact hown2
        · exact (hbe'.alloc hsz _).trans hb2
      case measure => simp [intOf]; omega
    · obtain rfl : k = s := by omega
      have HM := hm
      by_cases hz : m = 0
      · have hfin : putS bs n k = (bs ++ le n k, 0) := by
          unfold putS
          rw [if_pos ⟨by omega, by omega, by simpa using hm.out.symm.trans hz⟩]
          simp
        have HF := hid hfin
        clear hfin
        go_wp2_with fail
        go_ret2
        rw [HF.out]
        exact BE_own (by simp [le_len, H1.out]) hown hbe'
      · have hfin : putS bs n k = ([], 1) := by
          unfold putS
          rw [if_neg (fun h => hz (hm.out.trans (by simpa using h.2.2)))]
        have HF := hid hfin
        clear hfin
        go_wp2_with fail
        go_ret2
        rw [HF.out]
        exact ⟨none, 0, rfl, World.ownsRow_nil _ _ _ _, hbe'⟩
theorem rput_any (A : Option Addr) (bs : List UInt8) (l c n B : Nat) (size : Int) (w : World) (hr : Rd w B A (bvs bs)) (hl : l = bs.length) (hB : B ≤ w.heap.size) (hl2 : l ≤ 140737488351232) (hn : Hid (n < 18446744073709551616)) :
    Calls Tryz.prog 84 #[.slice A l c, .int .u64 n, .int .i64 size] w (BE w (putS bs n size)) := by
  by_cases h : 1 ≤ size ∧ size ≤ 8
  · obtain ⟨s, rfl⟩ := Int.eq_ofNat_of_zero_le (show 0 ≤ size by omega)
    exact rput_yes A bs l c n s B w hr hl (by omega) (by omega) hB hl2 hn
  · have e : putS bs n size = ([], 1) := by
      unfold putS
      rw [if_neg (fun h3 => h ⟨h3.1, h3.2.1⟩)]
    rw [e]
    exact rput_no A l c n size w h
end Go.Proofs.YteahbalcielhpaaGreatDoor
/-
  The walks of Take and of the answer held against it.
-/
namespace Go.Proofs.YteahbalcielhpaaGreatDoor
open Go.RowKit
set_option maxRecDepth 10000

/-- its byte at k -/
def tb (xs : List UInt8) (k : Nat) : Nat := (xs.getD k 0).toNat
end Go.Proofs.YteahbalcielhpaaGreatDoor
/-
  The walks of PutText and of the answer held against it; the chapter's examples.
-/
namespace Go.Proofs.YteahbalcielhpaaGreatDoor
open Go.RowKit
set_option maxRecDepth 10000

theorem BE.len {w w' : World} {e : Ending} {bs : List UInt8} {x : Int} {n : Nat} (h : BE w (bs, x) e w') (hn : bs.length = n) :
    ∃ A c, e = .returned (.tuple #[.slice A n c, .int .i64 x]) ∧ w'.ownsRow w.heap.size 5 1 (.slice A n c) n (bvs bs) ∧ Below w.heap.size w w' := by
  subst hn
  exact h
set_option maxHeartbeats 400000 in
theorem pt_ok (A : Option Addr) (bs : List UInt8) (l c B : Nat) (s : ByteArray) (w : World) (hr : Rd w B A (bvs bs)) (hl : l = bs.length) (hB : B ≤ w.heap.size) (hl2 : l ≤ 140737488200000) (h : (s.size : Int) ≤ 65535) :
    Calls Tryz.prog 106 #[.slice A l c, .string s] w (BE w (bs ++ le s.size 2 ++ sb s, 0)) := by
  obtain ⟨i0, hi, hz0, hz1, hz2⟩ := info_parts u8info
  have HL := hid hl
  clear hl
  go_enter Tryz.func106, Tryz.ntmps106
  go_wp2_with (first
    | (go_at_call 87; have L := lay_any A bs l c s.size 2 B w hr HL.out (by omega) hB (by omega); refine L.mono ?_; clear L; rintro e w1 ⟨g, rfl, hg, hrow, hbe⟩; have hown := hrow.own (B := w.heap.size) hg (le_maxLen (by rw [bvs_len, List.length_append, le_len, ← HL.out]; omega)); have HLL : (bvs (bs ++ le s.size 2)).length = l + 2 := (by simp [bvs_len, le_len, HL.out]); rw [HLL] at hown; clear HLL)
    | (with_reducible refine wpl_append_str rfl (.tmp 13) (.tmp 14) 81 9 rfl w.heap.size 5 i0 Tryz.underlying81 Tryz.underlying9 hi hz0 hz1 hz2 (.slice (some ⟨g, 0, none⟩) (l + 2) (l + 2)) (l + 2) _ rfl hown s rfl ?_ ?_ ?_ ?_; intro v' w2 hown2 hb2 hg2))
  rotate_left
  · exact hid (le_maxLen (by omega))
  · exact hid (by omega)
  · exact hid hbe.size
  go_ret2
  rw [← bvs_app] at hown2
  exact BE_own (by simp [le_len, HL.out, sb_len]; omega) hown2 (hbe.trans hb2)
end Go.Proofs.YteahbalcielhpaaGreatDoor
/-
  The walks of TakeText and of the answer held against it.
-/
namespace Go.Proofs.YteahbalcielhpaaGreatDoor
open Go.RowKit
set_option maxRecDepth 10000

theorem Rd.byte {w : World} {B g o : Nat} {bs : List UInt8} (h : Rd w B (some ⟨g, o, none⟩) (bvs bs)) : ∀ (i : Nat) (b : UInt8), bs[i]? = some b → w.cell? ⟨g, o + i, none⟩ = some (.int .u8 (b.toNat : Int)) := by
  intro i b hb
  obtain ⟨g1, o1, e, _, hc⟩ := h (by intro e; have : bs = [] := by simpa [bvs] using e
                                     subst this; simp at hb)
  cases e
  exact hc i _ (by simp [bvs, hb, bv])
end Go.Proofs.YteahbalcielhpaaGreatDoor
