/-
  The walks of package event's layAsked, and of what a list's elements are laid by.
-/
import Derived.Test.YtbofabmgfkploaaTakes
import Derived.Deep.RegionHeld
namespace Go.Proofs.Ytbofabmgfkploaa
open Go.RowKit
set_option maxRecDepth 10000

/-- a text and an error's number -/
def SN (w : World) (r : List UInt8 × Int) (e : Ending) (w' : World) : Prop := e = .returned (.tuple #[.string ⟨r.1.toArray⟩, .int .i64 r.2]) ∧ Below w.heap.size w w'

/-- what was there at the region's beginning is as it was -/
def Kp (W w : World) : Prop := Below W.heap.size W w
theorem Kp.refl (W : World) : Kp W W := Below.refl _ _
theorem Kp.drew {W w : World} (h : Kp W w) : Kp W w.drew := Below.drew h
theorem Kp.alloc {W w : World} (h : Kp W w) (o : Obj) : Kp W (w.alloc o) := Below.alloc h (Below.size h) o
theorem Kp.call {W w w' : World} (hb : Below w.heap.size w w') (h : Kp W w) : Kp W w' := Below.trans h (hb.mono (Below.size h))

def askS (x : Ac) : List UInt8 × Int := if 0 ≤ x.flags ∧ x.flags ≤ 255 then (le x.id 8 ++ [UInt8.ofNat x.flags.toNat], 0) else ([], 1)

theorem put_flag (m : Nat) (h : m ≤ 255) (W : World) : Calls Try.prog 89 #[.slice none 0 0, .int .u64 (m : Int), .int .i64 1] W
    fun e w' => ∃ A c, e = .returned (.tuple #[.slice A 1 c, .int .i64 0]) ∧ Rd w' w'.heap.size A (bvs [UInt8.ofNat m]) ∧ Below W.heap.size W w' := by
  have h2 := put_any none [] 0 0 m 0 1 W Rd.nil rfl (Nat.zero_le _) (by omega)
  have e : putS [] m 1 = ([UInt8.ofNat m], 0) := by
    unfold putS
    rw [if_pos ⟨by omega, by omega, Nat.div_eq_of_lt (by simpa using Nat.lt_succ_of_le h)⟩]
    rfl
  rw [e] at h2
  refine h2.mono fun e w' hh => ?_
  obtain ⟨A', c', e1, ho, hb⟩ := BE.len hh (n := 1) rfl
  obtain ⟨A2, c2, e2, _, _, hrd⟩ := own_shape ho
  cases e2
  exact ⟨A', c', e1, hrd, hb⟩
theorem put_noflag (m : Nat) (h : 255 < m) (W : World) : Calls Try.prog 89 #[.slice none 0 0, .int .u64 (m : Int), .int .i64 1] W
    fun e w' => ∃ A c, e = .returned (.tuple #[.slice A 0 c, .int .i64 1]) ∧ Below W.heap.size W w' := by
  have h2 := put_any none [] 0 0 m 0 1 W Rd.nil rfl (Nat.zero_le _) (by omega)
  have e : putS [] m 1 = ([], 1) := by
    unfold putS
    rw [if_neg (by
      rintro ⟨_, _, h⟩
      have := (Nat.div_eq_zero_iff_lt (by decide)).1 h
      simp at this
      omega)]
  rw [e] at h2
  refine h2.mono fun e w' hh => ?_
  obtain ⟨A', c', e1, ho, hb⟩ := BE.len hh (n := 0) rfl
  exact ⟨A', c', e1, hb⟩

set_option maxHeartbeats 1000000 in
theorem ask_yes (x : Ac) (m : Nat) (w : World) (hid' : U64 x.id) (hf : x.flags = (m : Int)) (h2 : (m : Int) ≤ 255) : Calls Try.prog 62 #[.agg x.cells.toArray] w (SN w (le x.id 8 ++ [UInt8.ofNat m], 0)) := by
  obtain ⟨id, flags, deb, cre⟩ := x
  subst hf
  show Calls Try.prog 62 #[.agg #[.int .u64 (id : Int), .int .i64 (m : Int), .int .u64 (deb : Int), .int .u64 (cre : Int)]] w _
  have HP := hid (put_flag m (by omega))
  have HID := hid hid'
  have HLA : Hid (leAll [id] = le id 8) := hid (by simp [leAll])
  have hlen : ¬ (9223372036854775807 < (le id 8).length + 1) := by rw [le_len]; omega
  have HLY := hid (fun W c B A (hr : Rd W B A (rows Ic [id])) hB hc => by
    have := lay_nums A [id] 1 c B W hr rfl (by omega) (by omega) hc (by intro x hx; simp at hx; subst hx; exact hid') hB
    rw [HLA.out] at this
    exact this)
  generalize le id 8 = E at *
  generalize UInt8.ofNat m = b at *
  clear hid' HID HLA
  go_enter Try.func62, Try.ntmps62
  go_wp2_with (go_at_call 89; refine (HP.out _).mono ?_; rintro e w1 ⟨A, c, rfl, hrd, hb⟩)
  have hb0 : Below w.heap.size w w1 := ((Below.refl _ _).alloc (Nat.le_refl _) _).trans (hb.mono (by simp))
  have hrow : Row w1 w.heap.size 45 [.int .u64 (id : Int), .int .i64 (m : Int), .int .u64 (deb : Int), .int .u64 (cre : Int)] := (Row.new w 45 #[.int .u64 (id : Int), .int .i64 (m : Int), .int .u64 (deb : Int), .int .u64 (cre : Int)]).below hb (by simp)
  have hc : ∀ W, Kp w1 W → W.cell? ⟨w.heap.size, 0, none⟩ = some (.int .u64 (id : Int)) := fun W hW => by
    rw [(hrow.below hW hrow.lt).cell]
    rfl
  have hcv : ∀ W, Kp w1 W → (convert 116 9 (.slice A 1 c)).run Try.prog W = .ok (.string ⟨[b].toArray⟩) W := fun W hW =>
    run_str W 116 5 Try.underlying116 Try.underlying5 9 Try.underlying9 w1.heap.size A [b] 1 c rfl (hrd.below hW (Nat.le_refl _))
  have HB0 := hid hb0
  clear hrd hb hb0 hrow
  have HNW : Hid (∀ W : World, Rd (W.alloc (.cells #[.int .u64 (id : Int)] 41)).drew (W.heap.size + 1) (some ⟨W.heap.size, 0, none⟩) (rows Ic [id])) := hid fun W => Row.rd (cs := rows Ic [id]) (Row.new W 41 #[.int .u64 (id : Int)]) (Nat.lt_succ_self _)
  have HC := hid hc
  have HCV := hid hcv
  clear hc hcv
  refine wp_region_held_drew (S := fun w' => Kp w1 w') (by kernel_rfl) (Kp.refl _).drew (fun hH => ?_)
  refine wpAnyH_take (i := 0) (v := .pointer (some ⟨w.heap.size, 0, none⟩)) rfl (by kernel_rfl) (by kernel_rfl) (by kernel_rfl) (fun _ _ _ h => h) (Or.inl ⟨by rfl, fun w' hw' => by clear hw' ; go_simp⟩) hH ?_
  simp only [Act.put]
  refine wpAnyH_take (i := 1) (v := .int .u64 (id : Int)) rfl (by kernel_rfl) (by kernel_rfl) (by kernel_rfl) (fun _ _ _ h => h) (Or.inl ⟨by rfl, fun w' hw' => by have h := HC.out w' hw'; go_simp⟩) hH ?_
  simp only [Act.put]
  refine wpAnyH_take (i := 4) (v := .slice A 1 c) rfl (by kernel_rfl) (by kernel_rfl) (by kernel_rfl) (fun _ _ _ h => h) (Or.inl ⟨by rfl, fun w' hw' => by clear hw' ; go_simp⟩) hH ?_
  simp only [Act.put]
  refine wpAnyH_take (i := 5) (v := .string ⟨[b].toArray⟩) rfl (by kernel_rfl) (by kernel_rfl) (by kernel_rfl) (fun _ _ _ h => h) (Or.inl ⟨by rfl, fun w' hw' => by have h := HCV.out w' hw'; go_simp⟩) hH ?_
  simp only [Act.put]
  refine wpAnyH_ready (rs := [2]) (by kernel_rfl) (by simp) ?_
  refine AllReadyH.cons rfl (fun K hK => ?_) AllReadyH.nil
  go_simp
  refine hK.out _ _ (Kp.alloc hH _) (fun hH => ?_)
  clear hK K
  try simp only [Act.put]
  refine wpAnyH_ready (rs := [3]) (by kernel_rfl) (by simp) ?_
  refine AllReadyH.cons rfl (fun K hK => ?_) AllReadyH.nil
  go_simp
  go_at_call 54
  refine (HLY.out _ 1 _ _ (HNW.out w1) (by simp) (by omega)).mono ?_
  rintro e w2 ⟨rfl, hb2⟩
  go_wp2_with fail
  refine hK.out _ _ (Kp.call hb2 hH) (fun hH => ?_)
  clear hK K
  try simp only [Act.put]
  refine wpAnyH_ready (rs := [6]) (by kernel_rfl) (by simp) ?_
  refine AllReadyH.cons rfl (fun K hK => ?_) AllReadyH.nil
  go_simp
  refine hK.out _ _ (hH) (fun hH => ?_)
  clear hK K
  try simp only [Act.put]
  refine wpAnyH_ready (rs := [7]) (by kernel_rfl) (by simp) ?_
  refine AllReadyH.cons rfl (fun K hK => ?_) AllReadyH.nil
  go_simp
  refine hK.out _ _ (hH) (fun hH => ?_)
  clear hK K
  try simp only [Act.put]
  refine wpAnyH_ready (rs := [8]) (by kernel_rfl) (by simp) ?_
  refine AllReadyH.cons rfl (fun K hK => ?_) AllReadyH.nil
  go_simp
  refine hK.out _ _ (hH) (fun hH => ?_)
  clear hK K
  try simp only [Act.put]
  refine wpAnyH_done (by kernel_rfl) ?_ _
  try simp only [Act.put]
  go_wp2_with fail
  go_ret2
  exact ⟨rfl, HB0.out.trans (Below.mono hH HB0.out.size)⟩

set_option maxHeartbeats 1000000 in
theorem ask_high (x : Ac) (m : Nat) (w : World) (hf : x.flags = (m : Int)) (h2 : 255 < m) (h3 : (m : Int) ≤ 9223372036854775807) : Calls Try.prog 62 #[.agg x.cells.toArray] w (SN w ([], 1)) := by
  obtain ⟨id, flags, deb, cre⟩ := x
  subst hf
  show Calls Try.prog 62 #[.agg #[.int .u64 (id : Int), .int .i64 (m : Int), .int .u64 (deb : Int), .int .u64 (cre : Int)]] w _
  have HP := hid (put_noflag m h2)
  go_enter Try.func62, Try.ntmps62
  go_wp2_with (go_at_call 89; refine (HP.out _).mono ?_; rintro e w1 ⟨A, c, rfl, hb⟩)
  go_ret2
  exact ⟨rfl, ((Below.refl _ _).alloc (Nat.le_refl _) _).trans (hb.mono (by simp))⟩
set_option maxHeartbeats 1000000 in
theorem ask_low (x : Ac) (w : World) (h2 : x.flags < 0) (h3 : -9223372036854775808 ≤ x.flags) : Calls Try.prog 62 #[.agg x.cells.toArray] w (SN w ([], 1)) := by
  obtain ⟨id, flags, deb, cre⟩ := x
  show Calls Try.prog 62 #[.agg #[.int .u64 (id : Int), .int .i64 flags, .int .u64 (deb : Int), .int .u64 (cre : Int)]] w _
  have hu : IntKind.u64.wrap flags = (((flags + 18446744073709551616).toNat : Nat) : Int) := by
    simp only at h2 h3
    rw [IntKind.wrap_u64]
    omega
  have HP := hid (put_noflag (flags + 18446744073709551616).toNat (by simp only at h2 h3; omega))
  rw [← hu] at HP
  clear hu
  go_enter Try.func62, Try.ntmps62
  go_wp2_with (go_at_call 89; refine (HP.out _).mono ?_; rintro e w1 ⟨A, c, rfl, hb⟩)
  go_ret2
  exact ⟨rfl, ((Below.refl _ _).alloc (Nat.le_refl _) _).trans (hb.mono (by simp))⟩
theorem ask_any (x : Ac) (hx : x.ok) (w : World) : Calls Try.prog 62 #[.agg x.cells.toArray] w (SN w (askS x)) := by
  obtain ⟨h1, ⟨h2, h3⟩, _⟩ := hx
  unfold askS
  by_cases h : 0 ≤ x.flags ∧ x.flags ≤ 255
  · rw [if_pos h]
    obtain ⟨m, hm⟩ := Int.eq_ofNat_of_zero_le h.1
    have := ask_yes x m w h1 hm (by have := h.2; omega)
    rw [hm]
    exact this
  · rw [if_neg h]
    by_cases hl : x.flags < 0
    · exact ask_low x w hl h2
    · obtain ⟨m, hm⟩ := Int.eq_ofNat_of_zero_le (show 0 ≤ x.flags by omega)
      exact ask_high x m w hm (by omega) (by omega)

/-! ### what a list's elements are laid by -/
def optB (o : Option (List UInt8)) : List UInt8 × Bool := (o.getD [], o.isSome)
set_option maxHeartbeats 400000 in
theorem puta_any (x : Ac) (hx : x.ok) (w : World) : Calls Try.prog 61 #[.agg x.cells.toArray] w (SB w (optB (askB x))) := by
  have HA := hid (ask_any x hx)
  have hr : optB (askB x) = ((askS x).1, (askS x).2 == 0) := by
    unfold askB askS optB
    split <;> rfl
  rw [hr]
  clear hr
  obtain ⟨id, flags, deb, cre⟩ := x
  generalize askS _ = r at *
  obtain ⟨s, e⟩ := r
  have HA2 : Hid (∀ W : World, Calls Try.prog 62 #[.agg #[.int .u64 (id : Int), .int .i64 flags, .int .u64 (deb : Int), .int .u64 (cre : Int)]] W (SN W (s, e))) := hid HA.out
  clear HA
  show Calls Try.prog 61 #[.agg #[.int .u64 (id : Int), .int .i64 flags, .int .u64 (deb : Int), .int .u64 (cre : Int)]] w _
  go_enter Try.func61, Try.ntmps61
  go_wp2_with (go_at_call 62; refine (HA2.out _).mono ?_; rintro e1 w1 ⟨rfl, hb⟩)
  go_ret2
  exact ⟨rfl, ((Below.refl _ _).alloc (Nat.le_refl _) _).trans (hb.mono (by simp))⟩

set_option maxHeartbeats 400000 in
theorem puti_any (x : Nat) (hx : U64 x) (w : World) : Calls Try.prog 53 #[.int .u64 (x : Int)] w (SB w (optB (idB x))) := by
  have hl : leAll [x] = le x 8 := by simp [leAll]
  have HL := hid (fun W B A (hr : Rd W B A (rows Ic [x])) hB => lay_nums A [x] 1 1 B W hr rfl (by omega) (by omega) (by omega) (by intro y hy; simp at hy; subst hy; exact hx) hB)
  rw [hl] at HL
  have hE : optB (idB x) = (le x 8, true) := by unfold optB idB; simp only [Option.getD_some, Option.isSome_some]
  rw [hE]
  clear hE
  generalize le x 8 = E at *
  clear hl hx
  have HNW : Hid (∀ W : World, Rd (W.alloc (.cells #[.int .u64 (x : Int)] 41)) (W.heap.size + 1) (some ⟨W.heap.size, 0, none⟩) (rows Ic [x])) := hid fun W => Row.rd (cs := rows Ic [x]) (Row.new W 41 #[.int .u64 (x : Int)]) (Nat.lt_succ_self _)
  go_enter Try.func53, Try.ntmps53
  go_wp2_with (go_at_call 54; refine (HL.out _ _ _ (HNW.out _) (by simp)).mono ?_; rintro e1 w1 ⟨rfl, hb⟩)
  go_ret2
  exact ⟨rfl, ((Below.refl _ _).alloc (Nat.le_refl _) _).trans (hb.mono (by simp))⟩
end Go.Proofs.Ytbofabmgfkploaa
