/-
  The walks of Chain, and of the document's Chain.
-/
import Derived.Test.YtknalgobndbngaaDoorRadd
namespace Go.Proofs.YtknalgobndbngaaDoor
open Go.RowKit
set_option maxRecDepth 10000

theorem cs_calls (h : BitVec 64) (c : UInt8) (w : World) :
    Calls Tryd.prog 41 #[.int .u64 (h.toNat : Int), .int .u8 (c.toNat : Int)] w fun e w' => e = .returned (.int .u64 ((linkStep h c).toNat : Int)) ∧ w = w' := by
  have h1 : h.toNat < 18446744073709551616 := h.isLt
  have h2 : c.toNat < 256 := UInt8.toNat_lt c
  have HC := hid (link_code h c)
  go_enter Tryd.func41, Tryd.ntmps41
  go_wp2
  go_ret
  exact ⟨ret_int HC.out, rfl⟩

theorem orig_code (h : BitVec 64) : bits .xor .u64 (h.toNat : Int) 14695981039346656037 = ((h ^^^ orig).toNat : Int) := by
  have e : (14695981039346656037 : Int) = (orig.toNat : Int) := rfl
  rw [e, xor64]
theorem long8_len (n : Nat) : (long8 n).length = 8 := by simp [long8]
theorem long8_get (n j : Nat) (h : j < 8) : (long8 n)[j]? = some (UInt8.ofNat (n / 2 ^ (8 * j))) := by
  simp [long8, List.getElem?_range h]
theorem links_snoc (h : BitVec 64) (l : List UInt8) (k : Nat) (hk : k < l.length) : (l.take (k + 1)).foldl linkStep h = linkStep ((l.take k).foldl linkStep h) l[k] := by
  rw [List.take_succ_eq_append_getElem hk, List.foldl_append]
  rfl
theorem byte_code (n j : Nat) : ((n : Int) / 2 ^ (8 * j) % 256) = (((UInt8.ofNat (n / 2 ^ (8 * j))).toNat : Nat) : Int) := by
  simp

set_option maxHeartbeats 800000 in
theorem chain_calls (h : BitVec 64) (s : ByteArray) (w : World) (hs : s.size ≤ 1125899906842624) :
    Calls Tryd.prog 28 #[.int .u64 (h.toNat : Int), .string s] w fun e w' => e = .returned (.int .u64 ((chainOf h (sb s)).toNat : Int)) ∧ Below w.heap.size w w' := by
  have hx1 : h.toNat < 18446744073709551616 := h.isLt
  have HS := hid (sb_len s)
  have ho := orig_code h
  go_enter Tryd.func28, Tryd.ntmps28
  go_wp2_with (with_reducible refine wpl_bytes rfl _ _ _ rfl 5 Tryd.underlying9 Tryd.underlying34 Tryd.underlying5 s rfl ?_; intro g c k w2 HG HC HR HB)
  clear ho
  go_loop [0, 14] (fun r i => ∃ k : Nat, k ≤ s.size ∧ i = .int .i64 k ∧ r = .int .u64 ((((sb s).take k).foldl linkStep (h ^^^ orig)).toNat : Int)) (fun _ i => s.size - (intOf i).toNat)
  case atStart => exact ⟨0, by omega, rfl, rfl⟩
  case round =>
    obtain ⟨k, hk, rfl, rfl⟩ := hrel
    by_cases hlt : k < s.size
    · have hkl : k < (sb s).length := by rw [HS.out]; exact hlt
      have hc := HR.cell k
      rw [List.getElem?_append_left (by rw [bvs_len]; exact hkl)] at hc
      simp only [bvs, List.getElem?_map, List.getElem?_eq_getElem hkl, Option.map_some, bv] at hc
      have hstep := links_snoc (h ^^^ orig) (sb s) k hkl
      generalize hb : (sb s)[k] = b at hc hstep
      generalize hx : ((sb s).take k).foldl linkStep (h ^^^ orig) = r at hstep ⊢
      have h1 : r.toNat < 18446744073709551616 := r.isLt
      have h2 : b.toNat < 256 := UInt8.toNat_lt b
      have HST := hid hstep
      clear hb hx hstep
      go_wp2_with (go_at_call 41; refine (cs_calls _ _ _).mono ?_; rintro e w' ⟨rfl, rfl⟩)
      go_round
      case rel => exact ⟨k + 1, by omega, by go_num, by rw [HST.out]⟩
      case measure => simp [intOf]; omega
    · obtain rfl : k = s.size := by omega
      have hxt : (((sb s).take s.size).foldl linkStep (h ^^^ orig)) = (sb s).foldl linkStep (h ^^^ orig) := by rw [List.take_of_length_le (by rw [HS.out]; exact Nat.le_refl _)]
      rw [hxt]
      clear hxt
      generalize hq : (sb s).foldl linkStep (h ^^^ orig) = q
      have hq1 : q.toNat < 18446744073709551616 := q.isLt
      have HQ : Hid (chainOf h (sb s) = (long8 s.size).foldl linkStep q) := hid (by rw [chainOf, List.foldl_append, hq, HS.out])
      clear hq
      go_wp2_with fail
      go_loop [0, 25] (fun r i => ∃ k : Nat, k ≤ 8 ∧ i = .int .i64 k ∧ r = .int .u64 ((((long8 s.size).take k).foldl linkStep q).toNat : Int)) (fun _ i => 8 - (intOf i).toNat)
      case atStart => exact ⟨0, by omega, rfl, rfl⟩
      case round =>
        obtain ⟨j, hj, rfl, rfl⟩ := hrel
        by_cases hjl : j < 8
        · have hl8 : j < (long8 s.size).length := by rw [long8_len]; exact hjl
          have hstep := links_snoc q (long8 s.size) j hl8
          have hgt := long8_get s.size j hjl
          rw [List.getElem?_eq_getElem hl8] at hgt
          rw [Option.some.inj hgt] at hstep
          have hbc := byte_code s.size j
          generalize hx : ((long8 s.size).take j).foldl linkStep q = r at hstep ⊢
          generalize UInt8.ofNat (s.size / 2 ^ (8 * j)) = b at hbc hstep
          have h1 : r.toNat < 18446744073709551616 := r.isLt
          have HST := hid hstep
          have HBC := hid hbc
          clear hx hstep hgt hbc
          go_wp2_with (go_at_call 41; rw [HBC.out]; refine (cs_calls _ _ _).mono ?_; rintro e w' ⟨rfl, rfl⟩)
          go_round
          case rel => exact ⟨j + 1, by omega, by go_num, by rw [HST.out]⟩
          case measure => simp [intOf]; omega
        · obtain rfl : j = 8 := by omega
          have hxt : (((long8 s.size).take 8).foldl linkStep q) = (long8 s.size).foldl linkStep q := by rw [List.take_of_length_le (by rw [long8_len]; exact Nat.le_refl _)]
          rw [hxt, ← HQ.out]
          clear hxt
          generalize hz : chainOf h (sb s) = z
          have HZ := hid hz
          clear hz
          go_wp2_with fail
          go_ret
          exact ⟨by rw [HZ.out]; rfl, HB⟩

theorem wrap_tdiv (x : Int) : IntKind.u64.wrap ((IntKind.u64.wrap x).tdiv 536870912) = IntKind.u64.wrap x / 536870912 := by
  have h : 0 ≤ IntKind.u64.wrap x ∧ IntKind.u64.wrap x < 18446744073709551616 := by
    simp [IntKind.wrap, IntKind.bits, IntKind.signed]
    omega
  rw [Int.tdiv_eq_ediv_of_nonneg h.1]
  exact IntWalk.u64_in _ ⟨by omega, by omega⟩
theorem mod_code (n : Nat) : ((n : Int) % 256) = (((UInt8.ofNat n).toNat : Nat) : Int) := by simp

set_option maxHeartbeats 800000 in
theorem rchain_calls (h : BitVec 64) (s : ByteArray) (w : World) (hs : s.size ≤ 1125899906842624) :
    Calls Tryd.prog 29 #[.int .u64 (h.toNat : Int), .string s] w fun e w' => e = .returned (.int .u64 ((chainOf h (sb s)).toNat : Int)) ∧ w = w' := by
  have hx1 : h.toNat < 18446744073709551616 := h.isLt
  have HS := hid (sb_len s)
  have ho := orig_code h
  go_enter Tryd.func29, Tryd.ntmps29
  go_wp2_with fail
  clear ho
  go_loop [0, 5, 6] (fun r m i => ∃ k : Nat, k ≤ s.size + 8 ∧ i = .int .i64 k ∧ m = .int .u64 ((s.size / 2 ^ (8 * (k - s.size)) : Nat) : Int) ∧ r = .int .u64 ((((sb s ++ long8 s.size).take k).foldl linkStep (h ^^^ orig)).toNat : Int)) (fun _ _ i => s.size + 8 - (intOf i).toNat)
  case atStart => exact ⟨0, by omega, rfl, by simp, rfl⟩
  case round =>
    obtain ⟨k, hk, rfl, rfl, rfl⟩ := hrel
    have hdl : s.size / 2 ^ (8 * (k - s.size)) ≤ s.size := Nat.div_le_self _ _
    by_cases hlt : k < s.size
    · have hkl : k < (sb s).length := by rw [HS.out]; exact hlt
      have hkl2 : k < (sb s ++ long8 s.size).length := by rw [List.length_append]; omega
      have hstep := links_snoc (h ^^^ orig) (sb s ++ long8 s.size) k hkl2
      rw [List.getElem_append_left hkl, show (sb s)[k] = s[k]'hlt from rfl] at hstep
      have hm : s.size / 2 ^ (8 * (k + 1 - s.size)) = s.size / 2 ^ (8 * (k - s.size)) := by rw [show k + 1 - s.size = k - s.size by omega]
      generalize s.size / 2 ^ (8 * (k - s.size)) = m at hdl hm ⊢
      generalize hx : ((sb s ++ long8 s.size).take k).foldl linkStep (h ^^^ orig) = r at hstep ⊢
      have h1 : r.toNat < 18446744073709551616 := r.isLt
      have h2 : (s[k]'hlt).toNat < 256 := UInt8.toNat_lt _
      have HST := hid hstep
      have HM := hid hm
      have HLC := hid (link_code r (s[k]'hlt))
      have hlt2 : (k : Int) < s.size + 8 := by omega
      clear hx hstep hm
      go_wp2_with fail
      go_round
      case rel => exact ⟨k + 1, by omega, by go_num, by rw [HM.out], by rw [HST.out, wrap_tdiv, HLC.out]⟩
      case measure => simp [intOf]; omega
    · by_cases hlt8 : k < s.size + 8
      · have hl8 : k - (sb s).length < (long8 s.size).length := by rw [long8_len, HS.out]; omega
        have hkl2 : k < (sb s ++ long8 s.size).length := by rw [List.length_append, long8_len, HS.out]; omega
        have hstep := links_snoc (h ^^^ orig) (sb s ++ long8 s.size) k hkl2
        have hgt := long8_get s.size (k - (sb s).length) (by rw [HS.out]; omega)
        rw [List.getElem?_eq_getElem hl8] at hgt
        rw [List.getElem_append_right (by rw [HS.out]; omega), Option.some.inj hgt, HS.out] at hstep
        have hm : s.size / 2 ^ (8 * (k + 1 - s.size)) = s.size / 2 ^ (8 * (k - s.size)) / 256 := by
          rw [show k + 1 - s.size = (k - s.size) + 1 by omega, Nat.mul_add, Nat.pow_add, ← Nat.div_div_eq_div_mul]
        generalize s.size / 2 ^ (8 * (k - s.size)) = m at hdl hm hstep ⊢
        generalize hx : ((sb s ++ long8 s.size).take k).foldl linkStep (h ^^^ orig) = r at hstep ⊢
        have h1 : r.toNat < 18446744073709551616 := r.isLt
        have HST := hid hstep
        have HM := hid hm
        have hlc := link_code r (UInt8.ofNat m)
        rw [← mod_code] at hlc
        have HLC := hid hlc
        have hlt2 : (k : Int) < s.size + 8 := by omega
        clear hx hstep hm hgt hlc hl8 hkl2
        go_wp2_with fail
        go_round
        case rel => exact ⟨k + 1, by omega, by go_num, by rw [HM.out]; simp, by rw [HST.out, wrap_tdiv, HLC.out]⟩
        case measure => simp [intOf]; omega
      · obtain rfl : k = s.size + 8 := by omega
        have hxt : ((sb s ++ long8 s.size).take (s.size + 8)).foldl linkStep (h ^^^ orig) = chainOf h (sb s) := by
          rw [List.take_of_length_le (by rw [List.length_append, long8_len, HS.out]; exact Nat.le_refl _), chainOf, HS.out]
        rw [hxt]
        generalize s.size / 2 ^ (8 * (s.size + 8 - s.size)) = m at hdl ⊢
        clear hxt
        generalize hz : chainOf h (sb s) = z
        have HZ := hid hz
        clear hz
        go_wp2_with fail
        go_ret
        exact ⟨by rw [HZ.out]; rfl, rfl⟩
end Go.Proofs.YtknalgobndbngaaDoor
