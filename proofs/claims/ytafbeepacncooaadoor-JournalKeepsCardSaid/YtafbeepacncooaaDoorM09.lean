/-
  The walks of Chain, and of the document's Chain.
-/
import Derived.Test.YtafbeepacncooaaDoorM05
namespace Go.Proofs.YtafbeepacncooaaDoor
open Go.RowKit
set_option maxRecDepth 10000

theorem cs_calls (h : BitVec 64) (c : UInt8) (w : World) :
    Calls Tryd.prog 75 #[.int .u64 (h.toNat : Int), .int .u8 (c.toNat : Int)] w fun e w' => e = .returned (.int .u64 ((linkStep h c).toNat : Int)) ∧ w = w' := by
  have h1 : h.toNat < 18446744073709551616 := h.isLt
  have h2 : c.toNat < 256 := UInt8.toNat_lt c
  have HC := hid (link_code h c)
  go_enter Tryd.func75, Tryd.ntmps75
  go_wp2
  go_ret
  exact ⟨ret_int HC.out, rfl⟩
theorem orig_code (h : BitVec 64) : bits .xor .u64 (h.toNat : Int) 14695981039346656037 = ((h ^^^ orig).toNat : Int) := by
  have e : (14695981039346656037 : Int) = (orig.toNat : Int) := rfl
  rw [e, xor64]
theorem long8_len (n : Nat) : (long8 n).length = 8 := by simp [long8]
theorem long8_get (n j : Nat) (h : j < 8) : (long8 n)[j]? = some (UInt8.ofNat (n / 2 ^ (8 * j))) := by
  simp [long8, List.getElem?_range h]
theorem links_snoc (h : BitVec 64) (l : List UInt8) (k : Nat) (hk : k < l.length) : (l.take (k + 1)).foldl linkStep h = linkStep ((l.take k).foldl linkStep h) l[k] := by
  rw [List.take_succ_eq_append_getElem hk, List.foldl_append]
  rfl
theorem byte_code (n j : Nat) : ((n : Int) / 2 ^ (8 * j) % 256) = (((UInt8.ofNat (n / 2 ^ (8 * j))).toNat : Nat) : Int) := by
  simp
set_option maxHeartbeats 800000 in
theorem chain_calls (h : BitVec 64) (s : ByteArray) (w : World) (hs : s.size ≤ 1125899906842624) :
    Calls Tryd.prog 59 #[.int .u64 (h.toNat : Int), .string s] w fun e w' => e = .returned (.int .u64 ((chainOf h (sb s)).toNat : Int)) ∧ Below w.heap.size w w' := by
  have hx1 : h.toNat < 18446744073709551616 := h.isLt
  have HS := hid (sb_len s)
  have ho := orig_code h
  go_enter Tryd.func59, Tryd.ntmps59
  go_wp2_with (with_reducible refine wpl_bytes rfl _ _ _ rfl 5 Tryd.underlying9 Tryd.underlying96 Tryd.underlying5 s rfl ?_; intro g c k w2 HG HC HR HB)
  clear ho
  go_loop [0, 14] (fun r i => ∃ k : Nat, k ≤ s.size ∧ i = .int .i64 k ∧ r = .int .u64 ((((sb s).take k).foldl linkStep (h ^^^ orig)).toNat : Int)) (fun _ i => s.size - (intOf i).toNat)
  case atStart => exact ⟨0, by omega, rfl, rfl⟩
  case round =>
    obtain ⟨k, hk, rfl, rfl⟩ := hrel
    by_cases hlt : k < s.size
    · have hkl : k < (sb s).length := by rw [HS.out]; exact hlt
      have hc := HR.cell k
      rw [List.getElem?_append_left (by rw [bvs_len]; exact hkl)] at hc
      simp only [bvs, List.getElem?_map, List.getElem?_eq_getElem hkl, Option.map_some, bv] at hc
      have hstep := links_snoc (h ^^^ orig) (sb s) k hkl
      generalize hb : (sb s)[k] = b at hc hstep
      generalize hx : ((sb s).take k).foldl linkStep (h ^^^ orig) = r at hstep ⊢
      have h1 : r.toNat < 18446744073709551616 := r.isLt
      have h2 : b.toNat < 256 := UInt8.toNat_lt b
      have HST := hid hstep
      clear hb hx hstep
      go_wp2_with (go_at_call 75; refine (cs_calls _ _ _).mono ?_; rintro e w' ⟨rfl, rfl⟩)
      go_round
      case rel => exact ⟨k + 1, by omega, by go_num, by rw [HST.out]⟩
      case measure => simp [intOf]; omega
    · obtain rfl : k = s.size := by omega
      have hxt : (((sb s).take s.size).foldl linkStep (h ^^^ orig)) = (sb s).foldl linkStep (h ^^^ orig) := by rw [List.take_of_length_le (by rw [HS.out]; exact Nat.le_refl _)]
      rw [hxt]
      clear hxt
      generalize hq : (sb s).foldl linkStep (h ^^^ orig) = q
      have hq1 : q.toNat < 18446744073709551616 := q.isLt
      have HQ : Hid (chainOf h (sb s) = (long8 s.size).foldl linkStep q) := hid (by rw [chainOf, List.foldl_append, hq, HS.out])
      clear hq
      go_wp2_with fail
      go_loop [0, 25] (fun r i => ∃ k : Nat, k ≤ 8 ∧ i = .int .i64 k ∧ r = .int .u64 ((((long8 s.size).take k).foldl linkStep q).toNat : Int)) (fun _ i => 8 - (intOf i).toNat)
      case atStart => exact ⟨0, by omega, rfl, rfl⟩
      case round =>
        obtain ⟨j, hj, rfl, rfl⟩ := hrel
        by_cases hjl : j < 8
        · have hl8 : j < (long8 s.size).length := by rw [long8_len]; exact hjl
          have hstep := links_snoc q (long8 s.size) j hl8
          have hgt := long8_get s.size j hjl
          rw [List.getElem?_eq_getElem hl8] at hgt
          rw [Option.some.inj hgt] at hstep
          have hbc := byte_code s.size j
          generalize hx : ((long8 s.size).take j).foldl linkStep q = r at hstep ⊢
          generalize UInt8.ofNat (s.size / 2 ^ (8 * j)) = b at hbc hstep
          have h1 : r.toNat < 18446744073709551616 := r.isLt
          have HST := hid hstep
          have HBC := hid hbc
          clear hx hstep hgt hbc
          go_wp2_with (go_at_call 75; rw [HBC.out]; refine (cs_calls _ _ _).mono ?_; rintro e w' ⟨rfl, rfl⟩)
          go_round
          case rel => exact ⟨j + 1, by omega, by go_num, by rw [HST.out]⟩
          case measure => simp [intOf]; omega
        · obtain rfl : j = 8 := by omega
          have hxt : (((long8 s.size).take 8).foldl linkStep q) = (long8 s.size).foldl linkStep q := by rw [List.take_of_length_le (by rw [long8_len]; exact Nat.le_refl _)]
          rw [hxt, ← HQ.out]
          clear hxt
          generalize hz : chainOf h (sb s) = z
          have HZ := hid hz
          clear hz
          go_wp2_with fail
          go_ret
          exact ⟨by rw [HZ.out]; rfl, HB⟩
end Go.Proofs.YtafbeepacncooaaDoor
