/-
  The walk of DiskFuses.
-/
import Derived.Test.YtcnokhjehiamlaaTears
import Derived.Deep.LoopGhost
namespace Go.Proofs.Ytcnokhjehiamlaa
open Go.RowKit

/-- with a fuse of N at first: it burns; or the power went at the N-th call -/
structure FS (N : Nat) (S : Sp) : Prop where
  one : S.secs.length = 1
  run : (S.on = true ∧ 1 ≤ S.left ∧ S.left + S.count = N) ∨ (S.on = false ∧ S.count = N)
theorem FS.le {N : Nat} {S : Sp} (h : FS N S) : S.count ≤ N := by rcases h.run with ⟨_, _, h⟩ | ⟨_, h⟩ <;> omega
/-- how long it burns yet -/
def burn (S : Sp) : Nat := if S.on = true then S.left else 0

/-- what a call leaves -/
structure FN (N : Nat) (S S' : Sp) (x : Int) : Prop where
  fs : FS N S'
  ex : x = 0 ∨ x = 6
  off : x = 6 → S'.on = false
  way : S'.way.length + S.count ≤ S.way.length + S'.count
  less : S.on = true → burn S' < burn S
theorem fs_goes {N : Nat} {S : Sp} (h : FS N S) : FS N S.goes.1 ∧ (S.goes.2 = 0 ∨ S.goes.2 = 6) ∧ (S.goes.2 = 6 → S.goes.1.on = false) ∧ S.count ≤ S.goes.1.count ∧ (S.goes.2 = 0 → S.goes.1.count = S.count + 1) ∧ S.goes.1.way = S.way ∧ (S.on = true → burn S.goes.1 < burn S) := by
  rcases h.run with ⟨ho, hl, hc⟩ | ⟨ho, hc⟩
  · by_cases h1 : S.left = 1
    · rw [Sp.goes_one ho h1]
      exact ⟨⟨h.one, .inr ⟨rfl, by simp; omega⟩⟩, by simp, by simp, by simp, by simp, rfl, fun _ => by simp [burn, ho]; omega⟩
    · rw [Sp.goes_more ho h1]
      exact ⟨⟨h.one, .inl ⟨ho, by simp; omega, by simp; omega⟩⟩, by simp, by simp, by simp, by simp, rfl, fun _ => by simp [burn, ho]; omega⟩
  · rw [Sp.goes_off ho]
    exact ⟨h, by simp, fun _ => ho, by simp, by simp, rfl, fun h2 => by rw [ho] at h2; cases h2⟩
theorem fs_write {N : Nat} {S : Sp} (h : FS N S) (l : List UInt8) (hl : l.length = 384) : ∃ S' x, S.write 0 (sb ⟨l.toArray⟩) = (S', x) ∧ FN N S S' x := by
  obtain ⟨g1, g2, g3, g4, g5, g6, g7⟩ := fs_goes h
  rw [sb_str]
  unfold Sp.write
  rw [if_neg (by rintro (h1 | h1); exact h1 ⟨by omega, by rw [h.one]; omega⟩; exact h1 hl)]
  by_cases h0 : S.goes.2 = 0
  · rw [if_pos h0]
    refine ⟨_, _, rfl, ⟨⟨g1.one, g1.run⟩, .inl rfl, by simp, ?_, ?_⟩⟩
    · have := g5 h0
      simp only [List.length_append, List.length_cons, List.length_nil]
      omega
    · exact g7
  · rw [if_neg h0]
    refine ⟨S.goes.1, S.goes.2, rfl, ⟨g1, g2, g3, ?_, g7⟩⟩
    rw [g6]; omega
theorem fs_flush {N : Nat} {S : Sp} (h : FS N S) : ∃ S' x, S.flush = (S', x) ∧ FN N S S' x := by
  obtain ⟨g1, g2, g3, g4, g5, g6, g7⟩ := fs_goes h
  unfold Sp.flush
  by_cases h0 : S.goes.2 = 0
  · rw [if_pos h0]
    refine ⟨_, _, rfl, ⟨⟨by simp [sett_length, h.one], g1.run⟩, .inl rfl, by simp, ?_, ?_⟩⟩
    · simp only [List.length_nil]; omega
    · exact g7
  · rw [if_neg h0]
    refine ⟨S.goes.1, S.goes.2, rfl, ⟨g1, g2, g3, ?_, g7⟩⟩
    rw [g6]; omega

theorem and31 (n : Int) : ∃ k : Nat, bits .and .i64 n 31 = (k : Int) ∧ k ≤ 31 := by
  have h1 : ((BitVec.ofInt 64 n) &&& (BitVec.ofInt 64 31)).toNat ≤ 31 := by
    rw [BitVec.toNat_and]
    exact Nat.and_le_right
  refine ⟨((BitVec.ofInt 64 n) &&& (BitVec.ofInt 64 31)).toNat, ?_, h1⟩
  show IntKind.i64.wrap (((BitVec.ofInt 64 n) &&& (BitVec.ofInt 64 31)).toNat : Int) = _
  rw [IntKind.wrap_i64]
  omega
section
variable {B : Nat} {w0 w : World} {p gs : Nat} {S : Sp}
theorem dk_sector_nat (h : Dk B w0 w p gs S) (j : Nat) (hj : j ≤ 255) : Calls Try.prog 25 #[.int .u8 (j : Int)] w fun e w' => e = .returned (.string ⟨(b384 (UInt8.ofNat j)).toArray⟩) ∧ Dk B w0 w' p gs S := by
  have e : (j : Int) = ((UInt8.ofNat j).toNat : Int) := by simp; omega
  rw [e]
  exact dk_sector h _
end

set_option maxRecDepth 10000 in
set_option maxHeartbeats 1000000 in
theorem fuses_calls (n fl : Int) (w : World) : Calls Try.prog 6 #[.int .i64 n, .int .i64 fl] w (YF w) := by
  obtain ⟨k, hk, hk31⟩ := and31 n
  have hf1 : (Sp.mk0 1).fuse (1 + (k : Int)) = ({ Sp.mk0 1 with left := k + 1 }, 0) := by
    have e : (1 + (k : Int)).toNat = k + 1 := by omega
    show (({ Sp.mk0 1 with left := (1 + (k : Int)).toNat } : Sp), (0 : Int)) = _
    rw [e]
  have hfs : FS (k + 1) ({ Sp.mk0 1 with left := k + 1 } : Sp) := ⟨by simp [Sp.mk0], .inl ⟨rfl, by simp, by simp [Sp.mk0]⟩⟩
  obtain ⟨S1, hS1⟩ : ∃ S1, ({ Sp.mk0 1 with left := k + 1 } : Sp) = S1 := ⟨_, rfl⟩
  rw [hS1] at hf1 hfs
  have HF := hid hf1
  have HS := hid hfs
  clear hf1 hfs hS1
  go_enter Try.func6, Try.ntmps6
  go_wp2_with (first
    | (go_at_call 9; refine (awake_calls _).mono ?_; rintro e wa ⟨rfl, hf0⟩)
    | (go_at_call 10; refine (dk_new 1 _ (by omega) (by omega)).mono ?_; rintro e w1 ⟨p, gs, rfl, h1⟩; unfold dptr)
    | (go_at_call 29; refine (dk_fuse (S := Sp.mk0 1) (by with_reducible assumption) _ (by omega) HF.out).mono ?_; rintro e w2 ⟨rfl, h2⟩))
  have hb31 : ∀ j : Nat, ∃ q : Nat, bits .and .i64 (j : Int) 31 = (q : Int) ∧ q ≤ 31 := fun j => and31 j
  have HB31 := hid hb31
  have H0 := hid hf0
  clear hb31 hf0 h1
  go_loopw [7] (fun i wr => ∃ j S, 1 ≤ j ∧ j ≤ k + 1 ∧ i = .int .i64 (j : Nat) ∧ Dk wa.heap.size wa wr p gs S ∧ FS (k + 1) S) (fun i _ => k + 1 - (intOf i).toNat)
  case atStart => exact ⟨1, S1, by omega, by omega, rfl, h2, HS.out⟩
  case round =>
    obtain ⟨j, S, hj1, hj2, rfl, hd, hfs⟩ := hrel
    have hcnt := hfs.le
    by_cases hlt : j < k + 1
    · obtain ⟨q, hq, hq31⟩ := HB31.out j
      obtain ⟨S2, x2, hr2, hn2⟩ := fs_flush hfs
      obtain ⟨S3, x3, hr3, hn3⟩ := fs_write hn2.fs (b384 (UInt8.ofNat j)) (b384_len _)
      have hcnt2 := hn2.fs.le
      have hc1 : S.count ≤ 1048576 := by omega
      have hc2 : S2.count ≤ 1048576 := by omega
      have o2 : x2 = 0 ∨ (x2 = 6 ∧ S2.on = false ∧ S2.count = k + 1) := by
        rcases hn2.ex with h | h
        · exact .inl h
        · refine .inr ⟨h, hn2.off h, ?_⟩
          rcases hn2.fs.run with ⟨h', _⟩ | ⟨_, h'⟩
          · rw [hn2.off h] at h'; cases h'
          · exact h'
      have o3 : x3 = 0 ∨ (x3 = 6 ∧ S3.on = false ∧ S3.count = k + 1) := by
        rcases hn3.ex with h | h
        · exact .inl h
        · refine .inr ⟨h, hn3.off h, ?_⟩
          rcases hn3.fs.run with ⟨h', _⟩ | ⟨_, h'⟩
          · rw [hn3.off h] at h'; cases h'
          · exact h'
      have HR2 := hid hr2
      have HR3 := hid hr3
      have HN2 := hid hn2.fs
      have HN3 := hid hn3.fs
      clear hr2 hr3 hn2 hn3 hcnt2
      have hjk : (j : Int) < 1 + (k : Int) := by omega
      have hkk : ((k : Int) + 1 == 1 + (k : Int)) = true := by simp; omega
      rcases o2 with rfl | ⟨rfl, on2, cn2⟩ <;> rcases o3 with rfl | ⟨rfl, on3, cn3⟩
      all_goals go_wp2_with (first
        | (go_at_call 26; refine (dk_flush (S := S) (by with_reducible assumption) hc1 HR2.out).mono ?_; rintro e w3 ⟨rfl, h3⟩)
        | (go_at_call 25; refine (dk_sector_nat (by with_reducible assumption) j (by omega)).mono ?_; rintro e w4 ⟨rfl, h4⟩)
        | (go_at_call 24; refine (dk_write (S := S2) (by with_reducible assumption) hc2 0 _ HR3.out).mono ?_; rintro e w5 ⟨rfl, h5⟩)
        | (go_at_call 14; refine (dk_on (by with_reducible assumption) on3).mono ?_; rintro e w6 ⟨rfl, rfl⟩)
        | (go_at_call 14; refine (dk_on (by with_reducible assumption) on2).mono ?_; rintro e w6 ⟨rfl, rfl⟩)
        | (go_at_call 16; refine (dk_steps (S := S3) (by with_reducible assumption)).mono ?_; rintro e w7 ⟨rfl, rfl⟩)
        | (go_at_call 16; refine (dk_steps (S := S2) (by with_reducible assumption)).mono ?_; rintro e w7 ⟨rfl, rfl⟩))
      all_goals first
        | (go_ret; exact ⟨by first | rfl | simp, H0.out.trans (Dk.frame (by with_reducible assumption)) (by simp)⟩)
        | (refine ⟨⟨j + 1, S3, by omega, by omega, by go_num, by with_reducible assumption, HN3.out⟩, by simp [intOf]; omega⟩)
        | (refine ⟨⟨j + 1, S2, by omega, by omega, by go_num, by with_reducible assumption, HN2.out⟩, by simp [intOf]; omega⟩)
    · obtain rfl : j = k + 1 := by omega
      have hjk : ¬ ((k + 1 : Nat) : Int) < 1 + (k : Int) := by omega
      have hjd : decide (((k + 1 : Nat) : Int) < 1 + (k : Int)) = false := by simp; omega
      have hkk : ((k : Int) + 1 == 1 + (k : Int)) = true := by simp; omega
      rcases hfs.run with ⟨on1, hl1, hc1⟩ | ⟨on1, hc1⟩
      · have hwl := hd.wf.less
        have HS2 := hid hfs
        have HL1 := hid hl1
        have HC1 := hid hc1
        clear hl1 hc1 hfs
        go_wp2_with (first
          | (go_at_call 15; refine (dk_pending (S := S) (by with_reducible assumption)).mono ?_; rintro e w6 ⟨rfl, rfl⟩)
          | (go_at_call 14; refine (dk_on (by with_reducible assumption) on1).mono ?_; rintro e w6 ⟨rfl, rfl⟩))
        go_loopg [] (burn S) (fun b wr => ∃ S2, Dk wa.heap.size wa wr p gs S2 ∧ FS (k + 1) S2 ∧ S2.way.length ≤ S.way.length + S2.count ∧ burn S2 = b)
        case atStart => exact ⟨S, hd, HS2.out, by omega, rfl⟩
        case round =>
          obtain ⟨S2, hd2, hfs2, hw2, hb2⟩ := hrel
          rcases hfs2.run with ⟨on2, hl2, hc2⟩ | ⟨on2, hc2⟩
          · obtain ⟨S3, x3, hr3, hn3⟩ := fs_write hfs2 (b384 1) (b384_len _)
            have HR3 := hid hr3
            have HN3 := hid hn3
            have HB2 := hid hb2
            have hcc : S2.count ≤ 1048576 := by omega
            have hlt2 : (S2.count : Int) < 2 * (1 + (k : Int)) + 2 := by omega
            clear hr3 hn3 hb2
            go_wp2_with (first
              | (go_at_call 14; refine (dk_on (by with_reducible assumption) on2).mono ?_; rintro e w8 ⟨rfl, rfl⟩)
              | (go_at_call 16; refine (dk_steps (S := S2) (by with_reducible assumption)).mono ?_; rintro e w8 ⟨rfl, rfl⟩)
              | (go_at_call 25; refine (dk_sector (S := S2) (by with_reducible assumption) 1).mono ?_; rintro e w8 ⟨rfl, h8⟩)
              | (go_at_call 24; refine (dk_write (S := S2) (by with_reducible assumption) hcc 0 _ HR3.out).mono ?_; rintro e w9 ⟨rfl, h9⟩))
            go_roundg (burn S3)
            case measure => rw [← HB2.out]; exact HN3.out.less on2
            case rel => exact ⟨S3, by with_reducible assumption, HN3.out.fs, by have := HN3.out.way; omega, rfl⟩
          · have hfin : ((S2.way.length : Nat) : Int) ≤ (S.way.length : Int) + (1 + (k : Int)) := by omega
            clear hb2
            go_wp2_with (first
              | (go_at_call 14; refine (dk_on (by with_reducible assumption) on2).mono ?_; rintro e w8 ⟨rfl, rfl⟩)
              | (go_at_call 16; refine (dk_steps (S := S2) (by with_reducible assumption)).mono ?_; rintro e w8 ⟨rfl, rfl⟩)
              | (go_at_call 15; refine (dk_pending (S := S2) (by with_reducible assumption)).mono ?_; rintro e w8 ⟨rfl, rfl⟩))
            go_ret
            exact ⟨by first | rfl | simp, H0.out.trans (Dk.frame (by with_reducible assumption)) (by simp)⟩
      · go_wp2_with (first
          | (go_at_call 15; refine (dk_pending (S := S) (by with_reducible assumption)).mono ?_; rintro e w6 ⟨rfl, rfl⟩)
          | (go_at_call 14; refine (dk_on (by with_reducible assumption) on1).mono ?_; rintro e w6 ⟨rfl, rfl⟩)
          | (go_at_call 16; refine (dk_steps (S := S) (by with_reducible assumption)).mono ?_; rintro e w7 ⟨rfl, rfl⟩))
        go_ret
        exact ⟨by first | rfl | simp, H0.out.trans (Dk.frame (by with_reducible assumption)) (by simp)⟩
end Go.Proofs.Ytcnokhjehiamlaa
