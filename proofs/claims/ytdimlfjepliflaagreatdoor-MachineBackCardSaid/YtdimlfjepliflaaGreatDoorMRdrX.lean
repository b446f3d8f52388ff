/-
  The walks of package machine's reader.
-/
import Derived.Test.YtdimlfjepliflaaGreatDoorD22
import Derived.Test.YtdimlfjepliflaaGreatDoorD18
import Derived.Test.YtdimlfjepliflaaGreatDoorD20
import Derived.Test.YtdimlfjepliflaaGreatDoorLiftX
import Derived.Test.YtdimlfjepliflaaGreatDoorEvX
import Derived.Test.YtdimlfjepliflaaGreatDoorWholepX
import Derived.Test.YtdimlfjepliflaaGreatDoorLgX
import Derived.Test.YtdimlfjepliflaaGreatDoorHubX
import Derived.Test.YtdimlfjepliflaaGreatDoorSkX
import Derived.Test.YtdimlfjepliflaaGreatDoorSTtextX
import Derived.Test.YtdimlfjepliflaaGreatDoorTkallX
import Derived.Test.YtdimlfjepliflaaGreatDoorUnpkX
import Derived.Test.YtdimlfjepliflaaGreatDoorSTbX
import Derived.Test.YtdimlfjepliflaaGreatDoorSTkeX
import Derived.Test.YtdimlfjepliflaaGreatDoorSUnpX
import Derived.Test.YtdimlfjepliflaaGreatDoorEKdX
import Derived.Test.YtdimlfjepliflaaGreatDoorMMaX
import Derived.Test.YtdimlfjepliflaaGreatDoorMHmX
namespace Go.Proofs.YtdimlfjepliflaaGreatDoor
open Go.RowKit
set_option maxRecDepth 10000

/-- a reader at p over the bytes r -/
def Rdr (w : World) (p : Nat) (r : List UInt8) : Prop := Row w p 100 [.string ⟨r.toArray⟩, .bool false]
/-- v was read off; r is left -/
def RG (p : Nat) (v : Value) (r : List UInt8) (w : World) (e : Ending) (w' : World) : Prop := e = .returned v ∧ Rdr w' p r ∧ Fr w w' [p]
theorem ext_fst (a b : List UInt8) : (⟨(a ++ b).toArray⟩ : ByteArray).extract 0 a.length = ⟨a.toArray⟩ := by
  rw [← mk_sb ((⟨(a ++ b).toArray⟩ : ByteArray).extract 0 a.length), sb_extract, sb_mk]
  simp
theorem ext_snd (a b : List UInt8) : (⟨(a ++ b).toArray⟩ : ByteArray).extract a.length (⟨(a ++ b).toArray⟩ : ByteArray).size = ⟨b.toArray⟩ := by
  rw [← mk_sb ((⟨(a ++ b).toArray⟩ : ByteArray).extract a.length _), sb_extract, sb_mk, ← sb_len, sb_mk]
  simp
set_option maxHeartbeats 1000000 in
theorem rdb_any (p : Nat) (a b : List UInt8) (w : World) (h : Rdr w p (a ++ b)) (hs : (a ++ b).length ≤ 100000) :
    Calls Tryz.prog 96 #[.pointer (some ⟨p, 0, none⟩), .int .i64 (a.length : Int)] w (RG p (.string ⟨a.toArray⟩) b w) := by
  have h1 := ext_fst a b
  have h2 := ext_snd a b
  have hsz : (⟨(a ++ b).toArray⟩ : ByteArray).size = (a ++ b).length := by rw [← sb_len, sb_mk]
  have hal : a.length ≤ (a ++ b).length := by simp
  unfold RG
  unfold Rdr at *
  generalize (⟨(a ++ b).toArray⟩ : ByteArray) = s at *
  generalize (⟨a.toArray⟩ : ByteArray) = x at *
  generalize (⟨b.toArray⟩ : ByteArray) = y at *
  generalize a.length = k at *
  have hsz2 : s.size ≤ 100000 := by omega
  have hgt : ¬ ((s.size : Int) < (k : Int)) := by omega
  have hk0 : (0 : Int) ≤ (k : Int) := by omega
  have hk1 : (k : Int) ≤ (s.size : Int) := by omega
  have hk2 : k ≤ s.size := by omega
  have hc0 := h.at_ 0 _ rfl
  have HR := hid h
  clear h hsz hal hs
  go_enter Tryz.func96, Tryz.ntmps96
  go_wp2_with (refine wpl_store_c rfl 9 (.tmp 30) (.tmp 28) rfl p 0 (.string y) rfl rfl HR.out sizeStr ?_ (hid (by simp)) (hid rfl); intro w2 hr2 hg2)
  go_ret
  exact ⟨rfl, hr2, (Fr.refl w [p]).grown hg2 (fun k hk => .inl (by cases hk; simp))⟩
theorem acc_of (k n : Nat) (hn : n < 2 ^ (8 * k)) : acc (le n k) k = n := by
  rw [acc_take, List.take_of_length_le (by rw [le_len]; exact Nat.le_refl _), leV_le, Nat.mod_eq_of_lt hn]
set_option maxHeartbeats 2000000 in
theorem rnum_any (p k n : Nat) (b : List UInt8) (w : World) (h : Rdr w p (le n k ++ b)) (hk : k ≤ 8) (hn : n < 2 ^ (8 * k)) (hs : (le n k ++ b).length ≤ 100000) :
    Calls Tryz.prog 58 #[.pointer (some ⟨p, 0, none⟩), .int .i64 (k : Int)] w (RG p (.int .u64 (n : Int)) b w) := by
  have hl := le_len k n
  have HB := hid (fun W (hW : Rdr W p (le n k ++ b)) => rdb_any p (le n k) b W hW hs)
  rw [hl] at HB
  have ha := acc_of k n hn
  have HST := hid (fun j (hj : j < 8) => acc_step (le n k) j hj)
  have HFR : Hid (∀ W g c (z : Value), FRow W g 5 (bvs (sb (⟨(le n k).toArray⟩ : ByteArray)) ++ List.replicate c z) → Rd W (g + 1) (some ⟨g, 0, none⟩) (bvs (le n k))) := hid (by
    intro W g c z h
    rw [sb_mk] at h
    exact h.rdb (Nat.lt_succ_self _))
  have hsl : (⟨(le n k).toArray⟩ : ByteArray).size = k := by rw [← sb_len, sb_mk, hl]
  have hA0 : acc (le n k) 0 = 0 := rfl
  have hd0 : True := trivial
  have HCL : Hid (∀ g j W, j < k → Rd W (g + 1) (some ⟨g, 0, none⟩) (bvs (le n k)) → W.cell? ⟨g, j, none⟩ = some (.int .u8 ((tb (le n k) j : Nat) : Int))) := hid (by
    intro g j W hj hr
    obtain ⟨g', o, e, _, hx⟩ := Rd.at_ hr (j := j) (by rw [bvs_len, hl]; exact hj)
    cases e
    have := hx
    simpa [bvs, bv, tb, hl, hj] using hx)
  have HH := hid h
  have HD := hid hd0
  have HN := hid ha
  have HA0 := hid hA0
  generalize acc (le n k) = AC at *
  generalize tb (le n k) = TB at *
  generalize (⟨(le n k).toArray⟩ : ByteArray) = x at *
  generalize le n k = L at *
  subst hsl
  have hxs : x.size ≤ 8 := hk
  clear h hs hn ha hA0 hl hd0
  go_enter Tryz.func58, Tryz.ntmps58
  go_wp2_with (first
    | (go_at_call 96; refine (HB.out _ HH.out).mono ?_; rintro e w2 ⟨rfl, hr2, hb2⟩; have HR2 := hid hr2; have HB2 := hid hb2; clear hr2 hb2)
    | (refine wpl_bytes rfl (.tmp 10) 9 93 rfl 5 Tryz.underlying9 Tryz.underlying93 Tryz.underlying5 x rfl ?_; intro g c k1 w3 hg3 hc3 hr3 hb3; have HRD := hid (HFR.out _ _ _ _ hr3); have HB3 := hid hb3; clear hr3 hb3 hg3))
  have HCC := hid (fun j (hj : j < x.size) => show w3.cell? ⟨g, j, none⟩ = some (.int .u8 ((TB j : Nat) : Int)) from (HCL.out g j w3 hj HRD.out))
  go_loop [5, 6, 7, 13] (fun v _ _ i => ∃ k : Nat, k ≤ x.size ∧ i = .int .i64 k ∧ v = .int .u64 ((AC k : Nat) : Int)) (fun _ _ _ i => x.size - (intOf i).toNat)
  case atStart => exact ⟨0, by omega, rfl, by rw [HA0.out]; rfl⟩
  case round =>
    obtain ⟨k, hk, rfl, rfl⟩ := hrel
    by_cases hlt : k < x.size
    · have hcc := HCC.out k hlt
      have hi0 : (0 : Int) ≤ (k : Int) := by omega
      have hi1 : (k : Int) < (x.size : Int) := by omega
      go_wp2_with fail
      go_roundw
      case rel => exact ⟨k + 1, by omega, by go_num, by rw [HST.out k (by omega)]⟩
      case measure => simp [intOf]; omega
    · obtain rfl : k = x.size := by omega
      go_wp2_with fail
      go_ret
      rw [HN.out]
      exact ⟨rfl, HR2.out.below HB3.out HR2.out.lt, HB2.out.trans (Fr.of_below HB3.out) (by simp)⟩
set_option maxHeartbeats 1000000 in
theorem rtext_any (p : Nat) (a b : List UInt8) (w : World) (h : Rdr w p (txt a ++ b)) (ha : a.length ≤ 65535) (hs : (txt a ++ b).length ≤ 100000) :
    Calls Tryz.prog 60 #[.pointer (some ⟨p, 0, none⟩)] w (RG p (.string ⟨a.toArray⟩) b w) := by
  have e : txt a ++ b = le a.length 2 ++ (a ++ b) := by simp [txt, List.append_assoc]
  rw [e] at h hs
  have hs2 : (a ++ b).length ≤ 100000 := by rw [List.length_append] at hs; omega
  have HN : Hid (Calls Tryz.prog 58 #[.pointer (some ⟨p, 0, none⟩), .int .i64 2] w (RG p (.int .u64 (a.length : Int)) (a ++ b) w)) := hid (rnum_any p 2 a.length (a ++ b) w h (by omega) (by omega) hs)
  have HB := hid (fun W (hW : Rdr W p (a ++ b)) => rdb_any p a b W hW hs2)
  have hw : wrap64 (a.length : Int) = (a.length : Int) := IntWalk.wrap64_in _ ⟨by omega, by omega⟩
  generalize a ++ b = l at *
  generalize (⟨a.toArray⟩ : ByteArray) = x at *
  generalize a.length = k at *
  clear h hs hs2 e ha
  go_enter Tryz.func60, Tryz.ntmps60
  go_wp2_with (first
    | (go_at_call 58; refine HN.out.mono ?_; rintro e w2 ⟨rfl, hr2, hb2⟩; have HR2 := hid hr2; have HB2 := hid hb2; clear hr2 hb2)
    | (go_at_call 96; refine (HB.out _ HR2.out).mono ?_; rintro e w3 ⟨rfl, hr3, hb3⟩))
  go_ret
  exact ⟨rfl, hr3, HB2.out.trans hb3 (fun _ h _ => h)⟩
end Go.Proofs.YtdimlfjepliflaaGreatDoor
