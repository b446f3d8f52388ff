/-
  The laws' awake.
-/
import Derived.Test.YtcildaeiogdfdaaGreatDoorZ31
import Derived.Test.YtcildaeiogdfdaaGreatDoorZ25
import Derived.Test.YtcildaeiogdfdaaGreatDoorZ12
namespace Go.Proofs.YtcildaeiogdfdaaGreatDoor
open Go.RowKit
set_option maxRecDepth 10000

def k1P : Ms := ⟨3, 0, 2, 0, 5, 0, 0, 0, 0, 0, 0, 0, mk0, z6, en0, [], [], ⟨#[]⟩⟩
def k2P : Ms := ⟨3, 0, 2, 0, 5, 1, 0, 0, 0, 0, 0, 0, mk0, z6, en0, [], [], ⟨#[]⟩⟩
def q0P : Pl := ⟨none, 0, none, 0⟩
theorem k1_fits : k1P.fits := by
  unfold k1P Ms.fits Mk.fits En.fits mk0 en0 z6 In64
  simp
theorem k2_fits : k2P.fits := by
  unfold k2P Ms.fits Mk.fits En.fits mk0 en0 z6 In64
  simp
theorem k1_right : rightM k1P := by decide
theorem k2_not : ¬ rightM k2P := by decide
theorem k1_enc : ∃ T : ByteArray, T.size = 128 ∧ encM k1P = (sb T, 0) := by
  have h := enc_yes k1_fits k1_right
  refine ⟨⟨(encM k1P).1.toArray⟩, ?_, ?_⟩
  · rw [← sb_len, sb_mk, h, List.length_append, headB_len]
    rfl
  · rw [sb_mk, h]
theorem plq0 (W : World) (D : Nat) (m : Ms) (he : m.es = []) (hx : m.xs = []) : PlOk W D m q0P := by
  refine ⟨?_, ?_, ?_, ?_, ?_, ?_⟩
  · rw [he]; exact Rd.nil
  · rw [hx]; exact Rd.nil
  · rw [he]; decide
  · rw [hx]; decide
  · rw [he]; exact Nat.zero_le _
  · rw [hx]; exact Nat.zero_le _
set_option maxHeartbeats 2000000 in
theorem awake17_any (w : World) (hfd : Fd w) (hmd : Md w) : Calls Tryz.prog 4 #[] w (Yes w) := by
  have hz := zero33
  have hzs := z33_size
  have hzn := z33_ne
  obtain ⟨T, hT, hE⟩ := k1_enc
  have HE : Hid (Calls Tryz.prog 8 #[.agg (k1P.cells q0P)] w fun x W' => x = .returned (.tuple #[.string T, .int .i64 0]) ∧ Below w.heap.size w W') := hid (by
    have h := menc_any k1P q0P 0 w (plq0 _ _ _ rfl rfl) (Nat.zero_le _) k1_fits hfd hmd
    rw [hE] at h
    unfold SN at h
    rw [mk_sb] at h
    exact h)
  have HR : Hid (∀ W, Below w.heap.size w W → Calls Tryz.prog 9 #[.agg (k2P.cells q0P)] W (VE W (.bool false))) := hid fun W hW => by
    have h := mright_any k2P q0P 0 W (plq0 _ _ _ rfl rfl) (Nat.zero_le _) k2_fits (hfd.below hW hfd.1) (hmd.below hW hmd.1)
    rwa [decide_eq_false k2_not] at h
  have hT2 : (T.size : Int) = 128 := by omega
  clear hE hfd hmd
  go_enter Tryz.func4, Tryz.ntmps4
  go_wp2_with (first
    | (go_at_call 8; refine HE.out.mono ?_; rintro e w1 ⟨rfl, hb1⟩; have HB1 := hid hb1; clear hb1)
    | (go_at_call 9; refine (HR.out _ HB1.out).mono ?_; rintro e w2 ⟨rfl, hb2⟩))
  go_ret
  exact ⟨rfl, HB1.out.trans (hb2.mono HB1.out.size)⟩
end Go.Proofs.YtcildaeiogdfdaaGreatDoor
