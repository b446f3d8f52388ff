/-
  The walk of MsgDecodes.
-/
import Derived.Test.YtcildaeiogdfdaaGreatDoorZ34
import Derived.Test.YtcildaeiogdfdaaGreatDoorZ33
import Derived.Test.YtcildaeiogdfdaaGreatDoorZ27
import Derived.Test.YtcildaeiogdfdaaGreatDoorZ20
namespace Go.Proofs.YtcildaeiogdfdaaGreatDoor
open Go.RowKit
set_option maxRecDepth 10000

set_option maxHeartbeats 4000000 in
theorem mdecodes_law (s : ByteArray) (w : World) (hfd : Fd w) (hmd : Md w) :
    Calls Tryz.prog 3 #[.string s] w (Yes w) := by
  have HZS := hid mssize
  have HA := hid (awake17_any w hfd hmd)
  by_cases h5 : 5000 < s.size
  · have h5i : (5000 : Int) < (s.size : Int) := by omega
    clear h5 hfd hmd
    go_enter Tryz.func3, Tryz.ntmps3
    go_wp2_with (go_at_call 4; refine HA.out.mono ?_; rintro e w1 ⟨rfl, hb1⟩)
    go_ret
    exact ⟨rfl, hb1⟩
  have h5i : ¬ ((5000 : Int) < (s.size : Int)) := by omega
  have HP : Hid (∀ W, Below w.heap.size w W → Calls Tryz.prog 5 #[.string s] W (DMp W (decM (sb s)))) := hid fun W hW => mdec_any s W (hfd.below hW hfd.1) (hmd.below hW hmd.1) (by omega)
  have HQ : Hid (∀ W, Calls Tryz.prog 6 #[.string s] W (DM W (decM (sb s)))) := hid fun W => dec17_any s W (by omega)
  have hft := dec_fits (sb s)
  generalize decM (sb s) = r at *
  obtain ⟨m, f⟩ := r
  have HSM : Hid (∀ W (p q : Pl), PlOk W W.heap.size m p → PlOk W W.heap.size m q → Calls Tryz.prog 7 #[.agg (m.cells p), .agg (m.cells q)] W (VE W (.bool true))) := hid fun W p q hp hq => by
    have h := same_any m m p q W.heap.size W hp hq (Nat.le_refl _) hft.2.2.2.1.1 hft.2.2.2.1.1
    rwa [decide_eq_true rfl] at h
  have hz := zero33
  have hzs := z33_size
  have hzn := z33_ne
  clear h5 hfd hmd hft
  go_enter Tryz.func3, Tryz.ntmps3
  go_wp2_with (first
    | (go_at_call 4; refine HA.out.mono ?_; rintro e w1 ⟨rfl, hb1⟩; have HB1 := hid hb1; clear hb1)
    | (go_at_call 5; refine (HP.out _ HB1.out).mono ?_; rintro e w2 ⟨p2, rfl, hp2, hb⟩; have HB2 := hid (HB1.out.trans (hb.mono HB1.out.size)); have HP2 := hid hp2; clear hb hp2)
    | ((with_reducible show wpList _ _ _ ({ dst := none, op := .store _ (.tmp 3) _, type := _, pos := _, after := _, guard := _ } :: _) _ _); refine wpl_store_st rfl (.tmp 3) (.tmp 15) rfl HZS.out w2.heap.size z33 (m.cells p2) rfl rfl (Row.new _ _ _) ?_ (hid (by simp [z33])) (hid rfl) (hid (msOneP _ _)); intro w3 hr hg; have hb8 : Below w2.heap.size w2 w3 := ((Below.refl _ _).alloc (Nat.le_refl _) (.cells z33 32)).trans (below_grown hg (Nat.le_refl _) (by simp)); have HB3 := hid (HB2.out.trans (hb8.mono HB2.out.size)); have R33 := hid hr; have HP23 := hid (show PlOk w3 w3.heap.size m p2 from ⟨(HP2.out.a.below hb8 (Nat.le_refl _)).more hb8.size, (HP2.out.b.below hb8 (Nat.le_refl _)).more hb8.size, HP2.out.la, HP2.out.lb, HP2.out.ca, HP2.out.cb⟩); clear hb8 hr hg)
    | (go_at_call 6; refine (HQ.out _).mono ?_; rintro e w4 ⟨p4, rfl, hp4, hb⟩; have HB4 := hid (HB3.out.trans (hb.mono HB3.out.size)); have R34 := hid (R33.out.below hb R33.out.lt); have HP24 := hid (show PlOk w4 w4.heap.size m p2 from ⟨(HP23.out.a.below hb (Nat.le_refl _)).more hb.size, (HP23.out.b.below hb (Nat.le_refl _)).more hb.size, HP23.out.la, HP23.out.lb, HP23.out.ca, HP23.out.cb⟩); have HP4 := hid hp4; clear hb hp4)
    | ((with_reducible show wpList _ _ _ ({ dst := none, op := .store _ (.tmp 5) _, type := _, pos := _, after := _, guard := _ } :: _) _ _); refine wpl_store_st rfl (.tmp 5) (.tmp 20) rfl HZS.out w4.heap.size z33 (m.cells p4) rfl rfl (Row.new _ _ _) ?_ (hid (by simp [z33])) (hid rfl) (hid (msOneP _ _)); intro w5 hr hg; have hb8 : Below w4.heap.size w4 w5 := ((Below.refl _ _).alloc (Nat.le_refl _) (.cells z33 32)).trans (below_grown hg (Nat.le_refl _) (by simp)); have HB5 := hid (HB4.out.trans (hb8.mono HB4.out.size)); have R35 := hid (R34.out.below hb8 R34.out.lt); have R55 := hid hr; have HP25 := hid (show PlOk w5 w5.heap.size m p2 from ⟨(HP24.out.a.below hb8 (Nat.le_refl _)).more hb8.size, (HP24.out.b.below hb8 (Nat.le_refl _)).more hb8.size, HP24.out.la, HP24.out.lb, HP24.out.ca, HP24.out.cb⟩); have HP45 := hid (show PlOk w5 w5.heap.size m p4 from ⟨(HP4.out.a.below hb8 (Nat.le_refl _)).more hb8.size, (HP4.out.b.below hb8 (Nat.le_refl _)).more hb8.size, HP4.out.la, HP4.out.lb, HP4.out.ca, HP4.out.cb⟩); clear hb8 hr hg)
    | ((with_reducible show wpList _ _ _ ({ dst := some 26, op := _, type := _, pos := _, after := _, guard := _ } :: _) _ _); refine wpl_load_want rfl 32 (.tmp 3) rfl w2.heap.size rfl 32 (m.cells p2) (0, 0) _ (Row.arr R35.out) Tryz.underlying32 rfl HZS.out ?_)
    | ((with_reducible show wpList _ _ _ ({ dst := some 27, op := _, type := _, pos := _, after := _, guard := _ } :: _) _ _); refine wpl_load_want rfl 32 (.tmp 5) rfl w4.heap.size rfl 32 (m.cells p4) (0, 0) _ (Row.arr R55.out) Tryz.underlying32 rfl HZS.out ?_)
    | (go_at_call 7; refine (HSM.out _ _ _ HP25.out HP45.out).mono ?_; rintro e w6 ⟨rfl, hb⟩; have HB6 := hid (HB5.out.trans (hb.mono HB5.out.size)); clear hb))
  go_ret
  exact ⟨by simp, HB6.out⟩
end Go.Proofs.YtcildaeiogdfdaaGreatDoor
