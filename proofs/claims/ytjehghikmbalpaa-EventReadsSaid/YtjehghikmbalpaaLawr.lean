/-
  The walk of EventReads.
-/
import Derived.Test.YtjehghikmbalpaaAwakev
import Derived.Test.YtjehghikmbalpaaRtaka
import Derived.Test.YtjehghikmbalpaaRtakt
import Derived.Test.YtjehghikmbalpaaRtaki
import Derived.Test.YtjehghikmbalpaaSame
namespace Go.Proofs.Ytjehghikmbalpaa
open Go.RowKit
set_option maxRecDepth 10000

theorem Rd.next {w w' : World} {A : Option Addr} {xs : List Value} (h : Rd w w.heap.size A xs) (hb : Below w.heap.size w w') : Rd w' w'.heap.size A xs := (h.below hb (Nat.le_refl _)).more hb.size
theorem takL_len {α : Type} (n : Nat) (d : List UInt8 → α) (s : List UInt8) : (takL n d s).1.length ≤ 4 := by
  unfold takL
  split
  · simp
  · simp
    omega
/-- the list of a text, by a variable -/
theorem LB_of {α : Type} {C : α → List Value} {P : Program} {F : FuncId} {s : ByteArray} {l : List α} {b : Bool} (h : ∀ W : World, Calls P F #[.string s] W (LB C W (l, b))) :
    ∀ W : World, Calls P F #[.string s] W fun e w' => ∃ A c, e = .returned (.tuple #[.slice A l.length c, .bool b]) ∧ l.length ≤ c ∧ Rd w' w'.heap.size A (rows C l) ∧ Below W.heap.size W w' := h

set_option maxHeartbeats 2000000 in
theorem reads_any (s : ByteArray) (w : World) : Calls Try.prog 6 #[.string s] w (Yes w) := by
  have HA := hid awake_any
  by_cases hs : 1000 < s.size
  · have hi : (1000 : Int) < (s.size : Int) := by omega
    clear hs
    go_enter Try.func6, Try.ntmps6
    go_wp2_with (go_at_call 8; refine (HA.out _).mono ?_; rintro e w1 ⟨rfl, hb1⟩)
    go_ret
    exact ⟨rfl, hb1⟩
  · have hi : ¬ ((1000 : Int) < (s.size : Int)) := by omega
    have la := takL_len 9 decA (sb s)
    have lt := takL_len 32 decT (sb s)
    have li := takL_len 8 decI (sb s)
    have HA1 := hid (fun W => taka_list s W (by omega))
    have HA2 := hid (fun W => rtaka_list s W (by omega))
    have HT1 := hid (fun W => takt_list s W (by omega))
    have HT2 := hid (fun W => rtakt_list s W (by omega))
    have HI1 := hid (fun W => taki_list s W (by omega))
    have HI2 := hid (fun W => rtaki_list s W (by omega))
    generalize takL 9 decA (sb s) = ra at *
    generalize takL 32 decT (sb s) = rt at *
    generalize takL 8 decI (sb s) = ri at *
    obtain ⟨LA, ba⟩ := ra
    obtain ⟨LT, bt⟩ := rt
    obtain ⟨LI, bi⟩ := ri
    simp only at la lt li
    have HSA := hid (fun A A' c c' W (h1 : Rd W W.heap.size A (rows Ac.cells LA)) (h2 : Rd W W.heap.size A' (rows Ac.cells LA)) h3 h4 => samea_any A A' LA LA.length c c' W.heap.size W h1 h2 rfl h3 h4 (Nat.le_refl _) (by omega))
    have HST := hid (fun A A' c c' W (h1 : Rd W W.heap.size A (rows Tr.cells LT)) (h2 : Rd W W.heap.size A' (rows Tr.cells LT)) h3 h4 => samet_any A A' LT LT.length c c' W.heap.size W h1 h2 rfl h3 h4 (Nat.le_refl _) (by omega))
    have HSI := hid (fun A A' c c' W (h1 : Rd W W.heap.size A (rows Ic LI)) (h2 : Rd W W.heap.size A' (rows Ic LI)) h3 h4 => samei_any A A' LI LI.length c c' W.heap.size W h1 h2 rfl h3 h4 (Nat.le_refl _) (by omega))
    have HA1 := hid (LB_of HA1.out)
    have HA2 := hid (LB_of HA2.out)
    have HT1 := hid (LB_of HT1.out)
    have HT2 := hid (LB_of HT2.out)
    have HI1 := hid (LB_of HI1.out)
    have HI2 := hid (LB_of HI2.out)
    clear hs la lt li
    go_enter Try.func6, Try.ntmps6
    go_wp2_with (first
      | (go_at_call 8; refine (HA.out _).mono ?_; rintro e w1 ⟨rfl, hbb⟩)
      | (go_at_call 11; refine (HA1.out _).mono ?_; rintro e w2 ⟨A1, c1, rfl, k1, r1, hx⟩; replace hbb := Below.trans hbb (hx.mono (Below.size hbb)); clear hx)
      | (go_at_call 20; refine (HA2.out _).mono ?_; rintro e w3 ⟨A2, c2, rfl, k2, r2, hx⟩; replace hbb := Below.trans hbb (hx.mono (Below.size hbb)); replace r1 := r1.next hx; clear hx)
      | (go_at_call 14; refine (HT1.out _).mono ?_; rintro e w4 ⟨A3, c3, rfl, k3, r3, hx⟩; replace hbb := Below.trans hbb (hx.mono (Below.size hbb)); replace r1 := r1.next hx; replace r2 := r2.next hx; clear hx)
      | (go_at_call 21; refine (HT2.out _).mono ?_; rintro e w5 ⟨A4, c4, rfl, k4, r4, hx⟩; replace hbb := Below.trans hbb (hx.mono (Below.size hbb)); replace r1 := r1.next hx; replace r2 := r2.next hx; replace r3 := r3.next hx; clear hx)
      | (go_at_call 18; refine (HI1.out _).mono ?_; rintro e w6 ⟨A5, c5, rfl, k5, r5, hx⟩; replace hbb := Below.trans hbb (hx.mono (Below.size hbb)); replace r1 := r1.next hx; replace r2 := r2.next hx; replace r3 := r3.next hx; replace r4 := r4.next hx; clear hx)
      | (go_at_call 22; refine (HI2.out _).mono ?_; rintro e w7 ⟨A6, c6, rfl, k6, r6, hx⟩; replace hbb := Below.trans hbb (hx.mono (Below.size hbb)); replace r1 := r1.next hx; replace r2 := r2.next hx; replace r3 := r3.next hx; replace r4 := r4.next hx; replace r5 := r5.next hx; clear hx)
      | (go_at_call 23; refine (HSA.out _ _ _ _ _ r1 r2 k1 k2).mono ?_; rintro e w8 ⟨rfl, hx⟩; replace hbb := Below.trans hbb (hx.mono (Below.size hbb)); replace r3 := r3.next hx; replace r4 := r4.next hx; replace r5 := r5.next hx; replace r6 := r6.next hx; clear hx)
      | (go_at_call 15; refine (HST.out _ _ _ _ _ r3 r4 k3 k4).mono ?_; rintro e w9 ⟨rfl, hx⟩; replace hbb := Below.trans hbb (hx.mono (Below.size hbb)); replace r5 := r5.next hx; replace r6 := r6.next hx; clear hx)
      | (go_at_call 19; refine (HSI.out _ _ _ _ _ r5 r6 k5 k6).mono ?_; rintro e w10 ⟨rfl, hx⟩; replace hbb := Below.trans hbb (hx.mono (Below.size hbb)); clear hx))
    all_goals
      go_ret
      exact ⟨rfl, hbb⟩
end Go.Proofs.Ytjehghikmbalpaa
