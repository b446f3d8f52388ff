/-
  The walk of EventTransfers.
-/
import Derived.Test.YtjehghikmbalpaaAwakev
import Derived.Test.YtjehghikmbalpaaRputt
import Derived.Test.YtjehghikmbalpaaSame
import Derived.Deep.RegionHeld
namespace Go.Proofs.Ytjehghikmbalpaa
open Go.RowKit
set_option maxRecDepth 10000

/-- what is laid is refused, or is taken again -/
theorem twot (l : List Tr) (hok : ∀ x ∈ l, x.ok) : putL trB l = ([], 1) ∨ ∃ bs, putL trB l = (bs, 0) ∧ bs.length ≤ 1000 ∧ takL 32 decT bs = (l, true) := by
  unfold putL
  by_cases h : l.length = 0 ∨ 4 < l.length
  · rw [if_pos h]
    exact .inl rfl
  · rw [if_neg h]
    cases h2 : l.all fun x => (trB x).isSome
    · exact .inl rfl
    · refine .inr ⟨_, rfl, ?_, ?_⟩
      · have := pre_len trB l 32 (fun x => Nat.le_of_eq (trB_len x)) l.length
        unfold pre at this
        rw [List.take_of_length_le (Nat.le_refl _)] at this
        have h4 : l.length * 32 ≤ 4 * 32 := Nat.mul_le_mul_right _ (by omega)
        omega
      · rw [takL_flat 32 (by omega) decT _ l (fun x _ => trB_len x) (by omega) (by omega)]
        congr 1
        conv => rhs; rw [← List.map_id l]
        apply List.map_congr_left
        intro x hx
        exact decT_le x (hok x hx)

set_option maxHeartbeats 1000000 in
theorem lawt_big (A : Option Addr) (l : List Tr) (n c : Nat) (w : World) (hr : Rd w w.heap.size A (rows Tr.cells l)) (hn : n = l.length) (hnc : n ≤ c) (hok : ∀ x ∈ l, x.ok) (hbig : 100 < n) (hb : n ≤ 9223372036854775807) :
    Calls Try.prog 4 #[.slice A n c] w (Yes w) := by
  have HA := hid awake_any
  have hrt : Rd w w.heap.size A (rows Tr.cells (l.take 100)) := by rw [rows_take Tr.len]; exact hr.take _
  have hnt : 100 = (l.take 100).length := by rw [List.length_take]; omega
  have hput : putL trB (l.take 100) = ([], 1) := by
    unfold putL
    rw [if_pos (.inr (by rw [← hnt]; omega))]
  have HP := hid (fun W (hW : Below w.heap.size w W) => putt_list A (l.take 100) 100 c w.heap.size W (hrt.below hW (Nat.le_refl _)) hnt (by omega) hW.size (fun x hx => hok x (List.mem_of_mem_take hx)))
  have HQ := hid (fun W (hW : Below w.heap.size w W) => rputt_list A (l.take 100) 100 c w.heap.size W (hrt.below hW (Nat.le_refl _)) hnt (by omega) hW.size (fun x hx => hok x (List.mem_of_mem_take hx)))
  rw [hput] at HP HQ
  have hi1 : (100 : Int) ≤ (n : Int) := by omega
  have hmn : min (n : Int) 100 = 100 := by omega
  have hi2 : ¬ ((n : Int) < (100 : Int)) := by omega
  have hi3 : ¬ ((n : Int) ≤ (100 : Int)) := by omega
  have hi4 : 100 ≤ c := by omega
  clear hr hrt hn hnt hok hput
  go_enter Try.func4, Try.ntmps4
  go_wp2_with (first
    | (go_at_call 8; refine (HA.out _).mono ?_; rintro e w1 ⟨rfl, hb1⟩; have hbb : Below w.heap.size w w1 := hb1)
    | (go_at_call 12; refine (HP.out _ hbb).mono ?_; rintro e w2 ⟨rfl, hx⟩; replace hbb := hbb.trans (hx.mono hbb.size); clear hx)
    | (go_at_call 13; refine (HQ.out _ hbb).mono ?_; rintro e w3 ⟨rfl, hx⟩; replace hbb := hbb.trans (hx.mono hbb.size); clear hx))
  go_ret
  exact ⟨rfl, hbb⟩

set_option maxHeartbeats 1000000 in
theorem lawt_none (A : Option Addr) (l : List Tr) (n c : Nat) (w : World) (hr : Rd w w.heap.size A (rows Tr.cells l)) (hn : n = l.length) (hnc : n ≤ c) (hok : ∀ x ∈ l, x.ok) (hsmall : n ≤ 100) (hput : putL trB l = ([], 1)) :
    Calls Try.prog 4 #[.slice A n c] w (Yes w) := by
  have HA := hid awake_any
  have HP := hid (fun W (hW : Below w.heap.size w W) => putt_list A l n c w.heap.size W (hr.below hW (Nat.le_refl _)) hn hnc hW.size hok)
  have HQ := hid (fun W (hW : Below w.heap.size w W) => rputt_list A l n c w.heap.size W (hr.below hW (Nat.le_refl _)) hn hnc hW.size hok)
  rw [hput] at HP HQ
  have hi1 : (n : Int) ≤ (100 : Int) := by omega
  have hmn : min (n : Int) 100 = (n : Int) := by omega
  have hi2 : ¬ ((100 : Int) < (n : Int)) := by omega
  clear hr hn hok hput
  go_enter Try.func4, Try.ntmps4
  go_wp2_with (first
    | (go_at_call 8; refine (HA.out _).mono ?_; rintro e w1 ⟨rfl, hb1⟩; have hbb : Below w.heap.size w w1 := hb1)
    | (go_at_call 12; refine (HP.out _ hbb).mono ?_; rintro e w2 ⟨rfl, hx⟩; replace hbb := hbb.trans (hx.mono hbb.size); clear hx)
    | (go_at_call 13; refine (HQ.out _ hbb).mono ?_; rintro e w3 ⟨rfl, hx⟩; replace hbb := hbb.trans (hx.mono hbb.size); clear hx))
  all_goals
    go_ret
    exact ⟨rfl, hbb⟩

set_option maxHeartbeats 1000000 in
theorem lawt_some (A : Option Addr) (l : List Tr) (n c : Nat) (w : World) (hr : Rd w w.heap.size A (rows Tr.cells l)) (hn : n = l.length) (hnc : n ≤ c) (hok : ∀ x ∈ l, x.ok) (hsmall : n ≤ 100) (bs : List UInt8) (hput : putL trB l = (bs, 0)) (hlen : bs.length ≤ 1000) (htak : takL 32 decT bs = (l, true)) :
    Calls Try.prog 4 #[.slice A n c] w (Yes w) := by
  have HA := hid awake_any
  have HP := hid (fun W (hW : Below w.heap.size w W) => putt_list A l n c w.heap.size W (hr.below hW (Nat.le_refl _)) hn hnc hW.size hok)
  have HQ := hid (fun W (hW : Below w.heap.size w W) => rputt_list A l n c w.heap.size W (hr.below hW (Nat.le_refl _)) hn hnc hW.size hok)
  rw [hput] at HP HQ
  have HT := hid (fun W => takt_list ⟨bs.toArray⟩ W (by rw [← sb_len, sb_mk]; omega))
  rw [sb_mk, htak] at HT
  have HS := hid (fun A' c' B W (hr1 : Rd W B A' (rows Tr.cells l)) (hr2 : Rd W B A (rows Tr.cells l)) hc' hB => samet_any A' A l n c' c B W hr1 hr2 hn hc' hnc hB (by omega))
  have HR := hid hr
  have hi1 : (n : Int) ≤ (100 : Int) := by omega
  have hmn : min (n : Int) 100 = (n : Int) := by omega
  have hi2 : ¬ ((100 : Int) < (n : Int)) := by omega
  have HN := hid hn
  clear hr hn hok hput htak
  have HT2 : Hid (∀ W : World, Calls Try.prog 14 #[.string ⟨bs.toArray⟩] W fun e w' => ∃ A c, e = .returned (.tuple #[.slice A n c, .bool true]) ∧ n ≤ c ∧ Rd w' w'.heap.size A (rows Tr.cells l) ∧ Below W.heap.size W w') := hid fun W => by
    have h := HT.out W
    unfold LB at h
    rw [← HN.out] at h
    exact h
  clear HT
  go_enter Try.func4, Try.ntmps4
  go_wp2_with (first
    | (go_at_call 8; refine (HA.out _).mono ?_; rintro e w1 ⟨rfl, hb1⟩; have hbb : Below w.heap.size w w1 := hb1)
    | (go_at_call 12; refine (HP.out _ hbb).mono ?_; rintro e w2 ⟨rfl, hx⟩; replace hbb := hbb.trans (hx.mono hbb.size); clear hx)
    | (go_at_call 13; refine (HQ.out _ hbb).mono ?_; rintro e w3 ⟨rfl, hx⟩; replace hbb := hbb.trans (hx.mono hbb.size); clear hx)
    | (go_at_call 14; refine (HT2.out _).mono ?_; rintro e w4 ⟨A4, c4, rfl, hc4, hrd4, hx⟩; replace hbb := hbb.trans (hx.mono hbb.size); clear hx)
    | (go_at_call 15; refine (HS.out A4 c4 w4.heap.size w4 hrd4 ((HR.out.below hbb (Nat.le_refl _)).more hbb.size) hc4 (Nat.le_refl _)).mono ?_; rintro e w5 ⟨rfl, hx⟩; replace hbb := hbb.trans (hx.mono hbb.size); clear hx))
  all_goals
    go_ret
    exact ⟨rfl, hbb⟩

theorem lawt_any (A : Option Addr) (l : List Tr) (n c : Nat) (w : World) (hr : Rd w w.heap.size A (rows Tr.cells l)) (hn : n = l.length) (hnc : n ≤ c) (hok : ∀ x ∈ l, x.ok) (hb : n ≤ 9223372036854775807) :
    Calls Try.prog 4 #[.slice A n c] w (Yes w) := by
  by_cases h : 100 < n
  · exact lawt_big A l n c w hr hn hnc hok h hb
  · rcases twot l hok with h1 | ⟨bs, h1, h2, h3⟩
    · exact lawt_none A l n c w hr hn hnc hok (by omega) h1
    · exact lawt_some A l n c w hr hn hnc hok (by omega) bs h1 h2 h3
end Go.Proofs.Ytjehghikmbalpaa
