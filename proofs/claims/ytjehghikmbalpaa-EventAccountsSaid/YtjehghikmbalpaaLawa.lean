/-
  The walk of EventAccounts.
-/
import Derived.Test.YtjehghikmbalpaaAwakev
import Derived.Test.YtjehghikmbalpaaRputa
import Derived.Test.YtjehghikmbalpaaSame
import Derived.Deep.RegionHeld
namespace Go.Proofs.Ytjehghikmbalpaa
open Go.RowKit
set_option maxRecDepth 10000

/-- what is laid is refused, or is taken again -/
theorem twoa (l : List Ac) (hok : ∀ x ∈ l, x.ok) : putL askB l = ([], 1) ∨ ∃ bs, putL askB l = (bs, 0) ∧ bs.length ≤ 1000 ∧ takL 9 decA bs = (l.map strip, true) := by
  unfold putL
  by_cases h : l.length = 0 ∨ 4 < l.length
  · rw [if_pos h]
    exact .inl rfl
  · rw [if_neg h]
    cases h2 : l.all fun x => (askB x).isSome
    · exact .inl rfl
    · refine .inr ⟨_, rfl, ?_, ?_⟩
      · have := pre_len askB l 9 (fun x => askB_len x) l.length
        unfold pre at this
        rw [List.take_of_length_le (Nat.le_refl _)] at this
        have h4 : l.length * 9 ≤ 4 * 9 := Nat.mul_le_mul_right _ (by omega)
        omega
      · have hall := List.all_eq_true.1 h2
        have hfl : ∀ x ∈ l, 0 ≤ x.flags ∧ x.flags ≤ 255 := by
          intro x hx
          have h3 := hall x hx
          unfold askB at h3
          split at h3
          · assumption
          · cases h3
        rw [takL_flat 9 (by omega) decA _ l (by
          intro x hx
          unfold askB
          rw [if_pos (hfl x hx)]
          simp [le_len]) (by omega) (by omega)]
        congr 1
        apply List.map_congr_left
        intro x hx
        exact decA_le x (hok x hx) (hfl x hx)

set_option maxHeartbeats 1000000 in
theorem lawa_big (A : Option Addr) (l : List Ac) (n c : Nat) (w : World) (hr : Rd w w.heap.size A (rows Ac.cells l)) (hn : n = l.length) (hnc : n ≤ c) (hok : ∀ x ∈ l, x.ok) (hbig : 100 < n) (hb : n ≤ 9223372036854775807) :
    Calls Try.prog 3 #[.slice A n c] w (Yes w) := by
  have HA := hid awake_any
  have hrt : Rd w w.heap.size A (rows Ac.cells (l.take 100)) := by rw [rows_take Ac.len]; exact hr.take _
  have hnt : 100 = (l.take 100).length := by rw [List.length_take]; omega
  have hput : putL askB (l.take 100) = ([], 1) := by
    unfold putL
    rw [if_pos (.inr (by rw [← hnt]; omega))]
  have HP := hid (fun W (hW : Below w.heap.size w W) => puta_list A (l.take 100) 100 c w.heap.size W (hrt.below hW (Nat.le_refl _)) hnt (by omega) hW.size (fun x hx => hok x (List.mem_of_mem_take hx)))
  have HQ := hid (fun W (hW : Below w.heap.size w W) => rputa_list A (l.take 100) 100 c w.heap.size W (hrt.below hW (Nat.le_refl _)) hnt (by omega) hW.size (fun x hx => hok x (List.mem_of_mem_take hx)))
  rw [hput] at HP HQ
  have hi1 : (100 : Int) ≤ (n : Int) := by omega
  have hmn : min (n : Int) 100 = 100 := by omega
  have hi2 : ¬ ((n : Int) < (100 : Int)) := by omega
  have hi3 : ¬ ((n : Int) ≤ (100 : Int)) := by omega
  have hi4 : 100 ≤ c := by omega
  clear hr hrt hn hnt hok hput
  go_enter Try.func3, Try.ntmps3
  go_wp2_with (first
    | (go_at_call 8; refine (HA.out _).mono ?_; rintro e w1 ⟨rfl, hb1⟩; have hbb : Below w.heap.size w w1 := hb1)
    | (go_at_call 9; refine (HP.out _ hbb).mono ?_; rintro e w2 ⟨rfl, hx⟩; replace hbb := hbb.trans (hx.mono hbb.size); clear hx)
    | (go_at_call 10; refine (HQ.out _ hbb).mono ?_; rintro e w3 ⟨rfl, hx⟩; replace hbb := hbb.trans (hx.mono hbb.size); clear hx))
  go_ret
  exact ⟨rfl, hbb⟩

set_option maxHeartbeats 1000000 in
theorem lawa_none (A : Option Addr) (l : List Ac) (n c : Nat) (w : World) (hr : Rd w w.heap.size A (rows Ac.cells l)) (hn : n = l.length) (hnc : n ≤ c) (hok : ∀ x ∈ l, x.ok) (hsmall : n ≤ 100) (hput : putL askB l = ([], 1)) :
    Calls Try.prog 3 #[.slice A n c] w (Yes w) := by
  have HA := hid awake_any
  have HP := hid (fun W (hW : Below w.heap.size w W) => puta_list A l n c w.heap.size W (hr.below hW (Nat.le_refl _)) hn hnc hW.size hok)
  have HQ := hid (fun W (hW : Below w.heap.size w W) => rputa_list A l n c w.heap.size W (hr.below hW (Nat.le_refl _)) hn hnc hW.size hok)
  rw [hput] at HP HQ
  have hi1 : (n : Int) ≤ (100 : Int) := by omega
  have hmn : min (n : Int) 100 = (n : Int) := by omega
  have hi2 : ¬ ((100 : Int) < (n : Int)) := by omega
  clear hr hn hok hput
  go_enter Try.func3, Try.ntmps3
  go_wp2_with (first
    | (go_at_call 8; refine (HA.out _).mono ?_; rintro e w1 ⟨rfl, hb1⟩; have hbb : Below w.heap.size w w1 := hb1)
    | (go_at_call 9; refine (HP.out _ hbb).mono ?_; rintro e w2 ⟨rfl, hx⟩; replace hbb := hbb.trans (hx.mono hbb.size); clear hx)
    | (go_at_call 10; refine (HQ.out _ hbb).mono ?_; rintro e w3 ⟨rfl, hx⟩; replace hbb := hbb.trans (hx.mono hbb.size); clear hx))
  all_goals
    go_ret
    exact ⟨rfl, hbb⟩

set_option maxHeartbeats 1000000 in
theorem lawa_some (A : Option Addr) (l : List Ac) (n c : Nat) (w : World) (hr : Rd w w.heap.size A (rows Ac.cells l)) (hn : n = l.length) (hnc : n ≤ c) (hok : ∀ x ∈ l, x.ok) (hsmall : n ≤ 100) (bs : List UInt8) (hput : putL askB l = (bs, 0)) (hlen : bs.length ≤ 1000) (htak : takL 9 decA bs = (l.map strip, true)) (h0 : 0 < n) :
    Calls Try.prog 3 #[.slice A n c] w (Yes w) := by
  have HA := hid awake_any
  have HP := hid (fun W (hW : Below w.heap.size w W) => puta_list A l n c w.heap.size W (hr.below hW (Nat.le_refl _)) hn hnc hW.size hok)
  have HQ := hid (fun W (hW : Below w.heap.size w W) => rputa_list A l n c w.heap.size W (hr.below hW (Nat.le_refl _)) hn hnc hW.size hok)
  rw [hput] at HP HQ
  have HT := hid (fun W => taka_list ⟨bs.toArray⟩ W (by rw [← sb_len, sb_mk]; omega))
  rw [sb_mk, htak] at HT
  have hi1 : (n : Int) ≤ (100 : Int) := by omega
  have hmn : min (n : Int) 100 = (n : Int) := by omega
  have hi2 : ¬ ((100 : Int) < (n : Int)) := by omega
  have hlen1 := rows_len (C := Ac.cells) Ac.len l
  obtain ⟨ga, o, rfl, hga, hx⟩ := id hr (by intro e; rw [e] at hlen1; simp at hlen1; omega)
  clear hx
  have HNE : Hid (rows Ac.cells (l.map strip) ≠ []) := hid (by
    intro e
    have h := rows_len (C := Ac.cells) Ac.len (l.map strip)
    rw [e, List.length_map] at h
    simp at h
    omega)
  have hn2 : n = (l.map strip).length := by rw [List.length_map, hn]
  have HT2 : Hid (∀ W : World, Calls Try.prog 11 #[.string ⟨bs.toArray⟩] W fun e w' => ∃ A c, e = .returned (.tuple #[.slice A n c, .bool true]) ∧ n ≤ c ∧ Rd w' w'.heap.size A (rows Ac.cells (l.map strip)) ∧ Below W.heap.size W w') := hid fun W => by
    have h := HT.out W
    unfold LB at h
    simp only at h
    rw [← hn2] at h
    exact h
  have HR := hid hr
  have HN := hid hn
  have HZ := hid acSize
  have hEG : Try.prog.eqGuardType Try.prog.depth 31 = false := by kernel_rfl
  clear HT hn2 hr hn hok hput htak hlen1
  go_enter Try.func3, Try.ntmps3
  go_wp2_with (first
    | (go_at_call 8; refine (HA.out _).mono ?_; rintro e w1 ⟨rfl, hb1⟩; have hbb : Below w.heap.size w w1 := hb1)
    | (go_at_call 9; refine (HP.out _ hbb).mono ?_; rintro e w2 ⟨rfl, hx⟩; replace hbb := hbb.trans (hx.mono hbb.size); clear hx)
    | (go_at_call 10; refine (HQ.out _ hbb).mono ?_; rintro e w3 ⟨rfl, hx⟩; replace hbb := hbb.trans (hx.mono hbb.size); clear hx)
    | (go_at_call 11; refine (HT2.out _).mono ?_; rintro e w4 ⟨A4, c4, rfl, hc4, hrd4, hx⟩; replace hbb := hbb.trans (hx.mono hbb.size); clear hx; obtain ⟨g4, o4, rfl, hg4, hx⟩ := id (hrd4 HNE.out); clear hx; have HRD4 := hid hrd4; have HBB := hid hbb; clear hrd4 hbb))
  go_loopw [9] (fun i wr => ∃ k : Nat, k ≤ n ∧ i = .int .i64 (k : Int) ∧ Below w4.heap.size w4 wr) (fun i _ => n - (intOf i).toNat)
  case atStart => exact ⟨0, by omega, rfl, Below.refl _ _⟩
  case round =>
    obtain ⟨k, hk, rfl, hbe⟩ := hrel
    have HBE := hid hbe
    by_cases hlt : k < n
    · have hkl : k < l.length := by rw [← HN.out]; exact hlt
      have hrg := fun W (hW : Below w4.heap.size w4 W) => ((HRD4.out.below hW (Nat.le_refl _)).range Ac.len k (by rw [List.length_map]; exact hkl))
      have hrl := fun W (hW : Below w4.heap.size w4 W) => ((HR.out.below (HBB.out.trans (Below.mono hW HBB.out.size)) (Nat.le_refl _)).range Ac.len k hkl)
      rw [List.getElem_map] at hrg
      have hc0 : ∀ W, Below w4.heap.size w4 W → W.cell? ⟨ga, o + k * 4, none⟩ = some (.int .u64 (l[k].id : Int)) := fun W hW => by
        have := hrl W hW 0 _ rfl
        rw [Nat.add_zero] at this
        exact this
      have hc1 : ∀ W, Below w4.heap.size w4 W → W.cell? ⟨ga, o + k * 4 + 1, none⟩ = some (.int .i64 l[k].flags) := fun W hW => hrl W hW 1 _ rfl
      have hEQ : ∀ W, (Op.equalIn 10000 31 (.agg #[.int .u64 (l[k].id : Int), .int .i64 l[k].flags, .int .u64 0, .int .u64 0]) (.agg #[.int .u64 (l[k].id : Int), .int .i64 l[k].flags, .int .u64 0, .int .u64 0])).run Try.prog W = .ok true W := fun W => eqAc (strip l[k]) W
      have hrg2 : ∀ W, Below w4.heap.size w4 W → W.rangeAt g4 (o4 + k * 4) [.int .u64 (l[k].id : Int), .int .i64 l[k].flags, .int .u64 0, .int .u64 0] := hrg
      generalize l[k].id = x0 at *
      generalize l[k].flags = x1 at *
      have HC0 := hid hc0
      have HC1 := hid hc1
      have HRG := hid hrg2
      have hki : (k : Int) < (n : Int) := by omega
      have hki0 : (0 : Int) ≤ (k : Int) := by omega
      clear hrg hrg2 hrl hc0 hc1 hbe
      go_wp2_with fail
      refine wp_region_held_drew (S := fun w' => Below w4.heap.size w4 w') (by kernel_rfl) HBE.out.drew (fun hH => ?_)
      refine wpAnyH_take (i := 0) (v := .slice (some ⟨g4, o4, none⟩) n c4) rfl (by kernel_rfl) (by kernel_rfl) (by kernel_rfl) (fun _ _ _ h => h) (Or.inl ⟨by rfl, fun w' hw' => by clear hw' ; go_simp⟩) hH ?_
      simp only [Act.put]
      refine wpAnyH_take (i := 1) (v := .int .i64 (k : Int)) rfl (by kernel_rfl) (by kernel_rfl) (by kernel_rfl) (fun _ _ _ h => h) (Or.inl ⟨by rfl, fun w' hw' => by clear hw' ; go_simp⟩) hH ?_
      simp only [Act.put]
      refine wpAnyH_take (i := 2) (v := .pointer (some ⟨g4, o4 + k * 4, none⟩)) rfl (by kernel_rfl) (by kernel_rfl) (by kernel_rfl) (fun _ _ _ h => h) (Or.inl ⟨by rfl, fun w' hw' => by clear hw' ; go_simp⟩) hH ?_
      simp only [Act.put]
      refine wpAnyH_take (i := 3) (v := .agg #[.int .u64 (x0 : Int), .int .i64 x1, .int .u64 0, .int .u64 0]) rfl (by kernel_rfl) (by kernel_rfl) (by kernel_rfl) (fun _ _ _ h => h) (yieldsIf_load_mid rfl 31 (.tmp 58) rfl g4 (o4 + k * 4) rfl [.int .u64 (x0 : Int), .int .i64 x1, .int .u64 0, .int .u64 0] _ (fun W hW => HRG.out W hW) Try.underlying31 rfl HZ.out) hH ?_
      simp only [Act.put]
      refine wpAnyH_take (i := 4) (v := .slice (some ⟨ga, o, none⟩) n c) rfl (by kernel_rfl) (by kernel_rfl) (by kernel_rfl) (fun _ _ _ h => h) (Or.inl ⟨by rfl, fun w' hw' => by clear hw' ; go_simp⟩) hH ?_
      simp only [Act.put]
      refine wpAnyH_take (i := 5) (v := .int .i64 (k : Int)) rfl (by kernel_rfl) (by kernel_rfl) (by kernel_rfl) (fun _ _ _ h => h) (Or.inl ⟨by rfl, fun w' hw' => by clear hw' ; go_simp⟩) hH ?_
      simp only [Act.put]
      refine wpAnyH_take (i := 6) (v := .pointer (some ⟨ga, o + k * 4, none⟩)) rfl (by kernel_rfl) (by kernel_rfl) (by kernel_rfl) (fun _ _ _ h => h) (Or.inl ⟨by rfl, fun w' hw' => by clear hw' ; go_simp⟩) hH ?_
      simp only [Act.put]
      refine wpAnyH_take (i := 7) (v := .pointer (some ⟨ga, o + k * 4, none⟩)) rfl (by kernel_rfl) (by kernel_rfl) (by kernel_rfl) (fun _ _ _ h => h) (Or.inl ⟨by rfl, fun w' hw' => by clear hw' ; go_simp⟩) hH ?_
      simp only [Act.put]
      refine wpAnyH_take (i := 8) (v := .int .u64 (x0 : Int)) rfl (by kernel_rfl) (by kernel_rfl) (by kernel_rfl) (fun _ _ _ h => h) (Or.inl ⟨by rfl, fun w' hw' => by have h := HC0.out w' hw'; go_simp⟩) hH ?_
      simp only [Act.put]
      refine wpAnyH_take (i := 9) (v := .slice (some ⟨ga, o, none⟩) n c) rfl (by kernel_rfl) (by kernel_rfl) (by kernel_rfl) (fun _ _ _ h => h) (Or.inl ⟨by rfl, fun w' hw' => by clear hw' ; go_simp⟩) hH ?_
      simp only [Act.put]
      refine wpAnyH_take (i := 10) (v := .int .i64 (k : Int)) rfl (by kernel_rfl) (by kernel_rfl) (by kernel_rfl) (fun _ _ _ h => h) (Or.inl ⟨by rfl, fun w' hw' => by clear hw' ; go_simp⟩) hH ?_
      simp only [Act.put]
      refine wpAnyH_take (i := 11) (v := .pointer (some ⟨ga, o + k * 4, none⟩)) rfl (by kernel_rfl) (by kernel_rfl) (by kernel_rfl) (fun _ _ _ h => h) (Or.inl ⟨by rfl, fun w' hw' => by clear hw' ; go_simp⟩) hH ?_
      simp only [Act.put]
      refine wpAnyH_take (i := 12) (v := .pointer (some ⟨ga, o + k * 4 + 1, none⟩)) rfl (by kernel_rfl) (by kernel_rfl) (by kernel_rfl) (fun _ _ _ h => h) (Or.inl ⟨by rfl, fun w' hw' => by clear hw' ; go_simp⟩) hH ?_
      simp only [Act.put]
      refine wpAnyH_take (i := 13) (v := .int .i64 x1) rfl (by kernel_rfl) (by kernel_rfl) (by kernel_rfl) (fun _ _ _ h => h) (Or.inl ⟨by rfl, fun w' hw' => by have h := HC1.out w' hw'; go_simp⟩) hH ?_
      simp only [Act.put]
      refine wpAnyH_take (i := 14) (v := .agg #[.int .u64 (x0 : Int), .int .i64 x1, .int .u64 0, .int .u64 0]) rfl (by kernel_rfl) (by kernel_rfl) (by kernel_rfl) (fun _ _ _ h => h) (Or.inl ⟨by rfl, fun w' hw' => by clear hw' ; go_simp⟩) hH ?_
      simp only [Act.put]
      refine wpAnyH_ready (rs := [15]) (by kernel_rfl) (by simp) ?_
      refine AllReadyH.cons rfl (fun K hK => ?_) AllReadyH.nil
      go_simp
      refine hK.out _ _ (hH) (fun hH => ?_)
      clear hK K
      try simp only [Act.put]
      refine wpAnyH_done (by kernel_rfl) ?_ _
      try simp only [Act.put]
      go_wp2_with fail
      exact ⟨⟨k + 1, by omega, by go_num, hH⟩, by simp [intOf]; omega⟩
    · obtain rfl : k = n := by omega
      go_wp2_with fail
      go_ret
      exact ⟨rfl, HBB.out.trans (HBE.out.mono HBB.out.size)⟩

theorem lawa_any (A : Option Addr) (l : List Ac) (n c : Nat) (w : World) (hr : Rd w w.heap.size A (rows Ac.cells l)) (hn : n = l.length) (hnc : n ≤ c) (hok : ∀ x ∈ l, x.ok) (hb : n ≤ 9223372036854775807) :
    Calls Try.prog 3 #[.slice A n c] w (Yes w) := by
  by_cases h : 100 < n
  · exact lawa_big A l n c w hr hn hnc hok h hb
  · rcases twoa l hok with h1 | ⟨bs, h1, h2, h3⟩
    · exact lawa_none A l n c w hr hn hnc hok (by omega) h1
    · refine lawa_some A l n c w hr hn hnc hok (by omega) bs h1 h2 h3 (Nat.pos_of_ne_zero (fun h0 => ?_))
      unfold putL at h1
      rw [if_pos (.inl (by omega))] at h1
      cases h1
end Go.Proofs.Ytjehghikmbalpaa
