/-
  The document's Clean, Says, Logs.
-/
import Derived.Test.YteahbalcielhpaaGreatDoorZ25
import Derived.Test.YteahbalcielhpaaGreatDoorZ16
import Derived.Test.YteahbalcielhpaaGreatDoorZ21
namespace Go.Proofs.YteahbalcielhpaaGreatDoor
open Go.RowKit
set_option maxRecDepth 10000

set_option maxHeartbeats 1000000 in
theorem rclean_any (x : LP) (B : Nat) (w : World) (hm : PlOk w B x.1 x.2) (hB : B ≤ w.heap.size) (h8 : x.1.xs.length = 8) :
    Calls Tryz.prog 15 #[.agg (x.1.cells x.2)] w (VE w (.bool (decide (cleanC x.1)))) := by
  have HB0 : Hid (Below w.heap.size w (w.alloc (.cells (x.1.cells x.2) 45))) := hid ((Below.refl _ _).alloc (Nat.le_refl _) _)
  have a31 : (w.alloc (.cells (x.1.cells x.2) 45)).cell? ⟨w.heap.size, 31, none⟩ = some (.slice x.2.B x.1.xs.length x.2.cB) := (Row.new w 45 (x.1.cells x.2)).cell 31
  have HIT := hid (fun (k : Nat) (h : k < x.1.xs.length) => (hm.below HB0.out hB).item k h)
  have hcB : x.1.xs.length ≤ x.2.cB := hm.cb
  have HCL : Hid ((∀ y ∈ x.1.xs.take 8, y.kind ≤ 1) → decide (cleanC x.1) = true) := hid fun h => decide_eq_true (by rw [List.take_of_length_le (by omega)] at h; exact h)
  have HNC : Hid (∀ y ∈ x.1.xs, 1 < y.kind → decide (cleanC x.1) = false) := hid fun y hy h => decide_eq_false (fun hc => by have := hc y hy; omega)
  generalize x.1.cells x.2 = Y at *
  generalize decide (cleanC x.1) = b at *
  generalize x.1.xs = xs at *
  generalize x.2 = p at *
  obtain ⟨A0, cA, B0, cB⟩ := p
  simp only at a31 HIT hcB
  rw [h8] at a31
  have h8c : 8 ≤ cB := by omega
  have H8 := hid h8
  clear hm h8 hcB
  go_enter Tryz.func15, Tryz.ntmps15
  go_wp2_with fail
  go_loop [3] (fun i => ∃ k : Nat, k ≤ 8 ∧ i = .int .i64 (k : Int) ∧ Hid (∀ y ∈ xs.take k, y.kind ≤ 1)) (fun i => 8 - (intOf i).toNat)
  case atStart => exact ⟨0, by omega, rfl, hid (fun y hy => by cases hy)⟩
  case round =>
    obtain ⟨k, hk, rfl, HT⟩ := hrel
    by_cases hlt : k < 8
    · have hkl : k < xs.length := by rw [H8.out]; exact hlt
      obtain ⟨g, o, rfl, -, hrg⟩ := HIT.out k hkl
      have c0 : (w.alloc (.cells Y 45)).cell? ⟨g, o + k * 15, none⟩ = some (.int .i64 xs[k].kind) := hrg 0 _ rfl
      have HM := hid (HNC.out xs[k] (List.getElem_mem hkl))
      have HTS : Hid (xs[k].kind ≤ 1 → ∀ y ∈ xs.take (k + 1), y.kind ≤ 1) := hid fun h y hy => by
        rw [List.take_succ_eq_append_getElem hkl] at hy
        rcases List.mem_append.1 hy with hy | hy
        · exact HT.out y hy
        · rw [List.mem_singleton.1 hy]; exact h
      have hi : (k : Int) < 8 := by omega
      have hi0 : (0 : Int) ≤ (k : Int) := by omega
      generalize xs[k].kind = v at *
      clear hrg hkl HIT
      by_cases hv : 1 < v
      · have HX := hid (HM.out hv)
        go_wp2_with fail
        go_ret
        exact ⟨by rw [HX.out]; rfl, HB0.out⟩
      · have HX := hid (HTS.out (by omega))
        go_wp2_with fail
        go_round
        case rel => exact ⟨k + 1, by omega, by go_num, HX⟩
        case measure => simp [intOf]; omega
    · obtain rfl : k = 8 := by omega
      have HX := hid (HCL.out HT.out)
      go_wp2_with fail
      go_ret
      exact ⟨by rw [HX.out]; rfl, HB0.out⟩
set_option maxHeartbeats 2000000 in
theorem rsays_any (x : LP) (n : Int) (B : Nat) (w : World) (hm : PlOk w B x.1 x.2) (hB : B ≤ w.heap.size) (h8 : x.1.xs.length = 8) (hc : 0 ≤ x.1.check.opn ∧ x.1.check.opn ≤ 72057594037927935) :
    Calls Tryz.prog 12 #[.agg (x.1.cells x.2), .int .i64 n] w (VE w (.agg (saysC x.1 n).cells)) := by
  have HZI := hid isize
  have HB1 : Hid (Below w.heap.size w ((w.alloc (.cells (x.1.cells x.2) 45)).alloc (.cells #[.int .i64 0, .int .i64 0, .int .i64 0, .int .i64 0, .int .u64 0, .int .u64 0, .int .i64 0, .int .i64 0, .int .i64 0, .int .u64 0, .int .i64 0, .int .i64 0, .int .i64 0, .int .i64 0, .string ⟨#[]⟩] 40))) := hid (((Below.refl _ _).alloc (Nat.le_refl _) _).alloc (by simp) _)
  have R2 : Hid (Row ((w.alloc (.cells (x.1.cells x.2) 45)).alloc (.cells #[.int .i64 0, .int .i64 0, .int .i64 0, .int .i64 0, .int .u64 0, .int .u64 0, .int .i64 0, .int .i64 0, .int .i64 0, .int .u64 0, .int .i64 0, .int .i64 0, .int .i64 0, .int .i64 0, .string ⟨#[]⟩] 40)) (w.heap.size + 1) 40 (#[.int .i64 0, .int .i64 0, .int .i64 0, .int .i64 0, .int .u64 0, .int .u64 0, .int .i64 0, .int .i64 0, .int .i64 0, .int .u64 0, .int .i64 0, .int .i64 0, .int .i64 0, .int .i64 0, .string ⟨#[]⟩] : Array Value).toList) := hid (by have h := Row.new (w.alloc (.cells (x.1.cells x.2) 45)) 40 #[.int .i64 0, .int .i64 0, .int .i64 0, .int .i64 0, .int .u64 0, .int .u64 0, .int .i64 0, .int .i64 0, .int .i64 0, .int .u64 0, .int .i64 0, .int .i64 0, .int .i64 0, .int .i64 0, .string ⟨#[]⟩]; rw [World.size_alloc] at h; exact h)
  have a12 : ((w.alloc (.cells (x.1.cells x.2) 45)).alloc (.cells #[.int .i64 0, .int .i64 0, .int .i64 0, .int .i64 0, .int .u64 0, .int .u64 0, .int .i64 0, .int .i64 0, .int .i64 0, .int .u64 0, .int .i64 0, .int .i64 0, .int .i64 0, .int .i64 0, .string ⟨#[]⟩] 40)).cell? ⟨w.heap.size, 12, none⟩ = some (.int .i64 x.1.check.opn) := ((Row.new w 45 (x.1.cells x.2)).alloc _).cell 12
  have a31 : ((w.alloc (.cells (x.1.cells x.2) 45)).alloc (.cells #[.int .i64 0, .int .i64 0, .int .i64 0, .int .i64 0, .int .u64 0, .int .u64 0, .int .i64 0, .int .i64 0, .int .i64 0, .int .u64 0, .int .i64 0, .int .i64 0, .int .i64 0, .int .i64 0, .string ⟨#[]⟩] 40)).cell? ⟨w.heap.size, 31, none⟩ = some (.slice x.2.B x.1.xs.length x.2.cB) := ((Row.new w 45 (x.1.cells x.2)).alloc _).cell 31
  have HIT := hid (fun (k : Nat) (h : k < x.1.xs.length) => (hm.below HB1.out hB).item k h)
  have hcB : x.1.xs.length ≤ x.2.cB := hm.cb
  have HY : Hid (∀ k (h : k < x.1.xs.length), x.1.check.opn + 1 + (k : Int) = n → saysC x.1 n = x.1.xs[k]) := hid fun k h e => by
    unfold saysC
    rw [if_pos (by omega), show n - 1 - x.1.check.opn = (k : Int) by omega, Int.toNat_natCast, List.getD_eq_getElem?_getD, List.getElem?_eq_getElem h]
    rfl
  have HNO : Hid ((∀ k : Nat, k < 8 → x.1.check.opn + 1 + (k : Int) ≠ n) → saysC x.1 n = it0) := hid fun h => by
    unfold saysC
    rw [if_neg]
    rintro ⟨h1, h2⟩
    exact h (n - 1 - x.1.check.opn).toNat (by omega) (by omega)
  generalize saysC x.1 n = S at *
  generalize x.1.cells x.2 = Y at *
  obtain ⟨ck, hck⟩ : ∃ c, x.1.check.opn = c := ⟨_, rfl⟩
  rw [hck] at a12 HY HNO hc
  generalize x.1.xs = xs at *
  generalize x.2 = p at *
  obtain ⟨A0, cA, B0, cB⟩ := p
  simp only at a31 HIT hcB
  rw [h8] at a31
  have h8c : 8 ≤ cB := by omega
  have H8 := hid h8
  obtain ⟨hc1, hc2⟩ := hc
  clear hm h8 hcB hck
  go_enter Tryz.func12, Tryz.ntmps12
  go_wp2_with fail
  go_loop [5] (fun i => ∃ k : Nat, k ≤ 8 ∧ i = .int .i64 (k : Int) ∧ Hid (∀ j : Nat, j < k → ck + 1 + (j : Int) ≠ n)) (fun i => 8 - (intOf i).toNat)
  case atStart => exact ⟨0, by omega, rfl, hid (fun j hj => absurd hj (Nat.not_lt_zero _))⟩
  case round =>
    obtain ⟨k, hk, rfl, HT⟩ := hrel
    by_cases hlt : k < 8
    · have hkl : k < xs.length := by rw [H8.out]; exact hlt
      have hi : (k : Int) < 8 := by omega
      have hi0 : (0 : Int) ≤ (k : Int) := by omega
      cases he : ((ck + 1 + (k : Int)) == n)
      · have HX : Hid (∀ j : Nat, j < k + 1 → ck + 1 + (j : Int) ≠ n) := hid fun j hj => by
          by_cases e : j = k
          · subst e; intro h; rw [h] at he; simp at he
          · exact HT.out j (by omega)
        clear HIT HY HNO
        go_wp2_with fail
        go_round
        case rel => exact ⟨k + 1, by omega, by go_num, HX⟩
        case measure => simp [intOf]; omega
      · have HX := hid (HY.out k hkl (by simpa using he))
        obtain ⟨g, o, rfl, -, hrg⟩ := HIT.out k hkl
        have HRG : Hid (((w.alloc (.cells Y 45)).alloc (.cells #[.int .i64 0, .int .i64 0, .int .i64 0, .int .i64 0, .int .u64 0, .int .u64 0, .int .i64 0, .int .i64 0, .int .i64 0, .int .u64 0, .int .i64 0, .int .i64 0, .int .i64 0, .int .i64 0, .string ⟨#[]⟩] 40)).rangeAt g (o + k * 15) xs[k].cells.toList) := hid hrg
        generalize xs[k] = X at *
        clear hrg hkl HIT HY HNO
        go_wp2_with (first
          | ((with_reducible show wpList _ _ _ ({ dst := some 22, op := _, type := _, pos := _, after := _, guard := _ } :: _) _ _); refine wpList_load_mid rfl 40 (.tmp 21) rfl g (o + k * 15) rfl (X.cells.toList) _ (HRG.out) Tryz.underlying40 rfl (by exact HZI.out) ?_)
          | ((with_reducible show wpList _ _ _ ({ dst := none, op := .store _ (.tmp 4) (.tmp 22), type := _, pos := _, after := _, guard := _ } :: _) _ _); refine wpl_store_st rfl (.tmp 4) (.tmp 22) rfl HZI.out (w.heap.size + 1) (#[.int .i64 0, .int .i64 0, .int .i64 0, .int .i64 0, .int .u64 0, .int .u64 0, .int .i64 0, .int .i64 0, .int .i64 0, .int .u64 0, .int .i64 0, .int .i64 0, .int .i64 0, .int .i64 0, .string ⟨#[]⟩]) (X.cells) rfl rfl (R2.out) ?_ (hid (by first | rfl | simp)) (hid (by first | rfl | simp)) (hid (itc_one _)); intro w9 hr9 hg9))
        rw [HX.out]
        exact bodyPost_ret (v := .agg X.cells) (results_cell_row rfl _ _ (w.heap.size + 1) 40 X.cells (0, 0) _ rfl (Row.arr (cs := X.cells) hr9) Tryz.underlying40 rfl HZI.out) rfl ⟨rfl, HB1.out.trans (below_grown hg9 (Nat.le_succ _) HB1.out.size)⟩
    · obtain rfl : k = 8 := by omega
      have HX := hid (HNO.out HT.out)
      go_wp2_with (first
        | ((with_reducible show wpList _ _ _ ({ dst := none, op := .store _ (.tmp 4) (.tmp 23), type := _, pos := _, after := _, guard := _ } :: _) _ _); refine wpl_store_st rfl (.tmp 4) (.tmp 23) rfl HZI.out (w.heap.size + 1) (#[.int .i64 0, .int .i64 0, .int .i64 0, .int .i64 0, .int .u64 0, .int .u64 0, .int .i64 0, .int .i64 0, .int .i64 0, .int .u64 0, .int .i64 0, .int .i64 0, .int .i64 0, .int .i64 0, .string ⟨#[]⟩]) (it0.cells) rfl rfl (R2.out) ?_ (hid (by first | rfl | simp)) (hid (by first | rfl | simp)) (hid (itc_one _)); intro w9 hr9 hg9))
      rw [HX.out]
      exact bodyPost_ret (v := .agg it0.cells) (results_cell_row rfl _ _ (w.heap.size + 1) 40 it0.cells (0, 0) _ rfl (Row.arr (cs := it0.cells) hr9) Tryz.underlying40 rfl HZI.out) rfl ⟨rfl, HB1.out.trans (below_grown hg9 (Nat.le_succ _) HB1.out.size)⟩
/-! ### Logs -/
theorem ls18_end (count : Int) (L : List LP) (j : Nat) (h5 : j ≤ 5) (h : count < (j : Int) + 1) : ls18 count L j = logsQ count L := by
  have key : ∀ d, j + d ≤ 5 → ls18 count L (j + d) = ls18 count L j := by
    intro d
    induction d with
    | zero => intro _; rfl
    | succ d ih =>
      intro hd
      have e : pk18 count L (j + d) = none := if_neg (by omega)
      rw [show j + (d + 1) = (j + d) + 1 by omega, ls18_snoc, e, ih (by omega)]
      exact List.append_nil _
  have := key (5 - j) (by omega)
  rw [show j + (5 - j) = 5 by omega] at this
  exact this.symm
/-- where the last one lies -/
def At18 (L : List LP) (who : Int) (k : Nat) (v : Int) : Prop := (v = -1 ∧ pickQ (L.take k) who = none) ∨ ∃ (j : Nat) (h : j < L.length), v = (j : Int) ∧ pickQ (L.take k) who = some L[j]
set_option maxHeartbeats 4000000 in
theorem rlogs_any (count : Int) (A : Option Addr) (L : List LP) (n c B : Nat) (w : World) (hr : Lm w B A L) (hf : ∀ x ∈ L, x.1.fits) (hn : n = L.length) (hc : n ≤ c) (hB : B ≤ w.heap.size) (hb : n ≤ 9223372036854775806) :
    Calls Tryz.prog 9 #[.int .i64 count, .slice A n c] w (LQ w (logsQ count L)) := by
  have HZS := hid mssize
  have HN := hid hn
  have HR : Hid (∀ W, Below w.heap.size w W → Lm W B A L) := hid fun W hW => hr.below hW hB
  have HRT := hid (fun (x : LP) (hx : x ∈ L) (W : World) (hW : Below w.heap.size w W) => rightm_any x.1 x.2 B W ((hr.pl x hx).below hW hB) (Nat.le_trans hB hW.size) (hf x hx))
  have HPS := hid (fun (who : Int) (k : Nat) (h : k < L.length) => pickQ_snoc L who k h)
  obtain ⟨i0, hi, hz0, hz1, hz2⟩ := info_parts infoMs
  have HNX : Hid (∀ (W : World) (X : List Value), Hid (Rd (W.alloc (.cells X.toArray 45)) (W.heap.size + 1) (some ⟨W.heap.size, 0, none⟩) X)) := hid fun W X => hid (new_rdM 45 W X)
  have HO0 : Hid ((w.alloc (.cells #[] 45)).ownsRow w.heap.size 45 33 (.slice (some ⟨w.heap.size, 0, none⟩) 0 0) 0 []) := hid (own_emptyM (Row.new w _ _) (Nat.le_refl _))
  have HB0 : Hid (Below w.heap.size w (w.alloc (.cells #[] 45))) := hid ((Below.refl _ _).alloc (Nat.le_refl _) _)
  clear hr hn hf
  go_enter Tryz.func9, Tryz.ntmps9
  go_wp2_with fail
  go_loopw [5, 6] (fun v i wr => ∃ j : Nat, j ≤ 5 ∧ i = .int .i64 ((j : Int) + 1) ∧ Hid (wr.ownsRow w.heap.size 45 33 v (ls18 count L j).length (rws lpC (ls18 count L j))) ∧ Hid (Below w.heap.size w wr)) (fun _ i _ => 6 - (intOf i).toNat)
  case atStart => exact ⟨0, by omega, rfl, HO0, HB0⟩
  case round =>
    clear HO0 HB0
    obtain ⟨j, hj, rfl, HO, HBE⟩ := hrel
    have hj0 : (0 : Int) ≤ (j : Int) := by omega
    have hj5 : (j : Int) ≤ 5 := by omega
    by_cases hcnt : (j : Int) + 1 ≤ count
    case neg =>
      have HE := hid (ls18_end count L j hj (by omega))
      have dc : decide ((j : Int) + 1 ≤ count) = false := decide_eq_false hcnt
      obtain ⟨A1, c1, rfl, hnc, hrd⟩ := own_rdM HO.out
      have HL := hid (HR.out wr HBE.out)
      rw [HE.out] at hnc hrd HO ⊢
      clear HE
      go_wp2_with fail
      go_ret
      exact ⟨A1, c1, rfl, hnc, HBE.out, hrd, fun x hx => (HL.out.pl x (logsQ_mem hx).1).le (Nat.le_trans hB HBE.out.size)⟩
    have dc : decide ((j : Int) + 1 ≤ count) = true := decide_eq_true hcnt
    by_cases h5 : j < 5
    case neg =>
      obtain rfl : j = 5 := by omega
      obtain ⟨A1, c1, rfl, hnc, hrd⟩ := own_rdM HO.out
      have HL := hid (HR.out wr HBE.out)
      go_wp2_with fail
      go_ret
      exact ⟨A1, c1, rfl, hnc, HBE.out, hrd, fun x hx => (HL.out.pl x (logsQ_mem hx).1).le (Nat.le_trans hB HBE.out.size)⟩
    have h5' : (j : Int) + 1 ≤ 5 := by omega
    have HPK : Hid (pk18 count L j = pickQ L ((j : Int) + 1)) := hid (if_pos hcnt)
    have HSN := hid (ls18_snoc count L j)
    have HLL := hid (ls18_len count L j)
    rw [HPK.out] at HSN
    clear HPK
    obtain ⟨wL, hwL⟩ : ∃ W, W = wr := ⟨wr, rfl⟩
    subst hwL
    obtain ⟨who, hwho⟩ : ∃ who, (j : Int) + 1 = who := ⟨_, rfl⟩
    rw [hwho] at HSN
    have HWHO := hid hwho
    obtain ⟨A1, c1, rfl, hnc, -⟩ := own_rdM HO.out
    clear hwho
    go_wp2_with fail
    go_loopw [7, 8] (fun v i wr => ∃ k : Nat, k ≤ n ∧ i = .int .i64 (k : Int) ∧ ∃ at_ : Int, v = .int .i64 at_ ∧ Hid (At18 L who k at_) ∧ Hid (Below wL.heap.size wL wr)) (fun _ i _ => n - (intOf i).toNat)
    case atStart => exact ⟨0, by omega, rfl, -1, rfl, hid (.inl ⟨rfl, rfl⟩), hid (Below.refl _ _)⟩
    case round =>
      obtain ⟨k, hk, rfl, at_, rfl, HAT, HW⟩ := hrel
      have HBX := hid (HBE.out.trans (HW.out.mono HBE.out.size))
      by_cases hlt : k < n
      · have hkl : k < L.length := by rw [← HN.out]; exact hlt
        obtain ⟨g, o, rfl, -, hrg⟩ := (HR.out wr HBX.out).at_ k hkl
        have HRG : Hid (wr.rangeAt g (o + k * 33) (Array.toList (L[k].1.cells L[k].2))) := hid hrg
        have c0 : wr.cell? ⟨g, o + k * 33, none⟩ = some (.int .i64 L[k].1.kind) := hrg 0 _ rfl
        have c1' : wr.cell? ⟨g, o + k * 33 + 1, none⟩ = some (.int .i64 L[k].1.frm) := hrg 1 _ rfl
        have HRX := hid (HRT.out L[k] (List.getElem_mem hkl) wr HBX.out)
        have HSKIP : Hid (¬ logOk who L[k].1 → At18 L who (k + 1) at_) := hid fun h => by
          unfold At18
          rw [HPS.out who k hkl, if_neg h]
          exact HAT.out
        have HTAKE : Hid (logOk who L[k].1 → At18 L who (k + 1) (k : Int)) := hid fun h => .inr ⟨k, hkl, rfl, by rw [HPS.out who k hkl, if_pos h]⟩
        generalize L[k] = X at *
        have hi1 : (k : Int) < (n : Int) := by omega
        have hi0 : (0 : Int) ≤ (k : Int) := by omega
        clear hrg hkl
        cases h7 : (X.1.kind == 7)
        case false =>
          have HX := hid (HSKIP.out (fun h => by have := h.1; rw [this] at h7; cases h7))
          go_wp2_with fail
          go_roundw
          case rel => exact ⟨k + 1, by omega, by go_num, at_, rfl, HX, HW⟩
          case measure => simp [intOf]; omega
        case true =>
          cases hw : (X.1.frm == (j : Int) + 1)
          case false =>
            have HX := hid (HSKIP.out (fun h => by have h1 := h.2.1; rw [← HWHO.out] at h1; rw [h1] at hw; simp at hw))
            go_wp2_with fail
            go_roundw
            case rel => exact ⟨k + 1, by omega, by go_num, at_, rfl, HX, HW⟩
            case measure => simp [intOf]; omega
          case true =>
            have HFR : Hid (X.1.frm = who) := hid (by rw [← HWHO.out]; simpa using hw)
            by_cases hrt : rightM X.1
            · rw [decide_eq_true hrt] at HRX
              have HX := hid (HTAKE.out ⟨by simpa using h7, HFR.out, hrt⟩)
              clear hrt
              go_wp2_with (first
                | ((with_reducible show wpList _ _ _ ({ dst := some 44, op := _, type := _, pos := _, after := _, guard := _ } :: _) _ _); refine wpl_load_midw rfl 45 (.tmp 43) rfl g (o + k * 33) rfl (Array.toList (X.1.cells X.2)) _ (HRG.out) Tryz.underlying45 rfl (by exact HZS.out) ?_)
                | (go_at_call 24; refine (HRX.out).mono ?_; rintro x w2 ⟨rfl, hb2⟩; have HW2 := hid (HW.out.trans (hb2.mono HW.out.size)); clear hb2))
              go_roundw
              case rel => exact ⟨k + 1, by omega, by go_num, k, rfl, HX, HW2⟩
              case measure => simp [intOf]; omega
            · rw [decide_eq_false hrt] at HRX
              have HX := hid (HSKIP.out (fun h => hrt h.2.2))
              clear hrt
              go_wp2_with (first
                | ((with_reducible show wpList _ _ _ ({ dst := some 44, op := _, type := _, pos := _, after := _, guard := _ } :: _) _ _); refine wpl_load_midw rfl 45 (.tmp 43) rfl g (o + k * 33) rfl (Array.toList (X.1.cells X.2)) _ (HRG.out) Tryz.underlying45 rfl (by exact HZS.out) ?_)
                | (go_at_call 24; refine (HRX.out).mono ?_; rintro x w2 ⟨rfl, hb2⟩; have HW2 := hid (HW.out.trans (hb2.mono HW.out.size)); clear hb2))
              go_roundw
              case rel => exact ⟨k + 1, by omega, by go_num, at_, rfl, HX, HW2⟩
              case measure => simp [intOf]; omega
      · obtain rfl : k = n := by omega
        have HO2 := hid (own_belowM HO.out HW.out)
        have HAT2 : Hid ((at_ = -1 ∧ pickQ L who = none) ∨ ∃ (u : Nat) (h : u < L.length), at_ = (u : Int) ∧ pickQ L who = some L[u]) := hid (by
          have h := HAT.out
          unfold At18 at h
          rw [List.take_of_length_le (by rw [HN.out]; exact Nat.le_refl _)] at h
          exact h)
        clear HAT HRT HPS HO
        rcases HAT2.out with ⟨rfl, hp⟩ | ⟨u, hu, rfl, hp⟩
        · rw [hp] at HSN
          have HSN2 : Hid (ls18 count L (j + 1) = ls18 count L j) := hid (by rw [HSN.out]; exact List.append_nil _)
          clear hp HSN HAT2
          go_wp2_with fail
          go_roundw
          case rel => exact ⟨j + 1, by omega, by go_num, by rw [HSN2.out]; exact HO2, HBX⟩
          case measure => simp [intOf]; omega
        · rw [hp] at HSN
          obtain ⟨g, o, rfl, -, hrg⟩ := (HR.out wr HBX.out).at_ u hu
          have HRG : Hid (wr.rangeAt g (o + u * 33) (Array.toList (L[u].1.cells L[u].2))) := hid hrg
          generalize L[u] = X at *
          have hu1 : (u : Int) < (k : Int) := by have := HN.out; omega
          have hu0 : (0 : Int) ≤ (u : Int) := by omega
          clear hp hrg HAT2
          go_wp2_with (first
            | ((with_reducible show wpList _ _ _ ({ dst := some 54, op := _, type := _, pos := _, after := _, guard := _ } :: _) _ _); refine wpList_load_mid rfl 45 (.tmp 53) rfl g (o + u * 33) rfl (Array.toList (X.1.cells X.2)) _ (HRG.out) Tryz.underlying45 rfl (by exact HZS.out) ?_)
            | (refine wpl_slice1M rfl 22 45 (.tmp 54) rfl i0 _ 33 Tryz.underlying22 hi hz0 hz1 (by decide) (by decide) (Array.toList (X.1.cells X.2)) rfl rfl ?_)
            | (refine wpl_append rfl (.tmp 50) (.tmp 55) 22 rfl w.heap.size 45 i0 _ 33 312 Tryz.underlying22 hi hz0 hz1 hz2 rfl (by omega) (.slice A1 (ls18 count L j).length c1) (ls18 count L j).length _ rfl (own_allocM HO2.out _) (wr.heap.size + 1) (some ⟨wr.heap.size, 0, none⟩) 1 1 (Array.toList (X.1.cells X.2)) rfl ?_ (HNX.out wr (Array.toList (X.1.cells X.2))) (hid rfl) (hid (by have := msc_one X.1 X.2; rw [Array.all_eq_true'] at this; intro u hu; exact this u (by simpa using hu))) (hid (le_maxLen (by have := HLL.out; omega))) (hid (by have := HLL.out; omega)) (hid (by have := HBX.out.size; simp; omega)); intro v6 w6 hown6 hb6 hg6; have HO6 := hid hown6; have HB6 := hid ((HBX.out.alloc HBX.out.size (.cells (Array.toList (X.1.cells X.2)).toArray 45)).trans hb6); clear hown6 hb6 hg6))
          go_roundw
          case rel =>
            refine ⟨j + 1, by omega, by go_num, ?_, HB6⟩
            refine hid ?_
            rw [HSN.out, rws_app, List.length_append]
            exact HO6.out
          case measure => simp [intOf]; omega
end Go.Proofs.YteahbalcielhpaaGreatDoor
/-
  The walk of ChooseWaits.
-/
namespace Go.Proofs.YteahbalcielhpaaGreatDoor
open Go.RowKit
set_option maxRecDepth 10000

def clQ (x : LP) : Bool := decide (cleanC x.1)
theorem all_snoc18 {α : Type} (f : α → Bool) (l : List α) (k : Nat) (h : k < l.length) : (l.take (k + 1)).all f = ((l.take k).all f && f l[k]) := by
  rw [List.take_succ_eq_append_getElem h, List.all_append]
  simp
theorem waits_Q {count : Int} {L : List LP} (h1 : ((logsQ count L).length : Int) ≠ count) (h2 : ¬ ((logsQ count L).all clQ = true ∧ count < 2 * ((logsQ count L).length : Int))) : (chooseC count (L.map Prod.fst)).ready = false := by
  have hl : (logsC count (L.map Prod.fst)).length = (logsQ count L).length := by rw [← logsQ_eq, List.length_map]
  refine waits_C ?_ ?_
  · rw [hl]; exact h1
  · rw [hl]
    rintro ⟨ha, hb⟩
    refine h2 ⟨?_, hb⟩
    rw [List.all_eq_true]
    intro x hx
    exact decide_eq_true (ha x.1 (by rw [← logsQ_eq]; exact List.mem_map_of_mem hx))
set_option maxHeartbeats 4000000 in
theorem waits_law (count : Int) (A : Option Addr) (L : List LP) (n c : Nat) (w : World) (hr : Lm w w.heap.size A L) (hf : ∀ x ∈ L, x.1.fits) (hn : n = L.length) (hc : n ≤ c) (hb : n ≤ 9223372036854775807) (hfd : Fd w) (hmd : Md w) :
    Calls Tryz.prog 5 #[.int .i64 count, .slice A n c] w (Yes w) := by
  have HA := hid (awake18_any w hfd hmd)
  have HGR := hid (fun (W : World) (hW : Below w.heap.size w W) => great_any A L n c w.heap.size W (hr.below hW (Nat.le_refl _)) hn hc hb)
  have HCH := hid (fun (hn12 : n ≤ 12) (W : World) (hW : Below w.heap.size w W) => choose_any count A L n c w.heap.size W (hr.below hW (Nat.le_refl _)) hf hn hc hW.size (by omega) (hfd.below hW hfd.1) (hmd.below hW hmd.1))
  have HLO := hid (fun (hn12 : n ≤ 12) (W : World) (hW : Below w.heap.size w W) => rlogs_any count A L n c w.heap.size W (hr.below hW (Nat.le_refl _)) hf hn hc hW.size (by omega))
  have HWT := hid (@waits_Q count L)
  have HLF := hid (logsQ_fits (count := count) hf)
  have HLL := hid (logsQ_len count L)
  have HZS := hid mssize
  clear hr hf hn hfd hmd
  by_cases h12 : n ≤ 12
  case neg =>
    clear HCH HLO
    go_enter Tryz.func5, Tryz.ntmps5
    go_wp2_with (first
          | (go_at_call 6; refine (HA.out).mono ?_; rintro x w1 ⟨rfl, hb⟩; have HB1 := hid hb; clear hb)
          | (go_at_call 7; refine (HGR.out _ HB1.out).mono ?_; rintro x w2 ⟨b, rfl, hb12, rfl⟩))
    · go_ret
      exact ⟨rfl, HB1.out⟩
    · exact absurd (hb12 (by assumption)) h12
  have HCX := hid (HCH.out h12)
  have HLX := hid (HLO.out h12)
  clear HCH HLO
  obtain ⟨X, hX⟩ : ∃ X, chooseC count (L.map Prod.fst) = X := ⟨_, rfl⟩
  rw [hX] at HWT HCX
  clear hX
  generalize logsQ count L = M at *
  obtain ⟨m, hm⟩ : ∃ m, m = M.length := ⟨_, rfl⟩
  have HM := hid hm
  have hm5 : m ≤ 5 := by have := HLL.out; omega
  have hm5' : (m : Int) ≤ 5 := by omega
  clear hm
  go_enter Tryz.func5, Tryz.ntmps5
  go_wp2_with (first
      | (go_at_call 6; refine (HA.out).mono ?_; rintro x w1 ⟨rfl, hb⟩; have HB1 := hid hb; clear hb)
      | (go_at_call 7; refine (HGR.out _ HB1.out).mono ?_; rintro x w2 ⟨b, rfl, hb12, rfl⟩)
      | (go_at_call 9; refine (HLX.out _ HB1.out).mono ?_; rintro x w3 ⟨A1, c1, rfl, hc1, hb3, hlm⟩; rw [← HM.out] at hc1 ⊢; have HB3 := hid (HB1.out.trans (hb3.mono HB1.out.size)); have HLM := hid hlm; clear hb3 hlm))
  · go_ret
    exact ⟨rfl, HB1.out⟩
  have hbf : b = false := by assumption
  subst hbf
  go_loopw [6, 7] (fun v i wr => ∃ k : Nat, k ≤ m ∧ i = .int .i64 (k : Int) ∧ ∃ cl : Bool, v = .bool cl ∧ Hid ((M.take k).all clQ = cl) ∧ Hid (Below w3.heap.size w3 wr)) (fun _ i _ => m - (intOf i).toNat)
  case atStart => exact ⟨0, by omega, rfl, true, rfl, hid rfl, hid (Below.refl _ _)⟩
  case round =>
    obtain ⟨k, hk, rfl, cl, rfl, HT, HW⟩ := hrel
    have HBX := hid (HB3.out.trans (HW.out.mono HB3.out.size))
    by_cases hlt : k < m
    · have hkl : k < M.length := by rw [← HM.out]; exact hlt
      have hi1 : (k : Int) < (m : Int) := by omega
      have hi0 : (0 : Int) ≤ (k : Int) := by omega
      have HSN := hid (all_snoc18 clQ M k hkl)
      rw [HT.out] at HSN
      cases cl
      · have HX : Hid ((M.take (k + 1)).all clQ = false) := hid (by rw [HSN.out]; rfl)
        clear HSN HT hkl
        go_wp2_with fail
        go_roundw
        case rel => exact ⟨k + 1, by omega, by go_num, false, rfl, HX, HW⟩
        case measure => simp [intOf]; omega
      · have HL3 := hid (HLM.out.below HW.out (Nat.le_refl _))
        obtain ⟨g, o, rfl, hg, hrg⟩ := HL3.out.at_ k hkl
        have HRG : Hid (wr.rangeAt g (o + k * 33) (Array.toList (M[k].1.cells M[k].2))) := hid hrg
        have HCL := hid (rclean_any M[k] w3.heap.size wr (HL3.out.pl _ (List.getElem_mem hkl)) HW.out.size (HLF.out.xs (List.getElem_mem hkl)))
        have HX : Hid ((M.take (k + 1)).all clQ = decide (cleanC M[k].1)) := hid (by rw [HSN.out]; rfl)
        generalize M[k] = Y at *
        generalize decide (cleanC Y.1) = d at *
        clear HSN HT hkl hrg hg
        go_wp2_with (first
          | ((with_reducible show wpList _ _ _ ({ dst := some 26, op := _, type := _, pos := _, after := _, guard := _ } :: _) _ _); refine wpl_load_midw rfl 45 (.tmp 25) rfl g (o + k * 33) rfl (Array.toList (Y.1.cells Y.2)) _ (HRG.out) Tryz.underlying45 rfl (by exact HZS.out) ?_)
          | (go_at_call 15; refine (HCL.out).mono ?_; rintro x w4 ⟨rfl, hb4⟩; have HW2 := hid (HW.out.trans (hb4.mono HW.out.size)); clear hb4))
        go_roundw
        case rel => exact ⟨k + 1, by omega, by go_num, d, rfl, HX, HW2⟩
        case measure => simp [intOf]; omega
    · obtain rfl : k = m := by omega
      have HT2 : Hid (M.all clQ = cl) := hid (by
        have h := HT.out
        rw [List.take_of_length_le (by rw [HM.out]; exact Nat.le_refl _)] at h
        exact h)
      rw [HT2.out, ← HM.out] at HWT
      clear HT HLM HLF HLL HGR HA
      cases h1 : ((k : Int) == count)
      case true =>
        go_wp2_with fail
        go_ret
        exact ⟨rfl, HBX.out⟩
      have h1' : (k : Int) ≠ count := by intro e; rw [e] at h1; simp at h1
      by_cases h2 : count < 2 * (k : Int)
      · cases cl
        · have hrd := HWT.out h1' (by rintro ⟨h, -⟩; cases h)
          obtain ⟨r, mm, cm, es⟩ := X
          simp only at hrd
          subst hrd
          have HCE := hid (HCX.out wr HBX.out)
          clear HCX HWT h1'
          go_wp2_with (first
            | (go_at_call 8; refine HCE.out.mono ?_; rintro x w5 ⟨A2, c2, rfl, -, hb2, -⟩)
            | ((with_reducible show wpList _ _ _ ({ dst := some 46, op := _, type := _, pos := _, after := _, guard := _ } :: _) _ _); refine wpl_run rfl (.bool false) (fun _ => by kernel_rfl) ?_))
          go_ret
          exact ⟨rfl, HBX.out.trans (hb2.mono HBX.out.size)⟩
        · have d2 : decide (count < 2 * (k : Int)) = true := decide_eq_true h2
          go_wp2_with fail
          go_ret
          exact ⟨rfl, HBX.out⟩
      · have hrd := HWT.out h1' (fun h => h2 h.2)
        have d2 : decide (count < 2 * (k : Int)) = false := decide_eq_false h2
        cases cl
        · obtain ⟨r, mm, cm, es⟩ := X
          simp only at hrd
          subst hrd
          have HCE := hid (HCX.out wr HBX.out)
          clear HCX HWT h1'
          go_wp2_with (first
            | (go_at_call 8; refine HCE.out.mono ?_; rintro x w5 ⟨A2, c2, rfl, -, hb2, -⟩)
            | ((with_reducible show wpList _ _ _ ({ dst := some 46, op := _, type := _, pos := _, after := _, guard := _ } :: _) _ _); refine wpl_run rfl (.bool false) (fun _ => by kernel_rfl) ?_))
          go_ret
          exact ⟨rfl, HBX.out.trans (hb2.mono HBX.out.size)⟩
        · obtain ⟨r, mm, cm, es⟩ := X
          simp only at hrd
          subst hrd
          have HCE := hid (HCX.out wr HBX.out)
          clear HCX HWT h1'
          go_wp2_with (first
            | (go_at_call 8; refine HCE.out.mono ?_; rintro x w5 ⟨A2, c2, rfl, -, hb2, -⟩)
            | ((with_reducible show wpList _ _ _ ({ dst := some 46, op := _, type := _, pos := _, after := _, guard := _ } :: _) _ _); refine wpl_run rfl (.bool false) (fun _ => by kernel_rfl) ?_))
          go_ret
          exact ⟨rfl, HBX.out.trans (hb2.mono HBX.out.size)⟩
end Go.Proofs.YteahbalcielhpaaGreatDoor
