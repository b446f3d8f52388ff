/-
  The laws' great.
-/
import Derived.Test.YteahbalcielhpaaDoorM21
namespace Go.Proofs.YteahbalcielhpaaDoor
open Go.RowKit
set_option maxRecDepth 10000

/-- what great answers: no more than twelve, if it says no -/
def GR (w : World) (n : Nat) (e : Ending) (w' : World) : Prop := ∃ b : Bool, e = .returned (.bool b) ∧ (b = false → n ≤ 12) ∧ w = w'
theorem PlOk.entry {W : World} {B : Nat} {m : Ms} {p : Pl} (h : PlOk W B m p) (k : Nat) (hk : k < m.es.length) : ∃ g o, p.A = some ⟨g, o, none⟩ ∧ g < B ∧ W.rangeAt g (o + k * 9) m.es[k].cells.toList :=
  rws_at (n := 9) (fun _ => rfl) h.a k hk (by omega)
set_option maxHeartbeats 4000000 in
theorem great_any (A : Option Addr) (L : List LP) (n c B : Nat) (w : World) (hr : Lm w B A L) (hn : n = L.length) (hc : n ≤ c) (hb : n ≤ 9223372036854775807) :
    Calls Tryd.prog 6 #[.slice A n c] w (GR w n) := by
  by_cases h12 : 12 < n
  · have h12' : (12 : Int) < (n : Int) := by omega
    clear hr hn
    go_enter Tryd.func6, Tryd.ntmps6
    go_wp2_with fail
    go_ret
    exact ⟨true, rfl, (by intro h; cases h), rfl⟩
  have h12' : ¬ (12 : Int) < (n : Int) := by omega
  have HN := hid hn
  have HR := hid hr
  have HNN : Hid (n ≤ 12) := hid (by omega)
  clear hr hn h12
  go_enter Tryd.func6, Tryd.ntmps6
  go_wp2_with fail
  go_loop [3] (fun i => ∃ k : Nat, k ≤ n ∧ i = .int .i64 (k : Int)) (fun i => n - (intOf i).toNat)
  case atStart => exact ⟨0, by omega, rfl⟩
  case round =>
    obtain ⟨k, hk, rfl⟩ := hrel
    by_cases hlt : k < n
    · have hkl : k < L.length := by rw [← HN.out]; exact hlt
      obtain ⟨g, o, rfl, -, hrg⟩ := HR.out.at_ k hkl
      have HP := hid (HR.out.pl L[k] (List.getElem_mem hkl))
      have c31 : w.cell? ⟨g, o + k * 33 + 31, none⟩ = some (.slice L[k].2.B L[k].1.xs.length L[k].2.cB) := hrg 31 _ rfl
      have c30 : w.cell? ⟨g, o + k * 33 + 30, none⟩ = some (.slice L[k].2.A L[k].1.es.length L[k].2.cA) := hrg 30 _ rfl
      generalize L[k] = X at *
      have hi : (k : Int) < (n : Int) := by omega
      have hi0 : (0 : Int) ≤ (k : Int) := by omega
      clear hrg hkl
      by_cases hq : 20 < X.1.xs.length
      · have hq' : (20 : Int) < (X.1.xs.length : Int) := by omega
        clear hq
        go_wp2_with fail
        go_ret
        exact ⟨true, rfl, (by intro h; cases h), rfl⟩
      have hq' : ¬ (20 : Int) < (X.1.xs.length : Int) := by omega
      have dq : decide ((20 : Int) < (X.1.xs.length : Int)) = false := decide_eq_false hq'
      by_cases hp : 20 < X.1.es.length
      · have hp' : (20 : Int) < (X.1.es.length : Int) := by omega
        clear hp
        go_wp2_with fail
        go_ret
        exact ⟨true, rfl, (by intro h; cases h), rfl⟩
      have hp' : ¬ (20 : Int) < (X.1.es.length : Int) := by omega
      have HA := hid (fun (u : Nat) (h : u < X.1.xs.length) => HP.out.item u h)
      have HE := hid (fun (u : Nat) (h : u < X.1.es.length) => HP.out.entry u h)
      obtain ⟨⟨kind, frm, view, lv, opn, commit, client, session, request, oper, index, size, check, sums, entry, es, xs, body⟩, ⟨A1, cA, B1, cB⟩⟩ := X
      simp only at c31 c30 hq' dq hp' HA HE hq hp
      have hcA : es.length ≤ cA := HP.out.ca
      have hcB : xs.length ≤ cB := HP.out.cb
      clear HP HR
      go_wp2_with fail
      go_loop [4] (fun j => ∃ u : Nat, u ≤ xs.length ∧ j = .int .i64 (u : Int)) (fun j => xs.length - (intOf j).toNat)
      case atStart => exact ⟨0, by omega, rfl⟩
      case round =>
        obtain ⟨u, hu, rfl⟩ := hrel
        by_cases hlu : u < xs.length
        · obtain ⟨g1, o1, rfl, -, hrg1⟩ := HA.out u hlu
          have cb : w.cell? ⟨g1, o1 + u * 15 + 6 + 8, none⟩ = some (.string xs[u].entry.body) := by rw [Nat.add_assoc]; exact hrg1 14 _ rfl
          generalize xs[u].entry.body = s at *
          have hj : (u : Int) < (xs.length : Int) := by omega
          have hj0 : (0 : Int) ≤ (u : Int) := by omega
          clear hrg1 HA
          by_cases hbg : 1000 < s.size
          · have hbg' : (1000 : Int) < (s.size : Int) := by omega
            clear hbg
            go_wp2_with fail
            go_ret
            exact ⟨true, rfl, (by intro h; cases h), rfl⟩
          · have hbg' : ¬ (1000 : Int) < (s.size : Int) := by omega
            clear hbg
            go_wp2_with fail
            go_round
            case rel => exact ⟨u + 1, by omega, by go_num⟩
            case measure => simp [intOf]; omega
        · obtain rfl : u = xs.length := by omega
          clear HA
          go_wp2_with fail
          go_loop [5] (fun j => ∃ u : Nat, u ≤ es.length ∧ j = .int .i64 (u : Int)) (fun j => es.length - (intOf j).toNat)
          case atStart => exact ⟨0, by omega, rfl⟩
          case round =>
            obtain ⟨u, hu2, rfl⟩ := hrel
            by_cases hlu2 : u < es.length
            · obtain ⟨g1, o1, rfl, -, hrg1⟩ := HE.out u hlu2
              have cb : w.cell? ⟨g1, o1 + u * 9 + 8, none⟩ = some (.string es[u].body) := hrg1 8 _ rfl
              generalize es[u].body = s at *
              have hj : (u : Int) < (es.length : Int) := by omega
              have hj0 : (0 : Int) ≤ (u : Int) := by omega
              clear hrg1 HE
              by_cases hbg : 1000 < s.size
              · have hbg' : (1000 : Int) < (s.size : Int) := by omega
                clear hbg
                go_wp2_with fail
                go_ret
                exact ⟨true, rfl, (by intro h; cases h), rfl⟩
              · have hbg' : ¬ (1000 : Int) < (s.size : Int) := by omega
                clear hbg
                go_wp2_with fail
                go_round
                case rel => exact ⟨u + 1, by omega, by go_num⟩
                case measure => simp [intOf]; omega
            · obtain rfl : u = es.length := by omega
              clear HE
              go_wp2_with fail
              go_round
              case rel => exact ⟨k + 1, by omega, by go_num⟩
              case measure => simp [intOf]; omega
    · obtain rfl : k = n := by omega
      go_wp2_with fail
      go_ret
      exact ⟨false, rfl, fun _ => HNN.out, rfl⟩
end Go.Proofs.YteahbalcielhpaaDoor
