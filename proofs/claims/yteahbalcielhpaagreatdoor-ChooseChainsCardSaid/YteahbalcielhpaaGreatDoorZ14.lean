/-
  The document's Same of lists of entries.
-/
import Derived.Test.YteahbalcielhpaaGreatDoorZ12
import Derived.Test.YteahbalcielhpaaGreatDoorZ13
import Derived.Test.YteahbalcielhpaaGreatDoorZ10
import Derived.Test.YteahbalcielhpaaGreatDoorZ07
namespace Go.Proofs.YteahbalcielhpaaGreatDoor
open Go.RowKit
set_option maxRecDepth 10000

theorem rws_len {α : Type} {C : α → List Value} {n : Nat} (hC : ∀ x, (C x).length = n) : ∀ l : List α, (rws C l).length = l.length * n
  | [] => by simp [rws]
  | x :: r => by
    have h1 := rws_len hC r
    unfold rws at h1 ⊢
    rw [List.map_cons, List.flatten_cons, List.length_append, h1, hC, List.length_cons, Nat.add_mul]
    omega
theorem rws_get {α : Type} {C : α → List Value} {n : Nat} (hC : ∀ x, (C x).length = n) (l : List α) (i j : Nat) (hi : i < l.length) (hj : j < n) : (rws C l)[i * n + j]? = (C l[i])[j]? := by
  unfold rws
  rw [flatM_get n _ i j (by intro r hr; obtain ⟨x, _, rfl⟩ := List.mem_map.1 hr; exact hC x) hj, List.getElem?_map, List.getElem?_eq_getElem hi]
  rfl
/-- one of a list that lies somewhere -/
theorem rws_at {α : Type} {C : α → List Value} {n : Nat} (hC : ∀ x, (C x).length = n) {w : World} {B : Nat} {A : Option Addr} {l : List α} (h : Rd w B A (rws C l)) (k : Nat) (hk : k < l.length) (hn : 0 < n) :
    ∃ g o, A = some ⟨g, o, none⟩ ∧ g < B ∧ w.rangeAt g (o + k * n) (C l[k]) := by
  have hlen := rws_len hC l
  obtain ⟨g, o, e, hg, hx⟩ := h (by
    intro e
    rw [e, List.length_nil] at hlen
    have h0 : 0 < l.length * n := Nat.mul_pos (by omega) hn
    omega)
  refine ⟨g, o, e, hg, fun j v hv => ?_⟩
  have hj : j < n := by rw [← hC l[k]]; exact (List.getElem?_eq_some_iff.1 hv).1
  rw [Nat.add_assoc]
  exact hx (k * n + j) v (by rw [rws_get hC l k j hk hj]; exact hv)
theorem take_snoc_eq {α : Type} (l k : List α) (i : Nat) (hl : i < l.length) (hk : i < k.length) (h : l.take i = k.take i) (h2 : l[i] = k[i]) : l.take (i + 1) = k.take (i + 1) := by
  rw [List.take_succ_eq_append_getElem hl, List.take_succ_eq_append_getElem hk, h, h2]
theorem ne_of_get {α : Type} (l k : List α) (i : Nat) (hl : i < l.length) (hk : i < k.length) (h2 : l[i] ≠ k[i]) : l ≠ k := by
  intro e
  subst e
  exact h2 rfl
set_option maxHeartbeats 1000000 in
theorem samee_any (A A' : Option Addr) (l k : List En) (n n' c c' B : Nat) (w : World) (hr : Rd w B A (rws (fun e : En => e.cells.toList) l)) (hr' : Rd w B A' (rws (fun e : En => e.cells.toList) k)) (hn : n = l.length) (hn' : n' = k.length) (hc : n ≤ c) (hc' : n' ≤ c') (hB : B ≤ w.heap.size)
    (hb : n ≤ 9223372036854775807) (hb' : n' ≤ 9223372036854775807) :
    Calls Tryz.prog 58 #[.slice A n c, .slice A' n' c'] w (VE w (.bool (decide (l = k)))) := by
  by_cases hne : n = n'
  · subst hne
    have HN := hid hn
    have HN' := hid hn'
    have HR := hid hr
    have HR' := hid hr'
    have HZ := hid esize
    clear hn hn' hr hr'
    have hbe := Below.refl w.heap.size w
    go_enter Tryz.func58, Tryz.ntmps58
    go_wp2_with fail
    go_loopw [5] (fun i wr => ∃ q : Nat, q ≤ n ∧ i = .int .i64 (q : Int) ∧ Hid (l.take q = k.take q) ∧ Below w.heap.size w wr) (fun i _ => n - (intOf i).toNat)
    case atStart => exact ⟨0, by omega, rfl, hid rfl, hbe⟩
    case round =>
      obtain ⟨q, hq, rfl, HT, hbe2⟩ := hrel
      have HBE := hid hbe2
      by_cases hlt : q < n
      · have hql : q < l.length := by rw [← HN.out]; exact hlt
        have hqk : q < k.length := by rw [← HN'.out]; exact hlt
        obtain ⟨g, o, rfl, hg, hrg⟩ := rws_at (n := 9) (fun _ => rfl) (HR.out.below HBE.out hB) q hql (by omega)
        obtain ⟨g', o', rfl, hg', hrg'⟩ := rws_at (n := 9) (fun _ => rfl) (HR'.out.below HBE.out hB) q hqk (by omega)
        have HNX := hid (take_snoc_eq l k q hql hqk HT.out)
        have HNO := hid (ne_of_get l k q hql hqk)
        have HRG : Hid (∀ W, wr.drew = W → W.rangeAt g (o + q * 9) l[q].cells.toList) := hid (by rintro W rfl; exact hrg)
        have HRG' : Hid (∀ W, wr.drew = W → W.rangeAt g' (o' + q * 9) k[q].cells.toList) := hid (by rintro W rfl; exact hrg')
        have hi : (q : Int) < (n : Int) := by omega
        have hi0 : (0 : Int) ≤ (q : Int) := by omega
        have HEQ : Hid (decide (l[q] = k[q]) = true ↔ l[q] = k[q]) := hid (by simp)
        generalize l[q] = X at *
        generalize k[q] = Y at *
        generalize decide (X = Y) = b at HEQ
        clear hrg hrg' hql hqk hg hg' HR HR' HT hbe2
        go_wp2_with fail
        refine wp_region_held_drew (S := (fun W => wr.drew = W)) (by kernel_rfl) (rfl) (fun hH => ?_)
        refine tk_ (i := 0) (v := .slice (some ⟨g, o, none⟩) n c) rfl (Or.inl ⟨by rfl, fun w' hw' => by clear hw'; go_simp⟩) hH ?_
        simp only [Act.put, la1, la3, la4, la5, la6]
        refine tk_ (i := 1) (v := .int .i64 (q : Int)) rfl (Or.inl ⟨by rfl, fun w' hw' => by clear hw'; go_simp⟩) hH ?_
        simp only [Act.put, la1, la2, la3, la4, la5, la6]
        refine tk_ (i := 2) (v := .pointer (some ⟨g, o + q * 9, none⟩)) rfl (Or.inl ⟨by rfl, fun w' hw' => by clear hw'; go_simp⟩) hH ?_
        simp only [Act.put, la1, la2, la3, la4, la5, la6]
        refine tk_ (i := 3) (v := .agg (X.cells)) rfl (yieldsIf_load_mid rfl 35 (.tmp 19) rfl (g) (o + q * 9) rfl (Array.toList (X.cells)) _ (fun W hW => HRG.out W hW) Tryz.underlying35 rfl (by exact HZ.out)) hH ?_
        simp only [Act.put, la1, la2, la3, la4, la5, la6]
        refine tk_ (i := 4) (v := .slice (some ⟨g', o', none⟩) n c') rfl (Or.inl ⟨by rfl, fun w' hw' => by clear hw'; go_simp⟩) hH ?_
        simp only [Act.put, la1, la2, la3, la4, la5, la6]
        refine tk_ (i := 5) (v := .int .i64 (q : Int)) rfl (Or.inl ⟨by rfl, fun w' hw' => by clear hw'; go_simp⟩) hH ?_
        simp only [Act.put, la1, la2, la3, la4, la5, la6]
        refine tk_ (i := 6) (v := .pointer (some ⟨g', o' + q * 9, none⟩)) rfl (Or.inl ⟨by rfl, fun w' hw' => by clear hw'; go_simp⟩) hH ?_
        simp only [Act.put, la1, la2, la3, la4, la5, la6]
        refine tk_ (i := 7) (v := .agg (Y.cells)) rfl (yieldsIf_load_mid rfl 35 (.tmp 23) rfl (g') (o' + q * 9) rfl (Array.toList (Y.cells)) _ (fun W hW => HRG'.out W hW) Tryz.underlying35 rfl (by exact HZ.out)) hH ?_
        simp only [Act.put, la1, la2, la3, la4, la5, la6]
        refine tk_ (i := 8) (v := .bool (!b)) rfl (yields_nee2 (by kernel_rfl) X Y b HEQ (.tmp 20) (.tmp 24) _ rfl (by kernel_rfl) (by kernel_rfl)) hH ?_
        simp only [Act.put, la1, la2, la3, la4, la5, la6]
        refine wpAnyH_done (by kernel_rfl) ?_ _
        try simp only [Act.put, la1, la2, la3, la4, la5, la6]
        cases b
        · go_wp2_with fail
          go_ret
          exact ⟨by
            have hh : ¬ X = Y := fun e => by have := HEQ.out.2 e; cases this
            rw [decide_eq_false (HNO.out hh)]; rfl, HBE.out.drew⟩
        · go_wp2_with fail
          go_roundw
          case rel => exact ⟨q + 1, by omega, by go_num, hid (HNX.out (HEQ.out.1 rfl)), HBE.out.drew⟩
          case measure => simp [intOf]; omega
      · obtain rfl : q = n := by omega
        have HE : Hid (l = k) := hid (by
          have := HT.out
          rwa [List.take_of_length_le (by rw [← HN.out]; omega), List.take_of_length_le (by rw [← HN'.out]; omega)] at this)
        go_wp2_with fail
        go_ret
        exact ⟨by rw [decide_eq_true HE.out]; rfl, HBE.out⟩
  · have e : decide (l = k) = false := decide_eq_false (fun e => hne (by rw [hn, hn', e]))
    rw [e]
    have hnz : (n : Int) ≠ (n' : Int) := by omega
    clear hr hr' hn hn' e
    go_enter Tryz.func58, Tryz.ntmps58
    go_wp2_with fail
    go_ret
    exact ⟨rfl, Below.refl _ _⟩
end Go.Proofs.YteahbalcielhpaaGreatDoor
/-
  The document's Same of messages.
-/
namespace Go.Proofs.YteahbalcielhpaaGreatDoor
open Go.RowKit
set_option maxRecDepth 10000

theorem isize : (Tryz.prog.info? 40).map (·.size) = some 15 := by kernel_rfl
theorem mssize : (Tryz.prog.info? 45).map (·.size) = some 33 := by kernel_rfl
theorem size6 : (Tryz.prog.info? 42).map (·.size) = some 6 := by kernel_rfl
section
variable {W : World} {g : Nat} {m : Ms} {p : Pl}
theorem ms_check (h : Row W g 45 (m.cells p).toList) : W.rangeAt g 12 m.check.cells.toList := fun j v hv => by
  rw [h.cell, show (m.cells p).toList = (m.cells p).toList.take 12 ++ (m.check.cells.toList ++ (m.cells p).toList.drop 15) from rfl, List.getElem?_append_right (by simp [Ms.cells])]
  rw [show 12 + j - ((m.cells p).toList.take 12).length = j by simp [Ms.cells], List.getElem?_append_left (List.getElem?_eq_some_iff.1 hv).1]
  exact hv
theorem ms_sums (h : Row W g 45 (m.cells p).toList) : W.rangeAt g 15 (sixV m.sums).toList := fun j v hv => by
  rw [h.cell, show (m.cells p).toList = (m.cells p).toList.take 15 ++ ((sixV m.sums).toList ++ (m.cells p).toList.drop 21) from rfl, List.getElem?_append_right (by simp [Ms.cells])]
  rw [show 15 + j - ((m.cells p).toList.take 15).length = j by simp [Ms.cells], List.getElem?_append_left (List.getElem?_eq_some_iff.1 hv).1]
  exact hv
theorem ms_entry (h : Row W g 45 (m.cells p).toList) : W.rangeAt g 21 m.entry.cells.toList := fun j v hv => by
  rw [h.cell, show (m.cells p).toList = (m.cells p).toList.take 21 ++ (m.entry.cells.toList ++ (m.cells p).toList.drop 30) from rfl, List.getElem?_append_right (by simp [Ms.cells])]
  rw [show 21 + j - ((m.cells p).toList.take 21).length = j by simp [Ms.cells], List.getElem?_append_left (List.getElem?_eq_some_iff.1 hv).1]
  exact hv
end
theorem ms_ext (m n : Ms) : m = n ↔ (m.kind = n.kind ∧ m.frm = n.frm ∧ m.view = n.view ∧ m.lv = n.lv ∧ m.opn = n.opn ∧ m.commit = n.commit) ∧ (m.client = n.client ∧ m.session = n.session ∧ m.request = n.request ∧ m.oper = n.oper ∧ m.index = n.index ∧ m.size = n.size) ∧
    m.check = n.check ∧ m.sums = n.sums ∧ m.entry = n.entry ∧ m.es = n.es ∧ m.xs = n.xs ∧ m.body = n.body := by
  obtain ⟨a1, a2, a3, a4, a5, a6, a7, a8, a9, a10, a11, a12, a13, a14, a15, a16, a17, a18⟩ := m
  obtain ⟨b1, b2, b3, b4, b5, b6, b7, b8, b9, b10, b11, b12, b13, b14, b15, b16, b17, b18⟩ := n
  simp only [Ms.mk.injEq]
  constructor
  · rintro ⟨h1, h2, h3, h4, h5, h6, h7, h8, h9, h10, h11, h12, h13, h14, h15, h16, h17, h18⟩
    exact ⟨⟨h1, h2, h3, h4, h5, h6⟩, ⟨h7, h8, h9, h10, h11, h12⟩, h13, h14, h15, h16, h17, h18⟩
  · rintro ⟨⟨h1, h2, h3, h4, h5, h6⟩, ⟨h7, h8, h9, h10, h11, h12⟩, h13, h14, h15, h16, h17, h18⟩
    exact ⟨h1, h2, h3, h4, h5, h6, h7, h8, h9, h10, h11, h12, h13, h14, h15, h16, h17, h18⟩
theorem body_eq (a b : ByteArray) : (a.toList == b.toList) = decide (a = b) := by
  rw [Bool.eq_iff_iff, beq_iff_eq, decide_eq_true_iff]
  by_cases h : a = b
  · simp [h]
  · have := str_ne h
    rw [beq_eq_false_iff_ne] at this
    exact ⟨fun e => absurd e this, fun e => absurd e h⟩
set_option maxHeartbeats 4000000 in
theorem same_any (m n : Ms) (p q : Pl) (B : Nat) (w : World) (hm : PlOk w B m p) (hn : PlOk w B n q) (hB : B ≤ w.heap.size) (hs : m.sums.length = 6) (ht : n.sums.length = 6) :
    Calls Tryz.prog 39 #[.agg (m.cells p), .agg (n.cells q)] w (VE w (.bool (decide (m = n)))) := by
  have HS6 := hid hs
  have HT6 := hid ht
  have HEX := hid (ms_ext m n)
  have HZI := hid isize
  have HZE := hid esize
  have HZM := hid msize
  have HZ6 := hid size6
  have HBE := hid body_eq
  have HSE : Hid (∀ W, Below w.heap.size w W → Calls Tryz.prog 58 #[.slice p.A m.es.length p.cA, .slice q.A n.es.length q.cA] W (VE W (.bool (decide (m.es = n.es))))) := hid fun W hW =>
    samee_any p.A q.A m.es n.es _ _ p.cA q.cA B W (hm.a.below hW hB) (hn.a.below hW hB) rfl rfl hm.ca hn.ca (Nat.le_trans hB hW.size) hm.la hn.la
  have HXA : Hid (∀ W, Below w.heap.size w W → Rd W B p.B (rws (fun x : It => x.cells.toList) m.xs)) := hid fun W hW => hm.b.below hW hB
  have HXB : Hid (∀ W, Below w.heap.size w W → Rd W B q.B (rws (fun x : It => x.cells.toList) n.xs)) := hid fun W hW => hn.b.below hW hB
  have hcb := hm.cb
  have hcb2 := hn.cb
  have hla := hm.lb
  have hlb := hn.lb
  obtain ⟨W0, hW0⟩ : ∃ W0, W0 = (w.alloc (.cells (m.cells p) 45)).alloc (.cells (n.cells q) 45) := ⟨_, rfl⟩
  have HB0 : Hid (Below w.heap.size w ((w.alloc (.cells (m.cells p) 45)).alloc (.cells (n.cells q) 45))) := hid (((Below.refl _ _).alloc (Nat.le_refl _) _).alloc (by simp) _)
  have R1 : Hid (Row ((w.alloc (.cells (m.cells p) 45)).alloc (.cells (n.cells q) 45)) w.heap.size 45 (m.cells p).toList) := hid ((Row.new _ _ _).alloc _)
  have R2 : Hid (Row ((w.alloc (.cells (m.cells p) 45)).alloc (.cells (n.cells q) 45)) (w.heap.size + 1) 45 (n.cells q).toList) := hid (by
    have := Row.new (w.alloc (.cells (m.cells p) 45)) 45 (n.cells q)
    simpa using this)
  have a31 : ((w.alloc (.cells (m.cells p) 45)).alloc (.cells (n.cells q) 45)).cell? ⟨w.heap.size, 31, none⟩ = some (.slice p.B m.xs.length p.cB) := R1.out.cell 31
  have a30 : ((w.alloc (.cells (m.cells p) 45)).alloc (.cells (n.cells q) 45)).cell? ⟨w.heap.size, 30, none⟩ = some (.slice p.A m.es.length p.cA) := R1.out.cell 30
  have b31 : ((w.alloc (.cells (m.cells p) 45)).alloc (.cells (n.cells q) 45)).cell? ⟨w.heap.size + 1, 31, none⟩ = some (.slice q.B n.xs.length q.cB) := R2.out.cell 31
  have b30 : ((w.alloc (.cells (m.cells p) 45)).alloc (.cells (n.cells q) 45)).cell? ⟨w.heap.size + 1, 30, none⟩ = some (.slice q.A n.es.length q.cA) := R2.out.cell 30
  clear hW0 hm hn hs ht
  by_cases hlx : (m.xs.length : Int) = (n.xs.length : Int)
  · have e1 : ((m.xs.length : Int) != (n.xs.length : Int)) = false := by simp [hlx]
    have HLX := hid hlx
    clear hlx
    by_cases hes : m.es = n.es
    · rw [show decide (m.es = n.es) = true from decide_eq_true hes] at HSE
      have HES := hid hes
      clear hes
      go_enter Tryz.func39, Tryz.ntmps39
      go_wp2_with (go_at_call 58; refine (HSE.out _ HB0.out).mono ?_; rintro e w1 ⟨rfl, hb1⟩)
      have Q1 : Hid (Row w1 w.heap.size 45 (m.cells p).toList) := hid (R1.out.below hb1 (by simp; omega))
      have Q2 : Hid (Row w1 (w.heap.size + 1) 45 (n.cells q).toList) := hid (R2.out.below hb1 (by simp))
      have HB1 := hid (HB0.out.trans (hb1.mono HB0.out.size))
      clear HB0 R1 R2 a31 a30 b31 b30 hb1 HSE
      go_loopw [5] (fun i wr => ∃ k : Nat, k ≤ m.xs.length ∧ i = .int .i64 (k : Int) ∧ Hid (m.xs.take k = n.xs.take k) ∧ Hid (Row wr w.heap.size 45 (m.cells p).toList) ∧ Hid (Row wr (w.heap.size + 1) 45 (n.cells q).toList) ∧ Hid (Below w.heap.size w wr)) (fun i _ => m.xs.length - (intOf i).toNat)
      case atStart => exact ⟨0, by omega, rfl, hid rfl, Q1, Q2, HB1⟩
      case round =>
        obtain ⟨k, hk, rfl, HT, P1, P2, HBW⟩ := hrel
        clear Q1 Q2 HB1
        have a31 : wr.cell? ⟨w.heap.size, 31, none⟩ = some (.slice p.B m.xs.length p.cB) := P1.out.cell 31
        by_cases hlt : k < m.xs.length
        · have hkn : k < n.xs.length := by have := HLX.out; omega
          obtain ⟨g, o, hA, hg, hrg⟩ := rws_at (n := 15) (fun _ => rfl) (HXA.out _ HBW.out) k hlt (by omega)
          obtain ⟨g', o', hA', hg', hrg'⟩ := rws_at (n := 15) (fun _ => rfl) (HXB.out _ HBW.out) k hkn (by omega)
          have b31 : wr.cell? ⟨w.heap.size + 1, 31, none⟩ = some (.slice q.B n.xs.length q.cB) := P2.out.cell 31
          rw [hA] at a31
          rw [hA'] at b31
          have hlen : n.xs.length = m.xs.length := by have := HLX.out; omega
          rw [hlen] at b31 hcb2
          have hi : (k : Int) < (m.xs.length : Int) := by omega
          have hi0 : (0 : Int) ≤ (k : Int) := by omega
          have HNX := hid (take_snoc_eq m.xs n.xs k hlt hkn HT.out)
          have HNO := hid (ne_of_get m.xs n.xs k hlt hkn)
          have HRG : Hid (∀ W, wr.drew = W → W.rangeAt g (o + k * 15) m.xs[k].cells.toList) := hid (by rintro W rfl; exact hrg)
          have HRG' : Hid (∀ W, wr.drew = W → W.rangeAt g' (o' + k * 15) n.xs[k].cells.toList) := hid (by rintro W rfl; exact hrg')
          have HEQ : Hid (decide (m.xs[k] = n.xs[k]) = true ↔ m.xs[k] = n.xs[k]) := hid (by simp)
          have HA31 : Hid (∀ W, wr.drew = W → W.cell? ⟨w.heap.size, 31, none⟩ = some (.slice (some ⟨g, o, none⟩) m.xs.length p.cB)) := hid (by rintro W rfl; exact a31)
          have HB31 : Hid (∀ W, wr.drew = W → W.cell? ⟨w.heap.size + 1, 31, none⟩ = some (.slice (some ⟨g', o', none⟩) m.xs.length q.cB)) := hid (by rintro W rfl; exact b31)
          generalize m.xs[k] = X at *
          generalize n.xs[k] = Y at *
          generalize decide (X = Y) = b at HEQ
          clear hrg hrg' hg hg' hA hA' HXA HXB HT hkn hlen hlt
          go_wp2_with fail
          refine wp_region_held_drew (S := (fun W => wr.drew = W)) (by kernel_rfl) (rfl) (fun hH => ?_)
          refine tk_ (i := 0) (v := .pointer (some ⟨w.heap.size, 31, none⟩)) rfl (Or.inl ⟨by kernel_rfl, fun w' _ => by kernel_rfl⟩) hH ?_
          simp only [Act.put, la1, la3, la4, la5, la6]
          refine tk_ (i := 1) (v := .slice (some ⟨g, o, none⟩) m.xs.length p.cB) rfl (Or.inl ⟨by rfl, fun w' hw' => by have h := HA31.out w' hw'; go_simp⟩) hH ?_
          simp only [Act.put, la1, la2, la3, la4, la5, la6]
          refine tk_ (i := 2) (v := .int .i64 (k : Int)) rfl (Or.inl ⟨by rfl, fun w' hw' => by clear hw'; go_simp⟩) hH ?_
          simp only [Act.put, la1, la2, la3, la4, la5, la6]
          refine tk_ (i := 3) (v := .pointer (some ⟨g, o + k * 15, none⟩)) rfl (Or.inl ⟨by rfl, fun w' hw' => by clear hw'; go_simp⟩) hH ?_
          simp only [Act.put, la1, la2, la3, la4, la5, la6]
          refine tk_ (i := 4) (v := .agg (X.cells)) rfl (yieldsIf_load_mid rfl 40 (.tmp 31) rfl (g) (o + k * 15) rfl (Array.toList (X.cells)) _ (fun W hW => HRG.out W hW) Tryz.underlying40 rfl (by exact HZI.out)) hH ?_
          simp only [Act.put, la1, la2, la3, la4, la5, la6]
          refine tk_ (i := 5) (v := .pointer (some ⟨w.heap.size + 1, 31, none⟩)) rfl (Or.inl ⟨by kernel_rfl, fun w' _ => by kernel_rfl⟩) hH ?_
          simp only [Act.put, la1, la2, la3, la4, la5, la6]
          refine tk_ (i := 6) (v := .slice (some ⟨g', o', none⟩) m.xs.length q.cB) rfl (Or.inl ⟨by rfl, fun w' hw' => by have h := HB31.out w' hw'; go_simp⟩) hH ?_
          simp only [Act.put, la1, la2, la3, la4, la5, la6]
          refine tk_ (i := 7) (v := .int .i64 (k : Int)) rfl (Or.inl ⟨by rfl, fun w' hw' => by clear hw'; go_simp⟩) hH ?_
          simp only [Act.put, la1, la2, la3, la4, la5, la6]
          refine tk_ (i := 8) (v := .pointer (some ⟨g', o' + k * 15, none⟩)) rfl (Or.inl ⟨by rfl, fun w' hw' => by clear hw'; go_simp⟩) hH ?_
          simp only [Act.put, la1, la2, la3, la4, la5, la6]
          refine tk_ (i := 9) (v := .agg (Y.cells)) rfl (yieldsIf_load_mid rfl 40 (.tmp 36) rfl (g') (o' + k * 15) rfl (Array.toList (Y.cells)) _ (fun W hW => HRG'.out W hW) Tryz.underlying40 rfl (by exact HZI.out)) hH ?_
          simp only [Act.put, la1, la2, la3, la4, la5, la6]
          refine tk_ (i := 10) (v := .bool (!b)) rfl (yields_nei (by kernel_rfl) X Y b HEQ (.tmp 32) (.tmp 37) _ rfl (by kernel_rfl) (by kernel_rfl)) hH ?_
          simp only [Act.put, la1, la2, la3, la4, la5, la6]
          refine wpAnyH_done (by kernel_rfl) ?_ _
          try simp only [Act.put, la1, la2, la3, la4, la5, la6]
          cases b
          · have HDN : Hid (decide (m = n) = false) := hid (decide_eq_false (fun e => HNO.out (fun h => by have := HEQ.out.2 h; cases this) (by rw [e])))
            go_wp2_with fail
            go_ret
            exact ⟨by rw [HDN.out]; rfl, HBW.out.drew⟩
          · go_wp2_with fail
            go_roundw
            case rel => exact ⟨k + 1, by omega, by go_num, hid (HNX.out (HEQ.out.1 rfl)), hid P1.out.drew, hid P2.out.drew, hid HBW.out.drew⟩
            case measure => simp [intOf]; omega
        · obtain rfl : k = m.xs.length := by omega
          have HXS : Hid (m.xs = n.xs) := hid (by
            have := HT.out
            rwa [List.take_of_length_le (by omega), List.take_of_length_le (by have := HLX.out; omega)] at this)
          have a0 : wr.cell? ⟨w.heap.size, 0, none⟩ = some (.int .i64 m.kind) := P1.out.cell 0
          have b0 : wr.cell? ⟨w.heap.size + 1, 0, none⟩ = some (.int .i64 n.kind) := P2.out.cell 0
          have a1 : wr.cell? ⟨w.heap.size, 1, none⟩ = some (.int .i64 m.frm) := P1.out.cell 1
          have b1 : wr.cell? ⟨w.heap.size + 1, 1, none⟩ = some (.int .i64 n.frm) := P2.out.cell 1
          have a2 : wr.cell? ⟨w.heap.size, 2, none⟩ = some (.int .i64 m.view) := P1.out.cell 2
          have b2 : wr.cell? ⟨w.heap.size + 1, 2, none⟩ = some (.int .i64 n.view) := P2.out.cell 2
          have a3 : wr.cell? ⟨w.heap.size, 3, none⟩ = some (.int .i64 m.lv) := P1.out.cell 3
          have b3 : wr.cell? ⟨w.heap.size + 1, 3, none⟩ = some (.int .i64 n.lv) := P2.out.cell 3
          have a4 : wr.cell? ⟨w.heap.size, 4, none⟩ = some (.int .i64 m.opn) := P1.out.cell 4
          have b4 : wr.cell? ⟨w.heap.size + 1, 4, none⟩ = some (.int .i64 n.opn) := P2.out.cell 4
          have a5 : wr.cell? ⟨w.heap.size, 5, none⟩ = some (.int .i64 m.commit) := P1.out.cell 5
          have b5 : wr.cell? ⟨w.heap.size + 1, 5, none⟩ = some (.int .i64 n.commit) := P2.out.cell 5
          have a6 : wr.cell? ⟨w.heap.size, 6, none⟩ = some (.int .i64 m.client) := P1.out.cell 6
          have b6 : wr.cell? ⟨w.heap.size + 1, 6, none⟩ = some (.int .i64 n.client) := P2.out.cell 6
          have a7 : wr.cell? ⟨w.heap.size, 7, none⟩ = some (.int .i64 m.session) := P1.out.cell 7
          have b7 : wr.cell? ⟨w.heap.size + 1, 7, none⟩ = some (.int .i64 n.session) := P2.out.cell 7
          have a8 : wr.cell? ⟨w.heap.size, 8, none⟩ = some (.int .i64 m.request) := P1.out.cell 8
          have b8 : wr.cell? ⟨w.heap.size + 1, 8, none⟩ = some (.int .i64 n.request) := P2.out.cell 8
          have a9 : wr.cell? ⟨w.heap.size, 9, none⟩ = some (.int .i64 m.oper) := P1.out.cell 9
          have b9 : wr.cell? ⟨w.heap.size + 1, 9, none⟩ = some (.int .i64 n.oper) := P2.out.cell 9
          have a10 : wr.cell? ⟨w.heap.size, 10, none⟩ = some (.int .i64 m.index) := P1.out.cell 10
          have b10 : wr.cell? ⟨w.heap.size + 1, 10, none⟩ = some (.int .i64 n.index) := P2.out.cell 10
          have a11 : wr.cell? ⟨w.heap.size, 11, none⟩ = some (.int .i64 m.size) := P1.out.cell 11
          have b11 : wr.cell? ⟨w.heap.size + 1, 11, none⟩ = some (.int .i64 n.size) := P2.out.cell 11
          have a32 : wr.cell? ⟨w.heap.size, 32, none⟩ = some (.string m.body) := P1.out.cell 32
          have b32 : wr.cell? ⟨w.heap.size + 1, 32, none⟩ = some (.string n.body) := P2.out.cell 32
          clear HT HXA HXB hcb hcb2
          by_cases h0 : m.kind = n.kind
          case neg =>
            have e2 : (m.kind != n.kind) = true := by simp [h0]
            have HDN : Hid (decide (m = n) = false) := hid (decide_eq_false (fun e => h0 (by rw [e])))
            clear h0
            go_wp2_with fail
            go_ret
            exact ⟨by rw [HDN.out]; rfl, HBW.out⟩
          have e2 : (m.kind != n.kind) = false := by simp [h0]
          have E0 := hid h0
          clear h0
          by_cases h1 : m.frm = n.frm
          case neg =>
            have e3 : (m.frm != n.frm) = true := by simp [h1]
            have HDN : Hid (decide (m = n) = false) := hid (decide_eq_false (fun e => h1 (by rw [e])))
            clear h1
            go_wp2_with fail
            go_ret
            exact ⟨by rw [HDN.out]; rfl, HBW.out⟩
          have e3 : (m.frm != n.frm) = false := by simp [h1]
          have E1 := hid h1
          clear h1
          by_cases h2 : m.view = n.view
          case neg =>
            have e4 : (m.view != n.view) = true := by simp [h2]
            have HDN : Hid (decide (m = n) = false) := hid (decide_eq_false (fun e => h2 (by rw [e])))
            clear h2
            go_wp2_with fail
            go_ret
            exact ⟨by rw [HDN.out]; rfl, HBW.out⟩
          have e4 : (m.view != n.view) = false := by simp [h2]
          have E2 := hid h2
          clear h2
          by_cases h3 : m.lv = n.lv
          case neg =>
            have e5 : (m.lv != n.lv) = true := by simp [h3]
            have HDN : Hid (decide (m = n) = false) := hid (decide_eq_false (fun e => h3 (by rw [e])))
            clear h3
            go_wp2_with fail
            go_ret
            exact ⟨by rw [HDN.out]; rfl, HBW.out⟩
          have e5 : (m.lv != n.lv) = false := by simp [h3]
          have E3 := hid h3
          clear h3
          by_cases h4 : m.opn = n.opn
          case neg =>
            have e6 : (m.opn != n.opn) = true := by simp [h4]
            have HDN : Hid (decide (m = n) = false) := hid (decide_eq_false (fun e => h4 (by rw [e])))
            clear h4
            go_wp2_with fail
            go_ret
            exact ⟨by rw [HDN.out]; rfl, HBW.out⟩
          have e6 : (m.opn != n.opn) = false := by simp [h4]
          have E4 := hid h4
          clear h4
          by_cases h5 : m.commit = n.commit
          case neg =>
            have e7 : (m.commit != n.commit) = true := by simp [h5]
            have HDN : Hid (decide (m = n) = false) := hid (decide_eq_false (fun e => h5 (by rw [e])))
            clear h5
            go_wp2_with fail
            go_ret
            exact ⟨by rw [HDN.out]; rfl, HBW.out⟩
          have e7 : (m.commit != n.commit) = false := by simp [h5]
          have E5 := hid h5
          clear h5
          by_cases h6 : m.client = n.client
          case neg =>
            have e8 : (m.client != n.client) = true := by simp [h6]
            have HDN : Hid (decide (m = n) = false) := hid (decide_eq_false (fun e => h6 (by rw [e])))
            clear h6
            go_wp2_with fail
            go_ret
            exact ⟨by rw [HDN.out]; rfl, HBW.out⟩
          have e8 : (m.client != n.client) = false := by simp [h6]
          have E6 := hid h6
          clear h6
          by_cases h7 : m.session = n.session
          case neg =>
            have e9 : (m.session != n.session) = true := by simp [h7]
            have HDN : Hid (decide (m = n) = false) := hid (decide_eq_false (fun e => h7 (by rw [e])))
            clear h7
            go_wp2_with fail
            go_ret
            exact ⟨by rw [HDN.out]; rfl, HBW.out⟩
          have e9 : (m.session != n.session) = false := by simp [h7]
          have E7 := hid h7
          clear h7
          by_cases h8 : m.request = n.request
          case neg =>
            have e10 : (m.request != n.request) = true := by simp [h8]
            have HDN : Hid (decide (m = n) = false) := hid (decide_eq_false (fun e => h8 (by rw [e])))
            clear h8
            go_wp2_with fail
            go_ret
            exact ⟨by rw [HDN.out]; rfl, HBW.out⟩
          have e10 : (m.request != n.request) = false := by simp [h8]
          have E8 := hid h8
          clear h8
          by_cases h9 : m.oper = n.oper
          case neg =>
            have e11 : (m.oper != n.oper) = true := by simp [h9]
            have HDN : Hid (decide (m = n) = false) := hid (decide_eq_false (fun e => h9 (by rw [e])))
            clear h9
            go_wp2_with fail
            go_ret
            exact ⟨by rw [HDN.out]; rfl, HBW.out⟩
          have e11 : (m.oper != n.oper) = false := by simp [h9]
          have E9 := hid h9
          clear h9
          by_cases h10 : m.index = n.index
          case neg =>
            have e12 : (m.index != n.index) = true := by simp [h10]
            have HDN : Hid (decide (m = n) = false) := hid (decide_eq_false (fun e => h10 (by rw [e])))
            clear h10
            go_wp2_with fail
            go_ret
            exact ⟨by rw [HDN.out]; rfl, HBW.out⟩
          have e12 : (m.index != n.index) = false := by simp [h10]
          have E10 := hid h10
          clear h10
          by_cases h11 : m.size = n.size
          case neg =>
            have e13 : (m.size != n.size) = true := by simp [h11]
            have HDN : Hid (decide (m = n) = false) := hid (decide_eq_false (fun e => h11 (by rw [e])))
            clear h11
            go_wp2_with fail
            go_ret
            exact ⟨by rw [HDN.out]; rfl, HBW.out⟩
          have e13 : (m.size != n.size) = false := by simp [h11]
          have E11 := hid h11
          clear h11
          obtain ⟨c0, hc0⟩ : ∃ c, decide (m.check = n.check) = c := ⟨_, rfl⟩
          have HC0 := hid hc0
          clear hc0
          obtain ⟨c1, hc1⟩ : ∃ c, decide (m.sums = n.sums) = c := ⟨_, rfl⟩
          have HC1 := hid hc1
          clear hc1
          obtain ⟨c2, hc2⟩ : ∃ c, decide (m.entry = n.entry) = c := ⟨_, rfl⟩
          have HC2 : Hid (c2 = true ↔ m.entry = n.entry) := hid (by rw [← hc2]; simp)
          clear hc2
          have HC3 := hid (HBE.out m.body n.body)
          cases c0
          case false =>
            have HDN : Hid (decide (m = n) = false) := hid (decide_eq_false (fun e => of_decide_eq_false HC0.out (by rw [e])))
            go_wp2_with (first
              | ((with_reducible show wpList _ _ _ ({ dst := some 120, op := _, type := _, pos := _, after := _, guard := _ } :: _) _ _); refine wpl_load_midw rfl 27 (.tmp 119) rfl (w.heap.size) 12 rfl (Array.toList m.check.cells) _ (ms_check P1.out) Tryz.underlying27 rfl (by exact HZM.out) ?_)
              | ((with_reducible show wpList _ _ _ ({ dst := some 122, op := _, type := _, pos := _, after := _, guard := _ } :: _) _ _); refine wpl_load_midw rfl 27 (.tmp 121) rfl (w.heap.size + 1) 12 rfl (Array.toList n.check.cells) _ (ms_check P2.out) Tryz.underlying27 rfl (by exact HZM.out) ?_)
              | ((with_reducible show wpList _ _ _ ({ dst := some 123, op := _, type := _, pos := _, after := _, guard := _ } :: _) _ _); refine wpl_eqm rfl m.check n.check _ (.tmp 120) (.tmp 122) _ rfl rfl rfl HC0 ?_))
            go_ret
            exact ⟨by rw [HDN.out]; rfl, HBW.out⟩
          cases c1
          case false =>
            have HDN : Hid (decide (m = n) = false) := hid (decide_eq_false (fun e => of_decide_eq_false HC1.out (by rw [e])))
            go_wp2_with (first
              | ((with_reducible show wpList _ _ _ ({ dst := some 120, op := _, type := _, pos := _, after := _, guard := _ } :: _) _ _); refine wpl_load_midw rfl 27 (.tmp 119) rfl (w.heap.size) 12 rfl (Array.toList m.check.cells) _ (ms_check P1.out) Tryz.underlying27 rfl (by exact HZM.out) ?_)
              | ((with_reducible show wpList _ _ _ ({ dst := some 122, op := _, type := _, pos := _, after := _, guard := _ } :: _) _ _); refine wpl_load_midw rfl 27 (.tmp 121) rfl (w.heap.size + 1) 12 rfl (Array.toList n.check.cells) _ (ms_check P2.out) Tryz.underlying27 rfl (by exact HZM.out) ?_)
              | ((with_reducible show wpList _ _ _ ({ dst := some 123, op := _, type := _, pos := _, after := _, guard := _ } :: _) _ _); refine wpl_eqm rfl m.check n.check _ (.tmp 120) (.tmp 122) _ rfl rfl rfl HC0 ?_)
              | ((with_reducible show wpList _ _ _ ({ dst := some 126, op := _, type := _, pos := _, after := _, guard := _ } :: _) _ _); refine wpl_load_midw rfl 42 (.tmp 125) rfl (w.heap.size) 15 rfl (Array.toList (sixV m.sums)) _ (ms_sums P1.out) Tryz.underlying42 rfl (by exact HZ6.out) ?_)
              | ((with_reducible show wpList _ _ _ ({ dst := some 128, op := _, type := _, pos := _, after := _, guard := _ } :: _) _ _); refine wpl_load_midw rfl 42 (.tmp 127) rfl (w.heap.size + 1) 15 rfl (Array.toList (sixV n.sums)) _ (ms_sums P2.out) Tryz.underlying42 rfl (by exact HZ6.out) ?_)
              | ((with_reducible show wpList _ _ _ ({ dst := some 129, op := _, type := _, pos := _, after := _, guard := _ } :: _) _ _); refine wpl_eq6 rfl m.sums n.sums _ (.tmp 126) (.tmp 128) _ rfl rfl rfl HS6 HT6 HC1 ?_))
            go_ret
            exact ⟨by rw [HDN.out]; rfl, HBW.out⟩
          cases c2
          case false =>
            have HDN : Hid (decide (m = n) = false) := hid (decide_eq_false (fun e => by have := HC2.out.2 (by rw [e]); cases this))
            go_wp2_with (first
              | ((with_reducible show wpList _ _ _ ({ dst := some 120, op := _, type := _, pos := _, after := _, guard := _ } :: _) _ _); refine wpl_load_midw rfl 27 (.tmp 119) rfl (w.heap.size) 12 rfl (Array.toList m.check.cells) _ (ms_check P1.out) Tryz.underlying27 rfl (by exact HZM.out) ?_)
              | ((with_reducible show wpList _ _ _ ({ dst := some 122, op := _, type := _, pos := _, after := _, guard := _ } :: _) _ _); refine wpl_load_midw rfl 27 (.tmp 121) rfl (w.heap.size + 1) 12 rfl (Array.toList n.check.cells) _ (ms_check P2.out) Tryz.underlying27 rfl (by exact HZM.out) ?_)
              | ((with_reducible show wpList _ _ _ ({ dst := some 123, op := _, type := _, pos := _, after := _, guard := _ } :: _) _ _); refine wpl_eqm rfl m.check n.check _ (.tmp 120) (.tmp 122) _ rfl rfl rfl HC0 ?_)
              | ((with_reducible show wpList _ _ _ ({ dst := some 126, op := _, type := _, pos := _, after := _, guard := _ } :: _) _ _); refine wpl_load_midw rfl 42 (.tmp 125) rfl (w.heap.size) 15 rfl (Array.toList (sixV m.sums)) _ (ms_sums P1.out) Tryz.underlying42 rfl (by exact HZ6.out) ?_)
              | ((with_reducible show wpList _ _ _ ({ dst := some 128, op := _, type := _, pos := _, after := _, guard := _ } :: _) _ _); refine wpl_load_midw rfl 42 (.tmp 127) rfl (w.heap.size + 1) 15 rfl (Array.toList (sixV n.sums)) _ (ms_sums P2.out) Tryz.underlying42 rfl (by exact HZ6.out) ?_)
              | ((with_reducible show wpList _ _ _ ({ dst := some 129, op := _, type := _, pos := _, after := _, guard := _ } :: _) _ _); refine wpl_eq6 rfl m.sums n.sums _ (.tmp 126) (.tmp 128) _ rfl rfl rfl HS6 HT6 HC1 ?_)
              | ((with_reducible show wpList _ _ _ ({ dst := some 133, op := _, type := _, pos := _, after := _, guard := _ } :: _) _ _); refine wpl_load_midw rfl 35 (.tmp 132) rfl (w.heap.size) 21 rfl (Array.toList m.entry.cells) _ (ms_entry P1.out) Tryz.underlying35 rfl (by exact HZE.out) ?_)
              | ((with_reducible show wpList _ _ _ ({ dst := some 135, op := _, type := _, pos := _, after := _, guard := _ } :: _) _ _); refine wpl_load_midw rfl 35 (.tmp 134) rfl (w.heap.size + 1) 21 rfl (Array.toList n.entry.cells) _ (ms_entry P2.out) Tryz.underlying35 rfl (by exact HZE.out) ?_)
              | ((with_reducible show wpList _ _ _ ({ dst := some 136, op := _, type := _, pos := _, after := _, guard := _ } :: _) _ _); refine wpl_eqe2 rfl m.entry n.entry _ (.tmp 133) (.tmp 135) _ rfl rfl rfl HC2 ?_))
            go_ret
            exact ⟨by rw [HDN.out]; rfl, HBW.out⟩
          have HDN : Hid (decide (m = n) = (m.body.toList == n.body.toList)) := hid (by
            rw [HC3.out, Bool.eq_iff_iff, decide_eq_true_iff, decide_eq_true_iff, HEX.out]
            exact ⟨fun h => h.2.2.2.2.2.2.2, fun h => ⟨⟨E0.out, E1.out, E2.out, E3.out, E4.out, E5.out⟩, ⟨E6.out, E7.out, E8.out, E9.out, E10.out, E11.out⟩, of_decide_eq_true HC0.out, of_decide_eq_true HC1.out, HC2.out.1 rfl, HES.out, HXS.out, h⟩⟩)
          go_wp2_with (first
            | ((with_reducible show wpList _ _ _ ({ dst := some 120, op := _, type := _, pos := _, after := _, guard := _ } :: _) _ _); refine wpl_load_midw rfl 27 (.tmp 119) rfl (w.heap.size) 12 rfl (Array.toList m.check.cells) _ (ms_check P1.out) Tryz.underlying27 rfl (by exact HZM.out) ?_)
            | ((with_reducible show wpList _ _ _ ({ dst := some 122, op := _, type := _, pos := _, after := _, guard := _ } :: _) _ _); refine wpl_load_midw rfl 27 (.tmp 121) rfl (w.heap.size + 1) 12 rfl (Array.toList n.check.cells) _ (ms_check P2.out) Tryz.underlying27 rfl (by exact HZM.out) ?_)
            | ((with_reducible show wpList _ _ _ ({ dst := some 123, op := _, type := _, pos := _, after := _, guard := _ } :: _) _ _); refine wpl_eqm rfl m.check n.check _ (.tmp 120) (.tmp 122) _ rfl rfl rfl HC0 ?_)
            | ((with_reducible show wpList _ _ _ ({ dst := some 126, op := _, type := _, pos := _, after := _, guard := _ } :: _) _ _); refine wpl_load_midw rfl 42 (.tmp 125) rfl (w.heap.size) 15 rfl (Array.toList (sixV m.sums)) _ (ms_sums P1.out) Tryz.underlying42 rfl (by exact HZ6.out) ?_)
            | ((with_reducible show wpList _ _ _ ({ dst := some 128, op := _, type := _, pos := _, after := _, guard := _ } :: _) _ _); refine wpl_load_midw rfl 42 (.tmp 127) rfl (w.heap.size + 1) 15 rfl (Array.toList (sixV n.sums)) _ (ms_sums P2.out) Tryz.underlying42 rfl (by exact HZ6.out) ?_)
            | ((with_reducible show wpList _ _ _ ({ dst := some 129, op := _, type := _, pos := _, after := _, guard := _ } :: _) _ _); refine wpl_eq6 rfl m.sums n.sums _ (.tmp 126) (.tmp 128) _ rfl rfl rfl HS6 HT6 HC1 ?_)
            | ((with_reducible show wpList _ _ _ ({ dst := some 133, op := _, type := _, pos := _, after := _, guard := _ } :: _) _ _); refine wpl_load_midw rfl 35 (.tmp 132) rfl (w.heap.size) 21 rfl (Array.toList m.entry.cells) _ (ms_entry P1.out) Tryz.underlying35 rfl (by exact HZE.out) ?_)
            | ((with_reducible show wpList _ _ _ ({ dst := some 135, op := _, type := _, pos := _, after := _, guard := _ } :: _) _ _); refine wpl_load_midw rfl 35 (.tmp 134) rfl (w.heap.size + 1) 21 rfl (Array.toList n.entry.cells) _ (ms_entry P2.out) Tryz.underlying35 rfl (by exact HZE.out) ?_)
            | ((with_reducible show wpList _ _ _ ({ dst := some 136, op := _, type := _, pos := _, after := _, guard := _ } :: _) _ _); refine wpl_eqe2 rfl m.entry n.entry _ (.tmp 133) (.tmp 135) _ rfl rfl rfl HC2 ?_))
          go_ret
          exact ⟨by rw [HDN.out]; rfl, HBW.out⟩
    · rw [show decide (m.es = n.es) = false from decide_eq_false hes] at HSE
      rw [show decide (m = n) = false from decide_eq_false (fun e => hes (by rw [e]))]
      clear hes
      go_enter Tryz.func39, Tryz.ntmps39
      go_wp2_with (go_at_call 58; refine (HSE.out _ HB0.out).mono ?_; rintro e w1 ⟨rfl, hb1⟩)
      go_ret
      exact ⟨rfl, HB0.out.trans (hb1.mono HB0.out.size)⟩
  · have e1 : ((m.xs.length : Int) != (n.xs.length : Int)) = true := by simp; omega
    rw [show decide (m = n) = false from decide_eq_false (fun e => hlx (by rw [e]))]
    clear hlx
    go_enter Tryz.func39, Tryz.ntmps39
    go_wp2_with fail
    go_ret
    exact ⟨rfl, HB0.out⟩
end Go.Proofs.YteahbalcielhpaaGreatDoor
/-
  The document's fits, Item.
-/
namespace Go.Proofs.YteahbalcielhpaaGreatDoor
open Go.RowKit
set_option maxRecDepth 10000

theorem fits17_any (n : Int) (w : World) : Calls Tryz.prog 41 #[.int .i64 n] w fun e w' => e = .returned (.bool (decide (Fi n))) ∧ w = w' := by
  by_cases h0 : 0 ≤ n
  · by_cases h1 : n ≤ 72057594037927935
    · rw [decide_eq_true (show Fi n from ⟨h0, h1⟩)]
      go_enter Tryz.func41, Tryz.ntmps41
      go_wp2_with fail
      go_ret
      exact ⟨rfl, rfl⟩
    · rw [decide_eq_false (show ¬ Fi n from fun h => h1 h.2)]
      go_enter Tryz.func41, Tryz.ntmps41
      go_wp2_with fail
      go_ret
      exact ⟨by simp, rfl⟩
  · rw [decide_eq_false (show ¬ Fi n from fun h => h0 h.1)]
    go_enter Tryz.func41, Tryz.ntmps41
    go_wp2_with fail
    go_ret
    exact ⟨by simp, rfl⟩
theorem stsizeM : (Tryz.prog.info? 38).map (·.size) = some 5 := by kernel_rfl
section
variable {W : World} {g : Nat} {x : It}
theorem it_stub (h : Row W g 40 x.cells.toList) : W.rangeAt g 1 x.stub.cells.toList := fun j v hv => by
  rw [h.cell, show x.cells.toList = x.cells.toList.take 1 ++ (x.stub.cells.toList ++ x.cells.toList.drop 6) from rfl, List.getElem?_append_right (by simp [It.cells])]
  rw [show 1 + j - (x.cells.toList.take 1).length = j by simp [It.cells], List.getElem?_append_left (List.getElem?_eq_some_iff.1 hv).1]
  exact hv
theorem it_entry (h : Row W g 40 x.cells.toList) : W.rangeAt g 6 x.entry.cells.toList := fun j v hv => by
  rw [h.cell, show x.cells.toList = x.cells.toList.take 6 ++ x.entry.cells.toList from rfl, List.getElem?_append_right (by simp [It.cells])]
  rw [show 6 + j - (x.cells.toList.take 6).length = j by simp [It.cells]]
  exact hv
end
set_option maxHeartbeats 4000000 in
theorem item_any (x : It) (hx : x.fits) (w : World) : Calls Tryz.prog 43 #[x.val] w (VE w (.bool (decide (itemR x)))) := by
  show Calls _ _ #[.agg x.cells] _ _
  have HR := hid (fun W => rright9_any x.entry W)
  have HS := hid (fun W => rstub_any x.entry hx.2.2 W)
  have HZE := hid esize
  have HZS := hid stsizeM
  have HB0 : Hid (Below w.heap.size w (w.alloc (.cells x.cells 40))) := hid ((Below.refl _ _).alloc (Nat.le_refl _) _)
  have R1 : Hid (Row (w.alloc (.cells x.cells 40)) w.heap.size 40 x.cells.toList) := hid (Row.new _ _ _)
  have a0 : (w.alloc (.cells x.cells 40)).cell? ⟨w.heap.size, 0, none⟩ = some (.int .i64 x.kind) := R1.out.cell 0
  by_cases h1 : x.kind = 1
  · have HIT : Hid (itemR x ↔ Rt x.entry ∧ stubS x.entry = x.stub) := hid (by unfold itemR; rw [if_pos h1])
    have e1 : (x.kind == 1) = true := by simp [h1]
    clear h1
    by_cases hr : Rt x.entry
    · rw [decide_eq_true hr] at HR
      obtain ⟨b, hb⟩ : ∃ b, decide (stubS x.entry = x.stub) = b := ⟨_, rfl⟩
      have HD : Hid (decide (itemR x) = b) := hid (by rw [← hb, Bool.eq_iff_iff, decide_eq_true_iff, decide_eq_true_iff, HIT.out]; exact ⟨fun h => h.2, fun h => ⟨hr, h⟩⟩)
      have HB := hid hb
      clear hb hr HIT
      go_enter Tryz.func43, Tryz.ntmps43
      go_wp2_with fail
      refine wp_region_held_drew (S := (fun W => Row W w.heap.size 40 x.cells.toList ∧ Below w.heap.size w W)) (by kernel_rfl) (⟨R1.out.drew, HB0.out.drew⟩) (fun hH => ?_)
      refine tk_ (i := 0) (v := .pointer (some ⟨w.heap.size, 6, none⟩)) rfl (Or.inl ⟨by kernel_rfl, fun w' _ => by kernel_rfl⟩) hH ?_
      simp only [Act.put, la1, la3, la4, la5, la6]
      refine tk_ (i := 1) (v := .agg (x.entry.cells)) rfl (yieldsIf_load_mid rfl 35 (.tmp 9) rfl (w.heap.size) (6) rfl (Array.toList (x.entry.cells)) _ (fun W hW => it_entry hW.1) Tryz.underlying35 rfl (by exact HZE.out)) hH ?_
      simp only [Act.put, la1, la2, la3, la4, la5, la6]
      refine rd1 (i := 2) (by kernel_rfl) rfl (fun K hK => ?_)
      go_simp
      go_at_call 42
      refine (HR.out _).mono ?_
      rintro e w1 ⟨rfl, hb1⟩
      go_wp2_with fail
      refine hK.out _ _ (⟨hH.1.below hb1 hH.1.lt, hH.2.trans (hb1.mono hH.2.size)⟩) (fun hH => ?_)
      clear hK K
      try simp only [Act.put, la1, la2, la3, la4, la5, la6]
      refine tk_ (i := 3) (v := .bool true) rfl (Or.inl ⟨by kernel_rfl, fun w' _ => by kernel_rfl⟩) hH ?_
      simp only [Act.put, la1, la2, la3, la4, la5, la6]
      refine tk_ (i := 4) (v := .pointer (some ⟨w.heap.size, 6, none⟩)) rfl (Or.inl ⟨by kernel_rfl, fun w' _ => by kernel_rfl⟩) hH ?_
      simp only [Act.put, la1, la2, la3, la4, la5, la6]
      refine tk_ (i := 5) (v := .agg (x.entry.cells)) rfl (yieldsIf_load_mid (by kernel_rfl) 35 (.tmp 13) rfl (w.heap.size) (6) rfl (Array.toList (x.entry.cells)) _ (fun W hW => it_entry hW.1) Tryz.underlying35 rfl (by exact HZE.out)) hH ?_
      simp only [Act.put, la1, la2, la3, la4, la5, la6]
      refine tk_ (i := 7) (v := .pointer (some ⟨w.heap.size, 1, none⟩)) rfl (Or.inl ⟨by kernel_rfl, fun w' _ => by kernel_rfl⟩) hH ?_
      simp only [Act.put, la1, la2, la3, la4, la5, la6]
      refine tk_ (i := 8) (v := .agg (x.stub.cells)) rfl (yieldsIf_load_mid (by kernel_rfl) 38 (.tmp 16) rfl (w.heap.size) (1) rfl (Array.toList (x.stub.cells)) _ (fun W hW => it_stub hW.1) Tryz.underlying38 rfl (by exact HZS.out)) hH ?_
      simp only [Act.put, la1, la2, la3, la4, la5, la6]
      refine rd1 (i := 6) (by kernel_rfl) rfl (fun K hK => ?_)
      rw [if_pos (by kernel_rfl)]
      go_simp
      go_at_call 60
      refine (HS.out _).mono ?_
      rintro e w2 ⟨rfl, hb1⟩
      go_wp2_with fail
      refine hK.out _ _ (⟨hH.1.below hb1 hH.1.lt, hH.2.trans (hb1.mono hH.2.size)⟩) (fun hH => ?_)
      clear hK K
      try simp only [Act.put, la1, la2, la3, la4, la5, la6]
      refine tk_ (i := 9) (v := .bool b) rfl (yields_eqs (by kernel_rfl) (stubS x.entry) x.stub b HB (.tmp 15) (.tmp 17) _ rfl (by kernel_rfl) (by kernel_rfl)) hH ?_
      simp only [Act.put, la1, la2, la3, la4, la5, la6]
      refine tk_ (i := 10) (v := .bool b) rfl (Or.inl ⟨by kernel_rfl, fun w' _ => by kernel_rfl⟩) hH ?_
      simp only [Act.put, la1, la2, la3, la4, la5, la6]
      refine rd1 (i := 11) (by kernel_rfl) rfl (fun K hK => ?_)
      go_simp
      refine hK.out _ _ (hH) (fun hH => ?_)
      clear hK K
      try simp only [Act.put, la1, la2, la3, la4, la5, la6]
      refine wpAnyH_done (by kernel_rfl) ?_ _
      try simp only [Act.put, la1, la2, la3, la4, la5, la6]
      go_wp2_with fail
      go_ret
      exact ⟨by rw [HD.out]; first | rfl | simp, hH.2⟩
    · rw [decide_eq_false hr] at HR
      have HD : Hid (decide (itemR x) = false) := hid (decide_eq_false (fun h => hr (HIT.out.1 h).1))
      clear hr HIT
      go_enter Tryz.func43, Tryz.ntmps43
      go_wp2_with fail
      refine wp_region_held_drew (S := (fun W => Row W w.heap.size 40 x.cells.toList ∧ Below w.heap.size w W)) (by kernel_rfl) (⟨R1.out.drew, HB0.out.drew⟩) (fun hH => ?_)
      refine tk_ (i := 0) (v := .pointer (some ⟨w.heap.size, 6, none⟩)) rfl (Or.inl ⟨by kernel_rfl, fun w' _ => by kernel_rfl⟩) hH ?_
      simp only [Act.put, la1, la3, la4, la5, la6]
      refine tk_ (i := 1) (v := .agg (x.entry.cells)) rfl (yieldsIf_load_mid rfl 35 (.tmp 9) rfl (w.heap.size) (6) rfl (Array.toList (x.entry.cells)) _ (fun W hW => it_entry hW.1) Tryz.underlying35 rfl (by exact HZE.out)) hH ?_
      simp only [Act.put, la1, la2, la3, la4, la5, la6]
      refine rd1 (i := 2) (by kernel_rfl) rfl (fun K hK => ?_)
      go_simp
      go_at_call 42
      refine (HR.out _).mono ?_
      rintro e w1 ⟨rfl, hb1⟩
      go_wp2_with fail
      refine hK.out _ _ (⟨hH.1.below hb1 hH.1.lt, hH.2.trans (hb1.mono hH.2.size)⟩) (fun hH => ?_)
      clear hK K
      try simp only [Act.put, la1, la2, la3, la4, la5, la6]
      refine tk_ (i := 3) (v := .bool false) rfl (Or.inl ⟨by kernel_rfl, fun w' _ => by kernel_rfl⟩) hH ?_
      simp only [Act.put, la1, la2, la3, la4, la5, la6]
      refine tk_ (i := 4) (v := undef) rfl (Or.inr ⟨by kernel_rfl, rfl⟩) hH ?_
      simp only [Act.put, la1, la2, la3, la4, la5, la6]
      refine tk_ (i := 5) (v := undef) rfl (Or.inr ⟨by kernel_rfl, rfl⟩) hH ?_
      simp only [Act.put, la1, la2, la3, la4, la5, la6]
      refine tk_ (i := 6) (v := undef) rfl (Or.inr ⟨by kernel_rfl, rfl⟩) hH ?_
      simp only [Act.put, la1, la2, la3, la4, la5, la6]
      refine tk_ (i := 7) (v := undef) rfl (Or.inr ⟨by kernel_rfl, rfl⟩) hH ?_
      simp only [Act.put, la1, la2, la3, la4, la5, la6]
      refine tk_ (i := 8) (v := undef) rfl (Or.inr ⟨by kernel_rfl, rfl⟩) hH ?_
      simp only [Act.put, la1, la2, la3, la4, la5, la6]
      refine tk_ (i := 9) (v := undef) rfl (Or.inr ⟨by kernel_rfl, rfl⟩) hH ?_
      simp only [Act.put, la1, la2, la3, la4, la5, la6]
      refine tk_ (i := 10) (v := .bool false) rfl (Or.inl ⟨by kernel_rfl, fun w' _ => by kernel_rfl⟩) hH ?_
      simp only [Act.put, la1, la2, la3, la4, la5, la6]
      refine rd1 (i := 11) (by kernel_rfl) rfl (fun K hK => ?_)
      go_simp
      refine hK.out _ _ (hH) (fun hH => ?_)
      clear hK K
      try simp only [Act.put, la1, la2, la3, la4, la5, la6]
      refine wpAnyH_done (by kernel_rfl) ?_ _
      try simp only [Act.put, la1, la2, la3, la4, la5, la6]
      go_wp2_with fail
      go_ret
      exact ⟨by rw [HD.out]; rfl, hH.2⟩
  · have e1 : (x.kind == 1) = false := by simp [h1]
    obtain ⟨bn, hbn⟩ : ∃ b, decide (x.entry = en0) = b := ⟨_, rfl⟩
    have HBN : Hid (bn = true ↔ x.entry = en0) := hid (by rw [← hbn]; simp)
    by_cases h2 : x.kind = 2
    · have HIT : Hid (itemR x ↔ SRt x.stub ∧ x.entry = en0) := hid (by unfold itemR; rw [if_neg h1, if_pos h2])
      have e2 : (x.kind == 2) = true := by simp [h2]
      clear h1 h2
      have HY := hid (fun W => rbyT_any x.stub hx.2.1 W)
      by_cases hs : SRt x.stub
      · have hby : bytesS x.stub = (x.stub.bytes, true) := by unfold bytesS; rw [if_pos hs]
        rw [hby] at HY
        have HD : Hid (decide (itemR x) = bn) := hid (by rw [Bool.eq_iff_iff, decide_eq_true_iff, HIT.out, HBN.out]; exact ⟨fun h => h.2, fun h => ⟨hs, h⟩⟩)
        generalize x.stub.bytes = T at HY
        clear hs hby HIT hbn
        go_enter Tryz.func43, Tryz.ntmps43
        go_wp2_with (first
          | ((with_reducible show wpList _ _ _ ({ dst := some 21, op := _, type := _, pos := _, after := _, guard := _ } :: _) _ _); refine wpl_load_midw rfl 35 (.tmp 20) rfl w.heap.size 6 rfl (Array.toList x.entry.cells) _ (it_entry R1.out) Tryz.underlying35 rfl (by exact HZE.out) ?_)
          | ((with_reducible show wpList _ _ _ ({ dst := some 23, op := _, type := _, pos := _, after := _, guard := _ } :: _) _ _); refine wpl_eqe2 rfl x.entry en0 _ (.tmp 21) (.tmp 22) _ rfl rfl rfl HBN ?_)
          | ((with_reducible show wpList _ _ _ ({ dst := some 29, op := _, type := _, pos := _, after := _, guard := _ } :: _) _ _); refine wpl_load_midw rfl 38 (.tmp 28) rfl w.heap.size 1 rfl (Array.toList x.stub.cells) _ (it_stub R1.out) Tryz.underlying38 rfl (by exact HZS.out) ?_)
          | (go_at_call 61; refine (HY.out _).mono ?_; rintro e w1 ⟨rfl, hb1⟩))
        go_ret
        exact ⟨by rw [HD.out]; cases bn <;> rfl, HB0.out.trans (hb1.mono HB0.out.size)⟩
      · have hby : bytesS x.stub = ([], false) := by unfold bytesS; rw [if_neg hs]
        rw [hby] at HY
        have HD : Hid (decide (itemR x) = false) := hid (decide_eq_false (fun h => hs (HIT.out.1 h).1))
        clear hs hby HIT hbn
        go_enter Tryz.func43, Tryz.ntmps43
        go_wp2_with (first
          | ((with_reducible show wpList _ _ _ ({ dst := some 21, op := _, type := _, pos := _, after := _, guard := _ } :: _) _ _); refine wpl_load_midw rfl 35 (.tmp 20) rfl w.heap.size 6 rfl (Array.toList x.entry.cells) _ (it_entry R1.out) Tryz.underlying35 rfl (by exact HZE.out) ?_)
          | ((with_reducible show wpList _ _ _ ({ dst := some 23, op := _, type := _, pos := _, after := _, guard := _ } :: _) _ _); refine wpl_eqe2 rfl x.entry en0 _ (.tmp 21) (.tmp 22) _ rfl rfl rfl HBN ?_)
          | ((with_reducible show wpList _ _ _ ({ dst := some 29, op := _, type := _, pos := _, after := _, guard := _ } :: _) _ _); refine wpl_load_midw rfl 38 (.tmp 28) rfl w.heap.size 1 rfl (Array.toList x.stub.cells) _ (it_stub R1.out) Tryz.underlying38 rfl (by exact HZS.out) ?_)
          | (go_at_call 61; refine (HY.out _).mono ?_; rintro e w1 ⟨rfl, hb1⟩))
        go_ret
        exact ⟨by rw [HD.out]; rfl, HB0.out.trans (hb1.mono HB0.out.size)⟩
    · have HIT : Hid (itemR x ↔ (x.kind = 0 ∨ x.kind = 3) ∧ x.entry = en0 ∧ x.stub = st0) := hid (by unfold itemR; rw [if_neg h1, if_neg h2])
      have e2 : (x.kind == 2) = false := by simp [h2]
      obtain ⟨bs, hbs⟩ : ∃ b, decide (x.stub = st0) = b := ⟨_, rfl⟩
      have HBS := hid hbs
      clear h1 h2 hbs
      by_cases h3 : x.kind = 0 ∨ x.kind = 3
      · have HD : Hid (decide (itemR x) = (bn && bs)) := hid (by
          rw [Bool.eq_iff_iff, decide_eq_true_iff, HIT.out, Bool.and_eq_true, HBN.out, ← HBS.out, decide_eq_true_iff]
          exact ⟨fun h => h.2, fun h => ⟨h3, h⟩⟩)
        have HK : Hid ((x.kind == 0) = true ∨ ((x.kind == 0) = false ∧ (x.kind == 3) = true)) := hid (by
          rcases h3 with h | h
          · exact .inl (by simp [h])
          · exact .inr ⟨by simp [h], by simp [h]⟩)
        clear HIT h3 hbn
        rcases HK.out with e3 | ⟨e3, e4⟩
        all_goals
          clear HK
          cases bn
          · go_enter Tryz.func43, Tryz.ntmps43
            go_wp2_with (first
              | ((with_reducible show wpList _ _ _ ({ dst := some 21, op := _, type := _, pos := _, after := _, guard := _ } :: _) _ _); refine wpl_load_midw rfl 35 (.tmp 20) rfl w.heap.size 6 rfl (Array.toList x.entry.cells) _ (it_entry R1.out) Tryz.underlying35 rfl (by exact HZE.out) ?_)
              | ((with_reducible show wpList _ _ _ ({ dst := some 23, op := _, type := _, pos := _, after := _, guard := _ } :: _) _ _); refine wpl_eqe2 rfl x.entry en0 _ (.tmp 21) (.tmp 22) _ rfl rfl rfl HBN ?_)
              | ((with_reducible show wpList _ _ _ ({ dst := some 50, op := _, type := _, pos := _, after := _, guard := _ } :: _) _ _); refine wpl_load_midw rfl 38 (.tmp 49) rfl w.heap.size 1 rfl (Array.toList x.stub.cells) _ (it_stub R1.out) Tryz.underlying38 rfl (by exact HZS.out) ?_)
              | ((with_reducible show wpList _ _ _ ({ dst := some 52, op := _, type := _, pos := _, after := _, guard := _ } :: _) _ _); refine wpl_eqs rfl x.stub st0 _ (.tmp 50) (.tmp 51) _ rfl rfl rfl HBS ?_))
            go_ret
            exact ⟨by rw [HD.out]; first | rfl | simp, HB0.out⟩
          · go_enter Tryz.func43, Tryz.ntmps43
            go_wp2_with (first
              | ((with_reducible show wpList _ _ _ ({ dst := some 21, op := _, type := _, pos := _, after := _, guard := _ } :: _) _ _); refine wpl_load_midw rfl 35 (.tmp 20) rfl w.heap.size 6 rfl (Array.toList x.entry.cells) _ (it_entry R1.out) Tryz.underlying35 rfl (by exact HZE.out) ?_)
              | ((with_reducible show wpList _ _ _ ({ dst := some 23, op := _, type := _, pos := _, after := _, guard := _ } :: _) _ _); refine wpl_eqe2 rfl x.entry en0 _ (.tmp 21) (.tmp 22) _ rfl rfl rfl HBN ?_)
              | ((with_reducible show wpList _ _ _ ({ dst := some 50, op := _, type := _, pos := _, after := _, guard := _ } :: _) _ _); refine wpl_load_midw rfl 38 (.tmp 49) rfl w.heap.size 1 rfl (Array.toList x.stub.cells) _ (it_stub R1.out) Tryz.underlying38 rfl (by exact HZS.out) ?_)
              | ((with_reducible show wpList _ _ _ ({ dst := some 52, op := _, type := _, pos := _, after := _, guard := _ } :: _) _ _); refine wpl_eqs rfl x.stub st0 _ (.tmp 50) (.tmp 51) _ rfl rfl rfl HBS ?_))
            go_ret
            exact ⟨by rw [HD.out]; first | rfl | simp, HB0.out⟩
      · have HD : Hid (decide (itemR x) = false) := hid (decide_eq_false (fun h => h3 (HIT.out.1 h).1))
        have e3 : (x.kind == 0) = false := by simp; omega
        have e4 : (x.kind == 3) = false := by simp; omega
        clear HIT h3 hbn
        go_enter Tryz.func43, Tryz.ntmps43
        go_wp2_with (first
          | ((with_reducible show wpList _ _ _ ({ dst := some 21, op := _, type := _, pos := _, after := _, guard := _ } :: _) _ _); refine wpl_load_midw rfl 35 (.tmp 20) rfl w.heap.size 6 rfl (Array.toList x.entry.cells) _ (it_entry R1.out) Tryz.underlying35 rfl (by exact HZE.out) ?_)
          | ((with_reducible show wpList _ _ _ ({ dst := some 23, op := _, type := _, pos := _, after := _, guard := _ } :: _) _ _); refine wpl_eqe2 rfl x.entry en0 _ (.tmp 21) (.tmp 22) _ rfl rfl rfl HBN ?_)
          | ((with_reducible show wpList _ _ _ ({ dst := some 50, op := _, type := _, pos := _, after := _, guard := _ } :: _) _ _); refine wpl_load_midw rfl 38 (.tmp 49) rfl w.heap.size 1 rfl (Array.toList x.stub.cells) _ (it_stub R1.out) Tryz.underlying38 rfl (by exact HZS.out) ?_)
          | ((with_reducible show wpList _ _ _ ({ dst := some 52, op := _, type := _, pos := _, after := _, guard := _ } :: _) _ _); refine wpl_eqs rfl x.stub st0 _ (.tmp 50) (.tmp 51) _ rfl rfl rfl HBS ?_))
        go_ret
        exact ⟨by rw [HD.out]; first | rfl | simp, HB0.out⟩
end Go.Proofs.YteahbalcielhpaaGreatDoor
/-
  The program's within, longest, number.
-/
namespace Go.Proofs.YteahbalcielhpaaGreatDoor
open Go.RowKit
set_option maxRecDepth 10000

set_option maxHeartbeats 1000000 in
theorem mwithin_any (hi : Int) (A : Option Addr) (c B : Nat) (l : List Int) (w : World) (hr : Rd w B A (ivs l)) (hl : l.length ≤ 1000) (hpos : 0 < l.length) (hc : l.length ≤ c) :
    Calls Tryz.prog 48 #[.int .i64 hi, .slice A l.length c] w fun e w' => e = .returned (.bool (wi 0 hi l)) ∧ w = w' := by
  obtain ⟨g, o, rfl, -, hcell⟩ := hr (by intro e; have := ivs_len l; rw [e] at this; simp at this; omega)
  have HC : Hid (∀ k, (h : k < l.length) → w.cell? ⟨g, o + k, none⟩ = some (.int .i64 l[k])) := hid fun k h => hcell k _ (by simp [ivs, h])
  obtain ⟨n, hn⟩ : ∃ n, n = l.length := ⟨_, rfl⟩
  rw [← hn] at hl hpos hc ⊢
  have HN := hid hn
  clear hr hcell hn
  go_enter Tryz.func48, Tryz.ntmps48
  go_wp2_with fail
  go_loop [9] (fun i => ∃ k : Nat, k ≤ n ∧ i = .int .i64 k ∧ Hid (wi 0 hi (l.take k) = true)) (fun i => n - (intOf i).toNat)
  case atStart => exact ⟨0, by omega, rfl, hid rfl⟩
  case round =>
    obtain ⟨k, hk, rfl, hpast⟩ := hrel
    by_cases hlt : k < n
    · have hkl : k < l.length := by rw [← HN.out]; exact hlt
      have hce := HC.out k hkl
      have HS := hid (wi_snoc 0 hi l k hkl hpast.out)
      have HX := hid (wi_not 0 hi l k hkl)
      generalize l[k] = x at hce HS HX
      by_cases h1 : x < 0
      · go_wp2_with fail
        go_ret
        rw [HX.out (by omega)]
        exact ⟨rfl, rfl⟩
      · by_cases h2 : hi < x
        · go_wp2_with fail
          go_ret
          rw [HX.out (by omega)]
          exact ⟨rfl, rfl⟩
        · go_wp2_with fail
          go_round
          case rel => exact ⟨k + 1, by omega, by go_num, hid (HS.out (by omega))⟩
          case measure => simp [intOf]; omega
    · obtain rfl : k = n := by omega
      go_wp2_with fail
      go_ret
      have hy := hpast.out
      rw [List.take_of_length_le (by rw [HN.out]; exact Nat.le_refl _)] at hy
      rw [hy]
      exact ⟨rfl, rfl⟩
/-- over a list that was just laid -/
theorem mwiA (hi : Int) (l : List Int) (cs : Array Value) (n : Nat) (hl : l.length ≤ 1000) (hpos : 0 < l.length) (hcs : cs.toList = ivs l) (hn : l.length = n) (W : World) (g : Nat) (hg : g = W.heap.size) :
    Calls Tryz.prog 48 #[.int .i64 hi, .slice (some ⟨g, 0, none⟩) n n] (W.alloc (.cells cs 3)) fun e w' => e = .returned (.bool (wi 0 hi l)) ∧ (W.alloc (.cells cs 3)) = w' := by
  subst hg hn
  have := Row.new W 3 cs
  rw [hcs] at this
  exact mwithin_any hi _ _ (W.heap.size + 1) l _ (this.rd (by omega)) hl hpos (Nat.le_refl _)
theorem longest_any (k : Int) (w : World) : Calls Tryz.prog 69 #[.int .i64 k] w fun e w' => e = .returned (.int .i64 (if k = 15 then 320 else 200)) ∧ w = w' := by
  by_cases h : k = 15
  · rw [if_pos h]
    go_enter Tryz.func69, Tryz.ntmps69
    go_wp2_with fail
    go_ret
    exact ⟨rfl, rfl⟩
  · rw [if_neg h]
    go_enter Tryz.func69, Tryz.ntmps69
    go_wp2_with fail
    go_ret
    exact ⟨rfl, rfl⟩
theorem number_118 (m : Ms) (p : Pl) (w : World) : Calls Tryz.prog 70 #[.agg (m.cells p), .int .i32 118] w (VE w (.int .i64 m.view)) := by
  have HB0 : Hid (Below w.heap.size w (w.alloc (.cells (m.cells p) 45))) := hid ((Below.refl _ _).alloc (Nat.le_refl _) _)
  have R1 : Row (w.alloc (.cells (m.cells p) 45)) w.heap.size 45 (m.cells p).toList := Row.new _ _ _
  have a0 : (w.alloc (.cells (m.cells p) 45)).cell? ⟨w.heap.size, 2, none⟩ = some (.int .i64 m.view) := R1.cell 2
  generalize m.cells p = Z at *
  clear R1
  go_enter Tryz.func70, Tryz.ntmps70
  go_wp2_with fail
  go_ret
  exact ⟨rfl, HB0.out⟩
theorem number_108 (m : Ms) (p : Pl) (w : World) : Calls Tryz.prog 70 #[.agg (m.cells p), .int .i32 108] w (VE w (.int .i64 m.lv)) := by
  have HB0 : Hid (Below w.heap.size w (w.alloc (.cells (m.cells p) 45))) := hid ((Below.refl _ _).alloc (Nat.le_refl _) _)
  have R1 : Row (w.alloc (.cells (m.cells p) 45)) w.heap.size 45 (m.cells p).toList := Row.new _ _ _
  have a0 : (w.alloc (.cells (m.cells p) 45)).cell? ⟨w.heap.size, 3, none⟩ = some (.int .i64 m.lv) := R1.cell 3
  generalize m.cells p = Z at *
  clear R1
  go_enter Tryz.func70, Tryz.ntmps70
  go_wp2_with fail
  go_ret
  exact ⟨rfl, HB0.out⟩
theorem number_112 (m : Ms) (p : Pl) (w : World) : Calls Tryz.prog 70 #[.agg (m.cells p), .int .i32 112] w (VE w (.int .i64 m.opn)) := by
  have HB0 : Hid (Below w.heap.size w (w.alloc (.cells (m.cells p) 45))) := hid ((Below.refl _ _).alloc (Nat.le_refl _) _)
  have R1 : Row (w.alloc (.cells (m.cells p) 45)) w.heap.size 45 (m.cells p).toList := Row.new _ _ _
  have a0 : (w.alloc (.cells (m.cells p) 45)).cell? ⟨w.heap.size, 4, none⟩ = some (.int .i64 m.opn) := R1.cell 4
  generalize m.cells p = Z at *
  clear R1
  go_enter Tryz.func70, Tryz.ntmps70
  go_wp2_with fail
  go_ret
  exact ⟨rfl, HB0.out⟩
theorem number_109 (m : Ms) (p : Pl) (w : World) : Calls Tryz.prog 70 #[.agg (m.cells p), .int .i32 109] w (VE w (.int .i64 m.commit)) := by
  have HB0 : Hid (Below w.heap.size w (w.alloc (.cells (m.cells p) 45))) := hid ((Below.refl _ _).alloc (Nat.le_refl _) _)
  have R1 : Row (w.alloc (.cells (m.cells p) 45)) w.heap.size 45 (m.cells p).toList := Row.new _ _ _
  have a0 : (w.alloc (.cells (m.cells p) 45)).cell? ⟨w.heap.size, 5, none⟩ = some (.int .i64 m.commit) := R1.cell 5
  generalize m.cells p = Z at *
  clear R1
  go_enter Tryz.func70, Tryz.ntmps70
  go_wp2_with fail
  go_ret
  exact ⟨rfl, HB0.out⟩
theorem number_99 (m : Ms) (p : Pl) (w : World) : Calls Tryz.prog 70 #[.agg (m.cells p), .int .i32 99] w (VE w (.int .i64 m.client)) := by
  have HB0 : Hid (Below w.heap.size w (w.alloc (.cells (m.cells p) 45))) := hid ((Below.refl _ _).alloc (Nat.le_refl _) _)
  have R1 : Row (w.alloc (.cells (m.cells p) 45)) w.heap.size 45 (m.cells p).toList := Row.new _ _ _
  have a0 : (w.alloc (.cells (m.cells p) 45)).cell? ⟨w.heap.size, 6, none⟩ = some (.int .i64 m.client) := R1.cell 6
  generalize m.cells p = Z at *
  clear R1
  go_enter Tryz.func70, Tryz.ntmps70
  go_wp2_with fail
  go_ret
  exact ⟨rfl, HB0.out⟩
theorem number_115 (m : Ms) (p : Pl) (w : World) : Calls Tryz.prog 70 #[.agg (m.cells p), .int .i32 115] w (VE w (.int .i64 m.session)) := by
  have HB0 : Hid (Below w.heap.size w (w.alloc (.cells (m.cells p) 45))) := hid ((Below.refl _ _).alloc (Nat.le_refl _) _)
  have R1 : Row (w.alloc (.cells (m.cells p) 45)) w.heap.size 45 (m.cells p).toList := Row.new _ _ _
  have a0 : (w.alloc (.cells (m.cells p) 45)).cell? ⟨w.heap.size, 7, none⟩ = some (.int .i64 m.session) := R1.cell 7
  generalize m.cells p = Z at *
  clear R1
  go_enter Tryz.func70, Tryz.ntmps70
  go_wp2_with fail
  go_ret
  exact ⟨rfl, HB0.out⟩
theorem number_114 (m : Ms) (p : Pl) (w : World) : Calls Tryz.prog 70 #[.agg (m.cells p), .int .i32 114] w (VE w (.int .i64 m.request)) := by
  have HB0 : Hid (Below w.heap.size w (w.alloc (.cells (m.cells p) 45))) := hid ((Below.refl _ _).alloc (Nat.le_refl _) _)
  have R1 : Row (w.alloc (.cells (m.cells p) 45)) w.heap.size 45 (m.cells p).toList := Row.new _ _ _
  have a0 : (w.alloc (.cells (m.cells p) 45)).cell? ⟨w.heap.size, 8, none⟩ = some (.int .i64 m.request) := R1.cell 8
  generalize m.cells p = Z at *
  clear R1
  go_enter Tryz.func70, Tryz.ntmps70
  go_wp2_with fail
  go_ret
  exact ⟨rfl, HB0.out⟩
theorem number_111 (m : Ms) (p : Pl) (w : World) : Calls Tryz.prog 70 #[.agg (m.cells p), .int .i32 111] w (VE w (.int .i64 m.oper)) := by
  have HB0 : Hid (Below w.heap.size w (w.alloc (.cells (m.cells p) 45))) := hid ((Below.refl _ _).alloc (Nat.le_refl _) _)
  have R1 : Row (w.alloc (.cells (m.cells p) 45)) w.heap.size 45 (m.cells p).toList := Row.new _ _ _
  have a0 : (w.alloc (.cells (m.cells p) 45)).cell? ⟨w.heap.size, 9, none⟩ = some (.int .i64 m.oper) := R1.cell 9
  generalize m.cells p = Z at *
  clear R1
  go_enter Tryz.func70, Tryz.ntmps70
  go_wp2_with fail
  go_ret
  exact ⟨rfl, HB0.out⟩
theorem number_120 (m : Ms) (p : Pl) (w : World) : Calls Tryz.prog 70 #[.agg (m.cells p), .int .i32 120] w (VE w (.int .i64 m.index)) := by
  have HB0 : Hid (Below w.heap.size w (w.alloc (.cells (m.cells p) 45))) := hid ((Below.refl _ _).alloc (Nat.le_refl _) _)
  have R1 : Row (w.alloc (.cells (m.cells p) 45)) w.heap.size 45 (m.cells p).toList := Row.new _ _ _
  have a0 : (w.alloc (.cells (m.cells p) 45)).cell? ⟨w.heap.size, 10, none⟩ = some (.int .i64 m.index) := R1.cell 10
  generalize m.cells p = Z at *
  clear R1
  go_enter Tryz.func70, Tryz.ntmps70
  go_wp2_with fail
  go_ret
  exact ⟨rfl, HB0.out⟩
theorem number_122 (m : Ms) (p : Pl) (w : World) : Calls Tryz.prog 70 #[.agg (m.cells p), .int .i32 122] w (VE w (.int .i64 m.size)) := by
  have HB0 : Hid (Below w.heap.size w (w.alloc (.cells (m.cells p) 45))) := hid ((Below.refl _ _).alloc (Nat.le_refl _) _)
  have R1 : Row (w.alloc (.cells (m.cells p) 45)) w.heap.size 45 (m.cells p).toList := Row.new _ _ _
  have a0 : (w.alloc (.cells (m.cells p) 45)).cell? ⟨w.heap.size, 11, none⟩ = some (.int .i64 m.size) := R1.cell 11
  generalize m.cells p = Z at *
  clear R1
  go_enter Tryz.func70, Tryz.ntmps70
  go_wp2_with fail
  go_ret
  exact ⟨rfl, HB0.out⟩
/-- the signs of numbers -/
def sgN : List Nat := [118, 108, 112, 109, 99, 115, 114, 111, 120, 122]
theorem number_any (m : Ms) (p : Pl) (c : Nat) (hc : c ∈ sgN) (w : World) : Calls Tryz.prog 70 #[.agg (m.cells p), .int .i32 (c : Int)] w (VE w (.int .i64 (numS m c))) := by
  simp only [sgN, List.mem_cons, List.not_mem_nil, or_false] at hc
  rcases hc with rfl | rfl | rfl | rfl | rfl | rfl | rfl | rfl | rfl | rfl
  · exact number_118 m p w
  · exact number_108 m p w
  · exact number_112 m p w
  · exact number_109 m p w
  · exact number_99 m p w
  · exact number_115 m p w
  · exact number_114 m p w
  · exact number_111 m p w
  · exact number_120 m p w
  · exact number_122 m p w
end Go.Proofs.YteahbalcielhpaaGreatDoor
