/-
  The document's Same of messages.
-/
import Derived.Test.YtcildaeiogdfdaaGreatDoorZ19
namespace Go.Proofs.YtcildaeiogdfdaaGreatDoor
open Go.RowKit
set_option maxRecDepth 10000

theorem isize : (Tryz.prog.info? 62).map (·.size) = some 15 := by kernel_rfl
theorem mssize : (Tryz.prog.info? 32).map (·.size) = some 33 := by kernel_rfl
theorem size6 : (Tryz.prog.info? 26).map (·.size) = some 6 := by kernel_rfl
section
variable {W : World} {g : Nat} {m : Ms} {p : Pl}
theorem ms_check (h : Row W g 32 (m.cells p).toList) : W.rangeAt g 12 m.check.cells.toList := fun j v hv => by
  rw [h.cell, show (m.cells p).toList = (m.cells p).toList.take 12 ++ (m.check.cells.toList ++ (m.cells p).toList.drop 15) from rfl, List.getElem?_append_right (by simp [Ms.cells])]
  rw [show 12 + j - ((m.cells p).toList.take 12).length = j by simp [Ms.cells], List.getElem?_append_left (List.getElem?_eq_some_iff.1 hv).1]
  exact hv
theorem ms_sums (h : Row W g 32 (m.cells p).toList) : W.rangeAt g 15 (sixV m.sums).toList := fun j v hv => by
  rw [h.cell, show (m.cells p).toList = (m.cells p).toList.take 15 ++ ((sixV m.sums).toList ++ (m.cells p).toList.drop 21) from rfl, List.getElem?_append_right (by simp [Ms.cells])]
  rw [show 15 + j - ((m.cells p).toList.take 15).length = j by simp [Ms.cells], List.getElem?_append_left (List.getElem?_eq_some_iff.1 hv).1]
  exact hv
theorem ms_entry (h : Row W g 32 (m.cells p).toList) : W.rangeAt g 21 m.entry.cells.toList := fun j v hv => by
  rw [h.cell, show (m.cells p).toList = (m.cells p).toList.take 21 ++ (m.entry.cells.toList ++ (m.cells p).toList.drop 30) from rfl, List.getElem?_append_right (by simp [Ms.cells])]
  rw [show 21 + j - ((m.cells p).toList.take 21).length = j by simp [Ms.cells], List.getElem?_append_left (List.getElem?_eq_some_iff.1 hv).1]
  exact hv
end
theorem ms_ext (m n : Ms) : m = n ↔ (m.kind = n.kind ∧ m.frm = n.frm ∧ m.view = n.view ∧ m.lv = n.lv ∧ m.opn = n.opn ∧ m.commit = n.commit) ∧ (m.client = n.client ∧ m.session = n.session ∧ m.request = n.request ∧ m.oper = n.oper ∧ m.index = n.index ∧ m.size = n.size) ∧
    m.check = n.check ∧ m.sums = n.sums ∧ m.entry = n.entry ∧ m.es = n.es ∧ m.xs = n.xs ∧ m.body = n.body := by
  obtain ⟨a1, a2, a3, a4, a5, a6, a7, a8, a9, a10, a11, a12, a13, a14, a15, a16, a17, a18⟩ := m
  obtain ⟨b1, b2, b3, b4, b5, b6, b7, b8, b9, b10, b11, b12, b13, b14, b15, b16, b17, b18⟩ := n
  simp only [Ms.mk.injEq]
  constructor
  · rintro ⟨h1, h2, h3, h4, h5, h6, h7, h8, h9, h10, h11, h12, h13, h14, h15, h16, h17, h18⟩
    exact ⟨⟨h1, h2, h3, h4, h5, h6⟩, ⟨h7, h8, h9, h10, h11, h12⟩, h13, h14, h15, h16, h17, h18⟩
  · rintro ⟨⟨h1, h2, h3, h4, h5, h6⟩, ⟨h7, h8, h9, h10, h11, h12⟩, h13, h14, h15, h16, h17, h18⟩
    exact ⟨h1, h2, h3, h4, h5, h6, h7, h8, h9, h10, h11, h12, h13, h14, h15, h16, h17, h18⟩
theorem body_eq (a b : ByteArray) : (a.toList == b.toList) = decide (a = b) := by
  rw [Bool.eq_iff_iff, beq_iff_eq, decide_eq_true_iff]
  by_cases h : a = b
  · simp [h]
  · have := str_ne h
    rw [beq_eq_false_iff_ne] at this
    exact ⟨fun e => absurd e this, fun e => absurd e h⟩
set_option maxHeartbeats 4000000 in
theorem same_any (m n : Ms) (p q : Pl) (B : Nat) (w : World) (hm : PlOk w B m p) (hn : PlOk w B n q) (hB : B ≤ w.heap.size) (hs : m.sums.length = 6) (ht : n.sums.length = 6) :
    Calls Tryz.prog 7 #[.agg (m.cells p), .agg (n.cells q)] w (VE w (.bool (decide (m = n)))) := by
  have HS6 := hid hs
  have HT6 := hid ht
  have HEX := hid (ms_ext m n)
  have HZI := hid isize
  have HZE := hid esize
  have HZM := hid msize
  have HZ6 := hid size6
  have HBE := hid body_eq
  have HSE : Hid (∀ W, Below w.heap.size w W → Calls Tryz.prog 18 #[.slice p.A m.es.length p.cA, .slice q.A n.es.length q.cA] W (VE W (.bool (decide (m.es = n.es))))) := hid fun W hW =>
    samee_any p.A q.A m.es n.es _ _ p.cA q.cA B W (hm.a.below hW hB) (hn.a.below hW hB) rfl rfl hm.ca hn.ca (Nat.le_trans hB hW.size) hm.la hn.la
  have HXA : Hid (∀ W, Below w.heap.size w W → Rd W B p.B (rws (fun x : It => x.cells.toList) m.xs)) := hid fun W hW => hm.b.below hW hB
  have HXB : Hid (∀ W, Below w.heap.size w W → Rd W B q.B (rws (fun x : It => x.cells.toList) n.xs)) := hid fun W hW => hn.b.below hW hB
  have hcb := hm.cb
  have hcb2 := hn.cb
  have hla := hm.lb
  have hlb := hn.lb
  obtain ⟨W0, hW0⟩ : ∃ W0, W0 = (w.alloc (.cells (m.cells p) 32)).alloc (.cells (n.cells q) 32) := ⟨_, rfl⟩
  have HB0 : Hid (Below w.heap.size w ((w.alloc (.cells (m.cells p) 32)).alloc (.cells (n.cells q) 32))) := hid (((Below.refl _ _).alloc (Nat.le_refl _) _).alloc (by simp) _)
  have R1 : Hid (Row ((w.alloc (.cells (m.cells p) 32)).alloc (.cells (n.cells q) 32)) w.heap.size 32 (m.cells p).toList) := hid ((Row.new _ _ _).alloc _)
  have R2 : Hid (Row ((w.alloc (.cells (m.cells p) 32)).alloc (.cells (n.cells q) 32)) (w.heap.size + 1) 32 (n.cells q).toList) := hid (by
    have := Row.new (w.alloc (.cells (m.cells p) 32)) 32 (n.cells q)
    simpa using this)
  have a31 : ((w.alloc (.cells (m.cells p) 32)).alloc (.cells (n.cells q) 32)).cell? ⟨w.heap.size, 31, none⟩ = some (.slice p.B m.xs.length p.cB) := R1.out.cell 31
  have a30 : ((w.alloc (.cells (m.cells p) 32)).alloc (.cells (n.cells q) 32)).cell? ⟨w.heap.size, 30, none⟩ = some (.slice p.A m.es.length p.cA) := R1.out.cell 30
  have b31 : ((w.alloc (.cells (m.cells p) 32)).alloc (.cells (n.cells q) 32)).cell? ⟨w.heap.size + 1, 31, none⟩ = some (.slice q.B n.xs.length q.cB) := R2.out.cell 31
  have b30 : ((w.alloc (.cells (m.cells p) 32)).alloc (.cells (n.cells q) 32)).cell? ⟨w.heap.size + 1, 30, none⟩ = some (.slice q.A n.es.length q.cA) := R2.out.cell 30
  clear hW0 hm hn hs ht
  by_cases hlx : (m.xs.length : Int) = (n.xs.length : Int)
  · have e1 : ((m.xs.length : Int) != (n.xs.length : Int)) = false := by simp [hlx]
    have HLX := hid hlx
    clear hlx
    by_cases hes : m.es = n.es
    · rw [show decide (m.es = n.es) = true from decide_eq_true hes] at HSE
      have HES := hid hes
      clear hes
      go_enter Tryz.func7, Tryz.ntmps7
      go_wp2_with (go_at_call 18; refine (HSE.out _ HB0.out).mono ?_; rintro e w1 ⟨rfl, hb1⟩)
      have Q1 : Hid (Row w1 w.heap.size 32 (m.cells p).toList) := hid (R1.out.below hb1 (by simp; omega))
      have Q2 : Hid (Row w1 (w.heap.size + 1) 32 (n.cells q).toList) := hid (R2.out.below hb1 (by simp))
      have HB1 := hid (HB0.out.trans (hb1.mono HB0.out.size))
      clear HB0 R1 R2 a31 a30 b31 b30 hb1 HSE
      go_loopw [5] (fun i wr => ∃ k : Nat, k ≤ m.xs.length ∧ i = .int .i64 (k : Int) ∧ Hid (m.xs.take k = n.xs.take k) ∧ Hid (Row wr w.heap.size 32 (m.cells p).toList) ∧ Hid (Row wr (w.heap.size + 1) 32 (n.cells q).toList) ∧ Hid (Below w.heap.size w wr)) (fun i _ => m.xs.length - (intOf i).toNat)
      case atStart => exact ⟨0, by omega, rfl, hid rfl, Q1, Q2, HB1⟩
      case round =>
        obtain ⟨k, hk, rfl, HT, P1, P2, HBW⟩ := hrel
        clear Q1 Q2 HB1
        have a31 : wr.cell? ⟨w.heap.size, 31, none⟩ = some (.slice p.B m.xs.length p.cB) := P1.out.cell 31
        by_cases hlt : k < m.xs.length
        · have hkn : k < n.xs.length := by have := HLX.out; omega
          obtain ⟨g, o, hA, hg, hrg⟩ := rws_at (n := 15) (fun _ => rfl) (HXA.out _ HBW.out) k hlt (by omega)
          obtain ⟨g', o', hA', hg', hrg'⟩ := rws_at (n := 15) (fun _ => rfl) (HXB.out _ HBW.out) k hkn (by omega)
          have b31 : wr.cell? ⟨w.heap.size + 1, 31, none⟩ = some (.slice q.B n.xs.length q.cB) := P2.out.cell 31
          rw [hA] at a31
          rw [hA'] at b31
          have hlen : n.xs.length = m.xs.length := by have := HLX.out; omega
          rw [hlen] at b31 hcb2
          have hi : (k : Int) < (m.xs.length : Int) := by omega
          have hi0 : (0 : Int) ≤ (k : Int) := by omega
          have HNX := hid (take_snoc_eq m.xs n.xs k hlt hkn HT.out)
          have HNO := hid (ne_of_get m.xs n.xs k hlt hkn)
          have HRG : Hid (∀ W, wr.drew = W → W.rangeAt g (o + k * 15) m.xs[k].cells.toList) := hid (by rintro W rfl; exact hrg)
          have HRG' : Hid (∀ W, wr.drew = W → W.rangeAt g' (o' + k * 15) n.xs[k].cells.toList) := hid (by rintro W rfl; exact hrg')
          have HEQ : Hid (decide (m.xs[k] = n.xs[k]) = true ↔ m.xs[k] = n.xs[k]) := hid (by simp)
          have HA31 : Hid (∀ W, wr.drew = W → W.cell? ⟨w.heap.size, 31, none⟩ = some (.slice (some ⟨g, o, none⟩) m.xs.length p.cB)) := hid (by rintro W rfl; exact a31)
          have HB31 : Hid (∀ W, wr.drew = W → W.cell? ⟨w.heap.size + 1, 31, none⟩ = some (.slice (some ⟨g', o', none⟩) m.xs.length q.cB)) := hid (by rintro W rfl; exact b31)
          generalize m.xs[k] = X at *
          generalize n.xs[k] = Y at *
          generalize decide (X = Y) = b at HEQ
          clear hrg hrg' hg hg' hA hA' HXA HXB HT hkn hlen hlt
          go_wp2_with fail
          refine wp_region_held_drew (S := (fun W => wr.drew = W)) (by kernel_rfl) (rfl) (fun hH => ?_)
          refine tk_ (i := 0) (v := .pointer (some ⟨w.heap.size, 31, none⟩)) rfl (Or.inl ⟨by kernel_rfl, fun w' _ => by kernel_rfl⟩) hH ?_
          simp only [Act.put, la1, la3, la4, la5, la6]
          refine tk_ (i := 1) (v := .slice (some ⟨g, o, none⟩) m.xs.length p.cB) rfl (Or.inl ⟨by rfl, fun w' hw' => by have h := HA31.out w' hw'; go_simp⟩) hH ?_
          simp only [Act.put, la1, la2, la3, la4, la5, la6]
          refine tk_ (i := 2) (v := .int .i64 (k : Int)) rfl (Or.inl ⟨by rfl, fun w' hw' => by clear hw'; go_simp⟩) hH ?_
          simp only [Act.put, la1, la2, la3, la4, la5, la6]
          refine tk_ (i := 3) (v := .pointer (some ⟨g, o + k * 15, none⟩)) rfl (Or.inl ⟨by rfl, fun w' hw' => by clear hw'; go_simp⟩) hH ?_
          simp only [Act.put, la1, la2, la3, la4, la5, la6]
          refine tk_ (i := 4) (v := .agg (X.cells)) rfl (yieldsIf_load_mid rfl 62 (.tmp 31) rfl (g) (o + k * 15) rfl (Array.toList (X.cells)) _ (fun W hW => HRG.out W hW) Tryz.underlying62 rfl (by exact HZI.out)) hH ?_
          simp only [Act.put, la1, la2, la3, la4, la5, la6]
          refine tk_ (i := 5) (v := .pointer (some ⟨w.heap.size + 1, 31, none⟩)) rfl (Or.inl ⟨by kernel_rfl, fun w' _ => by kernel_rfl⟩) hH ?_
          simp only [Act.put, la1, la2, la3, la4, la5, la6]
          refine tk_ (i := 6) (v := .slice (some ⟨g', o', none⟩) m.xs.length q.cB) rfl (Or.inl ⟨by rfl, fun w' hw' => by have h := HB31.out w' hw'; go_simp⟩) hH ?_
          simp only [Act.put, la1, la2, la3, la4, la5, la6]
          refine tk_ (i := 7) (v := .int .i64 (k : Int)) rfl (Or.inl ⟨by rfl, fun w' hw' => by clear hw'; go_simp⟩) hH ?_
          simp only [Act.put, la1, la2, la3, la4, la5, la6]
          refine tk_ (i := 8) (v := .pointer (some ⟨g', o' + k * 15, none⟩)) rfl (Or.inl ⟨by rfl, fun w' hw' => by clear hw'; go_simp⟩) hH ?_
          simp only [Act.put, la1, la2, la3, la4, la5, la6]
          refine tk_ (i := 9) (v := .agg (Y.cells)) rfl (yieldsIf_load_mid rfl 62 (.tmp 36) rfl (g') (o' + k * 15) rfl (Array.toList (Y.cells)) _ (fun W hW => HRG'.out W hW) Tryz.underlying62 rfl (by exact HZI.out)) hH ?_
          simp only [Act.put, la1, la2, la3, la4, la5, la6]
          refine tk_ (i := 10) (v := .bool (!b)) rfl (yields_nei (by kernel_rfl) X Y b HEQ (.tmp 32) (.tmp 37) _ rfl (by kernel_rfl) (by kernel_rfl)) hH ?_
          simp only [Act.put, la1, la2, la3, la4, la5, la6]
          refine wpAnyH_done (by kernel_rfl) ?_ _
          try simp only [Act.put, la1, la2, la3, la4, la5, la6]
          cases b
          · have HDN : Hid (decide (m = n) = false) := hid (decide_eq_false (fun e => HNO.out (fun h => by have := HEQ.out.2 h; cases this) (by rw [e])))
            go_wp2_with fail
            go_ret
            exact ⟨by rw [HDN.out]; rfl, HBW.out.drew⟩
          · go_wp2_with fail
            go_roundw
            case rel => exact ⟨k + 1, by omega, by go_num, hid (HNX.out (HEQ.out.1 rfl)), hid P1.out.drew, hid P2.out.drew, hid HBW.out.drew⟩
            case measure => simp [intOf]; omega
        · obtain rfl : k = m.xs.length := by omega
          have HXS : Hid (m.xs = n.xs) := hid (by
            have := HT.out
            rwa [List.take_of_length_le (by omega), List.take_of_length_le (by have := HLX.out; omega)] at this)
          have a0 : wr.cell? ⟨w.heap.size, 0, none⟩ = some (.int .i64 m.kind) := P1.out.cell 0
          have b0 : wr.cell? ⟨w.heap.size + 1, 0, none⟩ = some (.int .i64 n.kind) := P2.out.cell 0
          have a1 : wr.cell? ⟨w.heap.size, 1, none⟩ = some (.int .i64 m.frm) := P1.out.cell 1
          have b1 : wr.cell? ⟨w.heap.size + 1, 1, none⟩ = some (.int .i64 n.frm) := P2.out.cell 1
          have a2 : wr.cell? ⟨w.heap.size, 2, none⟩ = some (.int .i64 m.view) := P1.out.cell 2
          have b2 : wr.cell? ⟨w.heap.size + 1, 2, none⟩ = some (.int .i64 n.view) := P2.out.cell 2
          have a3 : wr.cell? ⟨w.heap.size, 3, none⟩ = some (.int .i64 m.lv) := P1.out.cell 3
          have b3 : wr.cell? ⟨w.heap.size + 1, 3, none⟩ = some (.int .i64 n.lv) := P2.out.cell 3
          have a4 : wr.cell? ⟨w.heap.size, 4, none⟩ = some (.int .i64 m.opn) := P1.out.cell 4
          have b4 : wr.cell? ⟨w.heap.size + 1, 4, none⟩ = some (.int .i64 n.opn) := P2.out.cell 4
          have a5 : wr.cell? ⟨w.heap.size, 5, none⟩ = some (.int .i64 m.commit) := P1.out.cell 5
          have b5 : wr.cell? ⟨w.heap.size + 1, 5, none⟩ = some (.int .i64 n.commit) := P2.out.cell 5
          have a6 : wr.cell? ⟨w.heap.size, 6, none⟩ = some (.int .i64 m.client) := P1.out.cell 6
          have b6 : wr.cell? ⟨w.heap.size + 1, 6, none⟩ = some (.int .i64 n.client) := P2.out.cell 6
          have a7 : wr.cell? ⟨w.heap.size, 7, none⟩ = some (.int .i64 m.session) := P1.out.cell 7
          have b7 : wr.cell? ⟨w.heap.size + 1, 7, none⟩ = some (.int .i64 n.session) := P2.out.cell 7
          have a8 : wr.cell? ⟨w.heap.size, 8, none⟩ = some (.int .i64 m.request) := P1.out.cell 8
          have b8 : wr.cell? ⟨w.heap.size + 1, 8, none⟩ = some (.int .i64 n.request) := P2.out.cell 8
          have a9 : wr.cell? ⟨w.heap.size, 9, none⟩ = some (.int .i64 m.oper) := P1.out.cell 9
          have b9 : wr.cell? ⟨w.heap.size + 1, 9, none⟩ = some (.int .i64 n.oper) := P2.out.cell 9
          have a10 : wr.cell? ⟨w.heap.size, 10, none⟩ = some (.int .i64 m.index) := P1.out.cell 10
          have b10 : wr.cell? ⟨w.heap.size + 1, 10, none⟩ = some (.int .i64 n.index) := P2.out.cell 10
          have a11 : wr.cell? ⟨w.heap.size, 11, none⟩ = some (.int .i64 m.size) := P1.out.cell 11
          have b11 : wr.cell? ⟨w.heap.size + 1, 11, none⟩ = some (.int .i64 n.size) := P2.out.cell 11
          have a32 : wr.cell? ⟨w.heap.size, 32, none⟩ = some (.string m.body) := P1.out.cell 32
          have b32 : wr.cell? ⟨w.heap.size + 1, 32, none⟩ = some (.string n.body) := P2.out.cell 32
          clear HT HXA HXB hcb hcb2
          by_cases h0 : m.kind = n.kind
          case neg =>
            have e2 : (m.kind != n.kind) = true := by simp [h0]
            have HDN : Hid (decide (m = n) = false) := hid (decide_eq_false (fun e => h0 (by rw [e])))
            clear h0
            go_wp2_with fail
            go_ret
            exact ⟨by rw [HDN.out]; rfl, HBW.out⟩
          have e2 : (m.kind != n.kind) = false := by simp [h0]
          have E0 := hid h0
          clear h0
          by_cases h1 : m.frm = n.frm
          case neg =>
            have e3 : (m.frm != n.frm) = true := by simp [h1]
            have HDN : Hid (decide (m = n) = false) := hid (decide_eq_false (fun e => h1 (by rw [e])))
            clear h1
            go_wp2_with fail
            go_ret
            exact ⟨by rw [HDN.out]; rfl, HBW.out⟩
          have e3 : (m.frm != n.frm) = false := by simp [h1]
          have E1 := hid h1
          clear h1
          by_cases h2 : m.view = n.view
          case neg =>
            have e4 : (m.view != n.view) = true := by simp [h2]
            have HDN : Hid (decide (m = n) = false) := hid (decide_eq_false (fun e => h2 (by rw [e])))
            clear h2
            go_wp2_with fail
            go_ret
            exact ⟨by rw [HDN.out]; rfl, HBW.out⟩
          have e4 : (m.view != n.view) = false := by simp [h2]
          have E2 := hid h2
          clear h2
          by_cases h3 : m.lv = n.lv
          case neg =>
            have e5 : (m.lv != n.lv) = true := by simp [h3]
            have HDN : Hid (decide (m = n) = false) := hid (decide_eq_false (fun e => h3 (by rw [e])))
            clear h3
            go_wp2_with fail
            go_ret
            exact ⟨by rw [HDN.out]; rfl, HBW.out⟩
          have e5 : (m.lv != n.lv) = false := by simp [h3]
          have E3 := hid h3
          clear h3
          by_cases h4 : m.opn = n.opn
          case neg =>
            have e6 : (m.opn != n.opn) = true := by simp [h4]
            have HDN : Hid (decide (m = n) = false) := hid (decide_eq_false (fun e => h4 (by rw [e])))
            clear h4
            go_wp2_with fail
            go_ret
            exact ⟨by rw [HDN.out]; rfl, HBW.out⟩
          have e6 : (m.opn != n.opn) = false := by simp [h4]
          have E4 := hid h4
          clear h4
          by_cases h5 : m.commit = n.commit
          case neg =>
            have e7 : (m.commit != n.commit) = true := by simp [h5]
            have HDN : Hid (decide (m = n) = false) := hid (decide_eq_false (fun e => h5 (by rw [e])))
            clear h5
            go_wp2_with fail
            go_ret
            exact ⟨by rw [HDN.out]; rfl, HBW.out⟩
          have e7 : (m.commit != n.commit) = false := by simp [h5]
          have E5 := hid h5
          clear h5
          by_cases h6 : m.client = n.client
          case neg =>
            have e8 : (m.client != n.client) = true := by simp [h6]
            have HDN : Hid (decide (m = n) = false) := hid (decide_eq_false (fun e => h6 (by rw [e])))
            clear h6
            go_wp2_with fail
            go_ret
            exact ⟨by rw [HDN.out]; rfl, HBW.out⟩
          have e8 : (m.client != n.client) = false := by simp [h6]
          have E6 := hid h6
          clear h6
          by_cases h7 : m.session = n.session
          case neg =>
            have e9 : (m.session != n.session) = true := by simp [h7]
            have HDN : Hid (decide (m = n) = false) := hid (decide_eq_false (fun e => h7 (by rw [e])))
            clear h7
            go_wp2_with fail
            go_ret
            exact ⟨by rw [HDN.out]; rfl, HBW.out⟩
          have e9 : (m.session != n.session) = false := by simp [h7]
          have E7 := hid h7
          clear h7
          by_cases h8 : m.request = n.request
          case neg =>
            have e10 : (m.request != n.request) = true := by simp [h8]
            have HDN : Hid (decide (m = n) = false) := hid (decide_eq_false (fun e => h8 (by rw [e])))
            clear h8
            go_wp2_with fail
            go_ret
            exact ⟨by rw [HDN.out]; rfl, HBW.out⟩
          have e10 : (m.request != n.request) = false := by simp [h8]
          have E8 := hid h8
          clear h8
          by_cases h9 : m.oper = n.oper
          case neg =>
            have e11 : (m.oper != n.oper) = true := by simp [h9]
            have HDN : Hid (decide (m = n) = false) := hid (decide_eq_false (fun e => h9 (by rw [e])))
            clear h9
            go_wp2_with fail
            go_ret
            exact ⟨by rw [HDN.out]; rfl, HBW.out⟩
          have e11 : (m.oper != n.oper) = false := by simp [h9]
          have E9 := hid h9
          clear h9
          by_cases h10 : m.index = n.index
          case neg =>
            have e12 : (m.index != n.index) = true := by simp [h10]
            have HDN : Hid (decide (m = n) = false) := hid (decide_eq_false (fun e => h10 (by rw [e])))
            clear h10
            go_wp2_with fail
            go_ret
            exact ⟨by rw [HDN.out]; rfl, HBW.out⟩
          have e12 : (m.index != n.index) = false := by simp [h10]
          have E10 := hid h10
          clear h10
          by_cases h11 : m.size = n.size
          case neg =>
            have e13 : (m.size != n.size) = true := by simp [h11]
            have HDN : Hid (decide (m = n) = false) := hid (decide_eq_false (fun e => h11 (by rw [e])))
            clear h11
            go_wp2_with fail
            go_ret
            exact ⟨by rw [HDN.out]; rfl, HBW.out⟩
          have e13 : (m.size != n.size) = false := by simp [h11]
          have E11 := hid h11
          clear h11
          obtain ⟨c0, hc0⟩ : ∃ c, decide (m.check = n.check) = c := ⟨_, rfl⟩
          have HC0 := hid hc0
          clear hc0
          obtain ⟨c1, hc1⟩ : ∃ c, decide (m.sums = n.sums) = c := ⟨_, rfl⟩
          have HC1 := hid hc1
          clear hc1
          obtain ⟨c2, hc2⟩ : ∃ c, decide (m.entry = n.entry) = c := ⟨_, rfl⟩
          have HC2 : Hid (c2 = true ↔ m.entry = n.entry) := hid (by rw [← hc2]; simp)
          clear hc2
          have HC3 := hid (HBE.out m.body n.body)
          cases c0
          case false =>
            have HDN : Hid (decide (m = n) = false) := hid (decide_eq_false (fun e => of_decide_eq_false HC0.out (by rw [e])))
            go_wp2_with (first
              | ((with_reducible show wpList _ _ _ ({ dst := some 120, op := _, type := _, pos := _, after := _, guard := _ } :: _) _ _); refine wpl_load_midw rfl 25 (.tmp 119) rfl (w.heap.size) 12 rfl (Array.toList m.check.cells) _ (ms_check P1.out) Tryz.underlying25 rfl (by exact HZM.out) ?_)
              | ((with_reducible show wpList _ _ _ ({ dst := some 122, op := _, type := _, pos := _, after := _, guard := _ } :: _) _ _); refine wpl_load_midw rfl 25 (.tmp 121) rfl (w.heap.size + 1) 12 rfl (Array.toList n.check.cells) _ (ms_check P2.out) Tryz.underlying25 rfl (by exact HZM.out) ?_)
              | ((with_reducible show wpList _ _ _ ({ dst := some 123, op := _, type := _, pos := _, after := _, guard := _ } :: _) _ _); refine wpl_eqm rfl m.check n.check _ (.tmp 120) (.tmp 122) _ rfl rfl rfl HC0 ?_))
            go_ret
            exact ⟨by rw [HDN.out]; rfl, HBW.out⟩
          cases c1
          case false =>
            have HDN : Hid (decide (m = n) = false) := hid (decide_eq_false (fun e => of_decide_eq_false HC1.out (by rw [e])))
            go_wp2_with (first
              | ((with_reducible show wpList _ _ _ ({ dst := some 120, op := _, type := _, pos := _, after := _, guard := _ } :: _) _ _); refine wpl_load_midw rfl 25 (.tmp 119) rfl (w.heap.size) 12 rfl (Array.toList m.check.cells) _ (ms_check P1.out) Tryz.underlying25 rfl (by exact HZM.out) ?_)
              | ((with_reducible show wpList _ _ _ ({ dst := some 122, op := _, type := _, pos := _, after := _, guard := _ } :: _) _ _); refine wpl_load_midw rfl 25 (.tmp 121) rfl (w.heap.size + 1) 12 rfl (Array.toList n.check.cells) _ (ms_check P2.out) Tryz.underlying25 rfl (by exact HZM.out) ?_)
              | ((with_reducible show wpList _ _ _ ({ dst := some 123, op := _, type := _, pos := _, after := _, guard := _ } :: _) _ _); refine wpl_eqm rfl m.check n.check _ (.tmp 120) (.tmp 122) _ rfl rfl rfl HC0 ?_)
              | ((with_reducible show wpList _ _ _ ({ dst := some 126, op := _, type := _, pos := _, after := _, guard := _ } :: _) _ _); refine wpl_load_midw rfl 26 (.tmp 125) rfl (w.heap.size) 15 rfl (Array.toList (sixV m.sums)) _ (ms_sums P1.out) Tryz.underlying26 rfl (by exact HZ6.out) ?_)
              | ((with_reducible show wpList _ _ _ ({ dst := some 128, op := _, type := _, pos := _, after := _, guard := _ } :: _) _ _); refine wpl_load_midw rfl 26 (.tmp 127) rfl (w.heap.size + 1) 15 rfl (Array.toList (sixV n.sums)) _ (ms_sums P2.out) Tryz.underlying26 rfl (by exact HZ6.out) ?_)
              | ((with_reducible show wpList _ _ _ ({ dst := some 129, op := _, type := _, pos := _, after := _, guard := _ } :: _) _ _); refine wpl_eq6 rfl m.sums n.sums _ (.tmp 126) (.tmp 128) _ rfl rfl rfl HS6 HT6 HC1 ?_))
            go_ret
            exact ⟨by rw [HDN.out]; rfl, HBW.out⟩
          cases c2
          case false =>
            have HDN : Hid (decide (m = n) = false) := hid (decide_eq_false (fun e => by have := HC2.out.2 (by rw [e]); cases this))
            go_wp2_with (first
              | ((with_reducible show wpList _ _ _ ({ dst := some 120, op := _, type := _, pos := _, after := _, guard := _ } :: _) _ _); refine wpl_load_midw rfl 25 (.tmp 119) rfl (w.heap.size) 12 rfl (Array.toList m.check.cells) _ (ms_check P1.out) Tryz.underlying25 rfl (by exact HZM.out) ?_)
              | ((with_reducible show wpList _ _ _ ({ dst := some 122, op := _, type := _, pos := _, after := _, guard := _ } :: _) _ _); refine wpl_load_midw rfl 25 (.tmp 121) rfl (w.heap.size + 1) 12 rfl (Array.toList n.check.cells) _ (ms_check P2.out) Tryz.underlying25 rfl (by exact HZM.out) ?_)
              | ((with_reducible show wpList _ _ _ ({ dst := some 123, op := _, type := _, pos := _, after := _, guard := _ } :: _) _ _); refine wpl_eqm rfl m.check n.check _ (.tmp 120) (.tmp 122) _ rfl rfl rfl HC0 ?_)
              | ((with_reducible show wpList _ _ _ ({ dst := some 126, op := _, type := _, pos := _, after := _, guard := _ } :: _) _ _); refine wpl_load_midw rfl 26 (.tmp 125) rfl (w.heap.size) 15 rfl (Array.toList (sixV m.sums)) _ (ms_sums P1.out) Tryz.underlying26 rfl (by exact HZ6.out) ?_)
              | ((with_reducible show wpList _ _ _ ({ dst := some 128, op := _, type := _, pos := _, after := _, guard := _ } :: _) _ _); refine wpl_load_midw rfl 26 (.tmp 127) rfl (w.heap.size + 1) 15 rfl (Array.toList (sixV n.sums)) _ (ms_sums P2.out) Tryz.underlying26 rfl (by exact HZ6.out) ?_)
              | ((with_reducible show wpList _ _ _ ({ dst := some 129, op := _, type := _, pos := _, after := _, guard := _ } :: _) _ _); refine wpl_eq6 rfl m.sums n.sums _ (.tmp 126) (.tmp 128) _ rfl rfl rfl HS6 HT6 HC1 ?_)
              | ((with_reducible show wpList _ _ _ ({ dst := some 133, op := _, type := _, pos := _, after := _, guard := _ } :: _) _ _); refine wpl_load_midw rfl 28 (.tmp 132) rfl (w.heap.size) 21 rfl (Array.toList m.entry.cells) _ (ms_entry P1.out) Tryz.underlying28 rfl (by exact HZE.out) ?_)
              | ((with_reducible show wpList _ _ _ ({ dst := some 135, op := _, type := _, pos := _, after := _, guard := _ } :: _) _ _); refine wpl_load_midw rfl 28 (.tmp 134) rfl (w.heap.size + 1) 21 rfl (Array.toList n.entry.cells) _ (ms_entry P2.out) Tryz.underlying28 rfl (by exact HZE.out) ?_)
              | ((with_reducible show wpList _ _ _ ({ dst := some 136, op := _, type := _, pos := _, after := _, guard := _ } :: _) _ _); refine wpl_eqe2 rfl m.entry n.entry _ (.tmp 133) (.tmp 135) _ rfl rfl rfl HC2 ?_))
            go_ret
            exact ⟨by rw [HDN.out]; rfl, HBW.out⟩
          have HDN : Hid (decide (m = n) = (m.body.toList == n.body.toList)) := hid (by
            rw [HC3.out, Bool.eq_iff_iff, decide_eq_true_iff, decide_eq_true_iff, HEX.out]
            exact ⟨fun h => h.2.2.2.2.2.2.2, fun h => ⟨⟨E0.out, E1.out, E2.out, E3.out, E4.out, E5.out⟩, ⟨E6.out, E7.out, E8.out, E9.out, E10.out, E11.out⟩, of_decide_eq_true HC0.out, of_decide_eq_true HC1.out, HC2.out.1 rfl, HES.out, HXS.out, h⟩⟩)
          go_wp2_with (first
            | ((with_reducible show wpList _ _ _ ({ dst := some 120, op := _, type := _, pos := _, after := _, guard := _ } :: _) _ _); refine wpl_load_midw rfl 25 (.tmp 119) rfl (w.heap.size) 12 rfl (Array.toList m.check.cells) _ (ms_check P1.out) Tryz.underlying25 rfl (by exact HZM.out) ?_)
            | ((with_reducible show wpList _ _ _ ({ dst := some 122, op := _, type := _, pos := _, after := _, guard := _ } :: _) _ _); refine wpl_load_midw rfl 25 (.tmp 121) rfl (w.heap.size + 1) 12 rfl (Array.toList n.check.cells) _ (ms_check P2.out) Tryz.underlying25 rfl (by exact HZM.out) ?_)
            | ((with_reducible show wpList _ _ _ ({ dst := some 123, op := _, type := _, pos := _, after := _, guard := _ } :: _) _ _); refine wpl_eqm rfl m.check n.check _ (.tmp 120) (.tmp 122) _ rfl rfl rfl HC0 ?_)
            | ((with_reducible show wpList _ _ _ ({ dst := some 126, op := _, type := _, pos := _, after := _, guard := _ } :: _) _ _); refine wpl_load_midw rfl 26 (.tmp 125) rfl (w.heap.size) 15 rfl (Array.toList (sixV m.sums)) _ (ms_sums P1.out) Tryz.underlying26 rfl (by exact HZ6.out) ?_)
            | ((with_reducible show wpList _ _ _ ({ dst := some 128, op := _, type := _, pos := _, after := _, guard := _ } :: _) _ _); refine wpl_load_midw rfl 26 (.tmp 127) rfl (w.heap.size + 1) 15 rfl (Array.toList (sixV n.sums)) _ (ms_sums P2.out) Tryz.underlying26 rfl (by exact HZ6.out) ?_)
            | ((with_reducible show wpList _ _ _ ({ dst := some 129, op := _, type := _, pos := _, after := _, guard := _ } :: _) _ _); refine wpl_eq6 rfl m.sums n.sums _ (.tmp 126) (.tmp 128) _ rfl rfl rfl HS6 HT6 HC1 ?_)
            | ((with_reducible show wpList _ _ _ ({ dst := some 133, op := _, type := _, pos := _, after := _, guard := _ } :: _) _ _); refine wpl_load_midw rfl 28 (.tmp 132) rfl (w.heap.size) 21 rfl (Array.toList m.entry.cells) _ (ms_entry P1.out) Tryz.underlying28 rfl (by exact HZE.out) ?_)
            | ((with_reducible show wpList _ _ _ ({ dst := some 135, op := _, type := _, pos := _, after := _, guard := _ } :: _) _ _); refine wpl_load_midw rfl 28 (.tmp 134) rfl (w.heap.size + 1) 21 rfl (Array.toList n.entry.cells) _ (ms_entry P2.out) Tryz.underlying28 rfl (by exact HZE.out) ?_)
            | ((with_reducible show wpList _ _ _ ({ dst := some 136, op := _, type := _, pos := _, after := _, guard := _ } :: _) _ _); refine wpl_eqe2 rfl m.entry n.entry _ (.tmp 133) (.tmp 135) _ rfl rfl rfl HC2 ?_))
          go_ret
          exact ⟨by rw [HDN.out]; rfl, HBW.out⟩
    · rw [show decide (m.es = n.es) = false from decide_eq_false hes] at HSE
      rw [show decide (m = n) = false from decide_eq_false (fun e => hes (by rw [e]))]
      clear hes
      go_enter Tryz.func7, Tryz.ntmps7
      go_wp2_with (go_at_call 18; refine (HSE.out _ HB0.out).mono ?_; rintro e w1 ⟨rfl, hb1⟩)
      go_ret
      exact ⟨rfl, HB0.out.trans (hb1.mono HB0.out.size)⟩
  · have e1 : ((m.xs.length : Int) != (n.xs.length : Int)) = true := by simp; omega
    rw [show decide (m = n) = false from decide_eq_false (fun e => hlx (by rw [e]))]
    clear hlx
    go_enter Tryz.func7, Tryz.ntmps7
    go_wp2_with fail
    go_ret
    exact ⟨rfl, HB0.out⟩
end Go.Proofs.YtcildaeiogdfdaaGreatDoor
