/-
  The walk of the law JournalScrubs.
-/
import Derived.Test.YtafbeepacncooaaDoorM28
namespace Go.Proofs.YtafbeepacncooaaDoor
open Go.RowKit
set_option maxRecDepth 10000

theorem yields_nei {ops : Array Oper} {S : World → Prop} {o : Oper} {a : Act} (hw : Region.wanted o (yielded ops a.tmps) = true) (s t : It) (b : Bool) (hb : Hid ((b = true ∧ s = t) ∨ (b = false ∧ s.kind ≠ t.kind))) (x y : Operand) (ty : TypeId) (ho : o.op = .binOp .neq 44 x y ty)
    (hx : a.eval x = .agg s.cells) (hy : a.eval y = .agg t.cells) : YieldsIf Tryd.prog ops S o (.bool (!b)) a :=
  .inl ⟨hw, fun w _ => by
    have hEG := egIt
    have hE := eqIt 9996 s t w b hb.out
    generalize s.cells = Z at *
    generalize t.cells = Y at *
    unfold execOp
    simp [ho, hx, hy, eqGuard, hEG, binOp, Op.equal, Op.maxDepth, hE, Result.andThen]⟩
theorem rg_below {w w' : World} {g k : Nat} {cs : List Value} (h : w.rangeAt g k cs) (hb : Below w.heap.size w w') : w'.rangeAt g k cs := fun j v hv => (World.cell?_of_block (w := w) (a := ⟨g, k + j, none⟩) (hb.block g (World.block_lt_of_cell? w _ (h j v hv)))).trans (h j v hv)
theorem ActOk.below {x : ActJ} {w w' : World} {A : Option Addr} {l : Nat} (h : ActOk x w A l) (hb : Below w.heap.size w w') : ActOk x w' A l :=
  ⟨h.e, h.n, h.l, fun hne => by
    obtain ⟨g, o, e, hg, hc⟩ := h.rd hne
    exact ⟨g, o, e, Nat.lt_of_lt_of_le hg hb.size, fun j u hu => (World.cell?_of_block (w := w) (a := ⟨g, o + j, none⟩) (hb.block g hg)).trans (hc j u hu)⟩, h.p, h.pn⟩
theorem openJ1_wf {S : Sp} {J : Jn} (h : JWf J) (k : Nat) : JWf (openJ1 S J k).2.1 := by
  unfold openJ1
  split
  · exact h
  · exact jset_wf h (slotN_in J.c k) (judge_wf _ _ _)
theorem jwf_zero {c : Int} (h0 : 0 ≤ c) (h1 : c ≤ 72057594037927927) : JWf ⟨c, List.replicate 8 it0⟩ := ⟨by simp, h0, h1, fun n hn => .inl (by
  unfold Jn.item
  rw [if_pos hn]
  show (List.replicate 8 it0).getD _ it0 = it0
  rw [List.getD_eq_getElem?_getD, List.getElem?_replicate]
  split <;> rfl)⟩
theorem openK_jwf {S : Sp} {c : Int} (h0 : 0 ≤ c) (h1 : c ≤ 72057594037927927) (k : Nat) (hk : k ≤ 8) (he : (openK S c k).2.2 = 0) : JWf ⟨c, (openK S c k).2.1⟩ := by
  induction k with
  | zero => exact jwf_zero h0 h1
  | succ k ih =>
    by_cases hp : (openK S c k).2.2 = 0
    · have hi := ih (by omega) hp
      obtain ⟨_, e2, e3⟩ := open_next (S := S) (c := c) (k := k) (by omega) hp
      have e4 := e3 (by rw [← e2]; exact he)
      have hj := openJ1_wf (S := (openK S c k).1) hi k
      rw [← e4] at hj
      exact hj
    · rw [open_stop hp 1] at he
      exact absurd he hp
theorem acts_range {w0 w : World} {A : Option Addr} {XS : List Ac} (h : Rd w0 w0.heap.size A (XS.map Ac.cells).flatten) (hb : Below w0.heap.size w0 w) {k : Nat} (hk : k < XS.length) : ∃ g o, A = some ⟨g, o, none⟩ ∧ w.rangeAt g (o + k * 15) XS[k].cells := by
  have hR : ∀ r ∈ XS.map Ac.cells, r.length = 15 := by
    intro r hr
    obtain ⟨X, _, rfl⟩ := List.mem_map.1 hr
    exact Ac.len X
  have hget : ∀ j, j < 15 → (XS.map Ac.cells).flatten[k * 15 + j]? = XS[k].cells[j]? := fun j hj => by
    rw [flat_get 15 _ k j hR hj, List.getElem?_map, List.getElem?_eq_getElem hk]
    rfl
  obtain ⟨g, o, e, hg, hc⟩ := h (by
    intro e
    have hlen := flat_length 15 (XS.map Ac.cells) hR
    rw [e, List.length_map] at hlen
    simp only [List.length_nil] at hlen
    omega)
  refine ⟨g, o, e, fun j v hv => ?_⟩
  have hj : j < 15 := by
    have := (List.getElem?_eq_some_iff.1 hv).1
    rw [Ac.len] at this
    exact this
  rw [← hget j hj] at hv
  have h1 := hc _ v hv
  rw [Nat.add_assoc]
  exact (World.cell?_of_block (w := w0) (a := ⟨g, o + (k * 15 + j), none⟩) (hb.block g hg)).trans h1
theorem dd_steps {w0 w : World} {p gs : Nat} {S : Sp} {G : List Nat} (h : Dd w0 w p gs S G) : Calls Tryd.prog 17 #[.pointer (some ⟨p, 0, none⟩)] w fun e w' => e = .returned (.int .i64 (S.count : Int)) ∧ w = w' := by
  obtain ⟨vd, h1, _⟩ := h
  exact steps_any p gs vd S w h1
/-- another journal on the same disk -/
theorem Jd.both {w0 w w' : World} {jp jq p gs : Nat} {S S' : Sp} {J J' : Jn} {G : List Nat} (h : Jd w0 w jp p gs S J G) (k : Jd w0 w' jq p gs S' J' (jp :: G)) (hk : Ek w w' (jp :: G)) : Jd w0 w' jp p gs S' J (jq :: G) := by
  refine ⟨k.1.sub ?_, hk.row h.2.1 (by simp), h.2.2.1, ?_⟩
  · intro x hx
    simp only [List.mem_cons] at hx ⊢
    rcases hx with h | h | h
    · exact .inr (.inl h)
    · exact .inl h
    · exact .inr (.inr h)
  · simp only [List.mem_cons, not_or]
    have h1 := k.2.2.2
    simp only [List.mem_cons, not_or] at h1
    exact ⟨fun e => h1.1 e.symm, h.2.2.2⟩
set_option maxHeartbeats 8000000 in
theorem scrubs_law13 (A : Option Addr) (l cap : Nat) (XS : List Ac) (w : World) (hl : l = XS.length) (hl2 : l ≤ 9223372036854775807) (hXS : ∀ X ∈ XS, ActOk X.x w X.A X.x.picks.length) (hrd : Rd w w.heap.size A (XS.map Ac.cells).flatten) (hf : Fd w) :
    Calls Tryd.prog 5 #[.slice A l cap] w (Yes w) := by
  subst hl
  obtain ⟨SF, S0, X0, e1, e2, c1, z0, c0, i1, _, _⟩ := begin13
  have HA := hid (fun W (hW : Fd W) => awake13_any W hW)
  have HB : Hid (∀ W, Fd W → Calls Tryd.prog 8 #[] W fun e w' => ∃ bw p gs, e = .returned (.pointer (some ⟨bw, 0, none⟩)) ∧ Wj W w' bw p gs ⟨S0, some ⟨0, X0⟩, 0⟩ []) := hid fun W hW => begin13_any e1 e2 c1 W hW
  have HI1 := hid i1
  have HC0 := hid c0
  have HXS := hid hXS
  have HRD := hid hrd
  have HL2 := hid hl2
  have HF := hid hf
  clear e1 e2 c1 z0 c0 i1 hXS hrd hf hl2
  go_enter Tryd.func5, Tryd.ntmps5
  go_wp2_with (first
    | (go_at_call 7; refine (HA.out _ HF.out).mono ?_; rintro e w1 ⟨rfl, hb⟩; have B1 := hid hb; clear hb)
    | (go_at_call 8; refine (HB.out _ (HF.out.below B1.out HF.out.1)).mono ?_; rintro e w2 ⟨bw, p, gs, rfl, q⟩; have H2 := hid q; clear q))
  have HXS1 : Hid (∀ X ∈ XS, ActOk X.x w1 X.A X.x.picks.length) := hid fun X hX => (HXS.out X hX).below B1.out
  have HRD1 : Hid (∀ W, Below w1.heap.size w1 W → ∀ k (hk : k < XS.length), ∃ g o, A = some ⟨g, o, none⟩ ∧ W.rangeAt g (o + k * 15) XS[k].cells) := hid fun W hb k hk => acts_range HRD.out (B1.out.trans (hb.mono B1.out.size)) hk
  clear HXS HRD
  go_loopw [4] (fun i wr => ∃ (k : Nat) (v : Wd), k ≤ XS.length ∧ k ≤ 50 ∧ i = .int .i64 k ∧ Hid (InvW HereF GoneF v) ∧ v.S.count ≤ 17 + 32 * k ∧ Wj w1 wr bw p gs v []) (fun i _ => 50 - (intOf i).toNat)
  case atStart => exact ⟨0, _, by omega, by omega, rfl, HI1, by have := HC0.out; show S0.count ≤ _; omega, H2.out⟩
  case round =>
    obtain ⟨k, v, hk, hk5, rfl, hi, hc, hj⟩ := hrel
    have HJ := hid hj
    have hl3 := HL2.out
    by_cases hlt : k < XS.length
    · by_cases hlt5 : k < 50
      · have hb : (k : Int) < (XS.length : Int) := by omega
        have hb5 : (k : Int) < 50 := by omega
        have hok := HXS1.out _ (List.getElem_mem hlt)
        obtain ⟨g, o, rfl, hrg⟩ := HRD1.out wr hj.below k hlt
        have HRG := hid hrg
        have HFA : Hid (∀ W, Calls Tryd.prog 9 #[.agg (actC XS[k].x XS[k].A XS[k].x.picks.length XS[k].cap)] W fun e w' => e = .returned (.bool (decide (1000 < (XS[k].x.e.body.size : Int)))) ∧ Below W.heap.size W w') := hid fun W => far_any _ _ _ _ W
        have hst := step_f XS[k].x v.c hok.e
        have hnx := does_inv hst hi.out
        have hcn := doesJ_count (v := v) (fun J hJ => by
          obtain ⟨S, j, c⟩ := v
          have hJ : j = some J := hJ
          subst hJ
          exact hst.wf hi.out.2) XS[k].x
        have HDO : Hid (∀ W, Wj w1 W bw p gs v [] → Calls Tryd.prog 11 #[.pointer (some ⟨bw, 0, none⟩), .agg (actC XS[k].x XS[k].A XS[k].x.picks.length XS[k].cap)] W (WC w1 W bw p gs (doesJ v XS[k].x).1 [] (doesJ v XS[k].x).2)) := hid fun W hW => does_any13 hW hst hi.out _ hok (by omega)
        have HNX := hid hnx
        have HCN := hid hcn
        have HCC := hid hc
        have HIV := hid hi.out
        clear hi hc hj hok hrg hst hnx hcn HXS1 HRD1 hk hk5
        obtain ⟨C, hC⟩ : ∃ C, C = actC XS[k].x XS[k].A XS[k].x.picks.length XS[k].cap := ⟨_, rfl⟩
        have HRG2 : Hid (wr.rangeAt g (o + k * 15) C.toList) := hid (by rw [hC]; exact HRG.out)
        have HCS : Hid (C.size = 15) := hid (by rw [hC]; rfl)
        rw [← hC] at HFA HDO
        clear hC HRG
        generalize XS[k].x = x at *
        by_cases hfar : 1000 < (x.e.body.size : Int)
        · rw [decide_eq_true hfar] at HFA
          clear hfar HDO HNX HCN
          go_wp2_with (first
            | (refine wpl_load_midw rfl 32 (.tmp 26) rfl g (o + k * 15) rfl C.toList _ HRG2.out Tryd.underlying32 rfl (by rw [Array.length_toList, HCS.out]; exact actSize) ?_)
            | (go_at_call 9; refine (HFA.out _).mono ?_; rintro e w3 ⟨rfl, hb3⟩; have H3 := hid (HJ.out.new hb3).1; clear hb3))
          go_roundw
          case rel => exact ⟨k + 1, v, by omega, by omega, by go_num, HIV, by have := HCC.out; omega, H3.out⟩
          case measure => simp [intOf]; omega
        · rw [decide_eq_false hfar] at HFA
          clear hfar
          go_wp2_with (first
            | ((with_reducible show wpList _ _ _ ({ dst := some 27, op := _, type := _, pos := _, after := _, guard := _ } :: _) _ _); refine wpl_load_midw rfl 32 (.tmp 26) rfl g (o + k * 15) rfl C.toList _ HRG2.out Tryd.underlying32 rfl (by rw [Array.length_toList, HCS.out]; exact actSize) ?_)
            | (go_at_call 9; refine (HFA.out _).mono ?_; rintro e w3 ⟨rfl, hb3⟩; have H3 := hid (HJ.out.new hb3).1; have HRG3 : Hid (w3.rangeAt g (o + k * 15) C.toList) := hid (rg_below HRG2.out hb3); clear hb3)
            | ((with_reducible show wpList _ _ _ ({ dst := some 34, op := _, type := _, pos := _, after := _, guard := _ } :: _) _ _); refine wpl_load_midw rfl 32 (.tmp 33) rfl g (o + k * 15) rfl C.toList _ HRG3.out Tryd.underlying32 rfl (by rw [Array.length_toList, HCS.out]; exact actSize) ?_)
            | (go_at_call 11; refine (HDO.out _ H3.out).mono ?_; rintro e w4 ⟨rfl, q, _⟩; have H4 := hid q; clear q))
          go_roundw
          case rel => exact ⟨k + 1, _, by omega, by omega, by go_num, HNX, by have := HCC.out; have := HCN.out; omega, H4.out⟩
          case measure => simp [intOf]; omega
      · have hb : (k : Int) < (XS.length : Int) := by omega
        have hb5 : ¬ (k : Int) < 50 := by omega
        clear HXS1 HRD1
        obtain ⟨S, j, c⟩ := v
        cases j with
        | none =>
          obtain ⟨hbw, hbG, hD, hrow⟩ := hj
          have cb1 : wr.cell? ⟨bw, 1, none⟩ = some (.pointer none) := hrow.at_ 1 _ rfl
          have HD := hid hD
          clear hi hc hrow HJ hD
          go_wp2_with fail
          go_ret
          exact ⟨rfl, B1.out.trans (HD.out.below.mono B1.out.size)⟩
        | some J =>
          obtain ⟨hbw, hbG, jp, hJd, hrow⟩ := hj
          obtain ⟨hcj, hh⟩ := hi.out
          have hcj : c = J.c := hcj
          have hh : HereF S J := hh
          have hc : S.count ≤ 17 + 32 * k := hc
          subst hcj
          obtain ⟨S1, ef, h1, z1⟩ := f_fuse hh 0
          have hcf := fuse_count S 0
          rw [ef] at hcf
          have hcf : S1.count = S.count := hcf
          obtain ⟨S2, J2, X2, es, ec, w2f, eo, hit⟩ := scrub_open h1 (by rw [z1]; rfl)
          have hcs := scrubK_count S1 J h1.wf.len 8 (Nat.le_refl _)
          rw [es] at hcs
          have hcs : S2.count ≤ S1.count + 4 * 8 := hcs
          have w3f : JWf ⟨J2.c, X2⟩ := by
            have := openK_jwf (S := S2) w2f.c0 w2f.c1 8 (Nat.le_refl _) (by rw [eo])
            rw [eo] at this
            exact this
          have eoj : openJ S2 J2.c = (S2, some ⟨J2.c, X2⟩, 0) := by
            unfold openJ
            rw [if_neg (by have := w2f.c0; have := w2f.c1; omega), eo]
            rfl
          have HFU : Hid (∀ W (Y : List Nat), Jd w1 W jp p gs S J Y → Calls Tryd.prog 15 #[.pointer (some ⟨p, 0, none⟩), .int .i64 0] W (JC w1 W jp p gs S1 J Y (.int .i64 0))) := hid fun W Y hW => hW.callD fun hD => dd_fuse hD 0 (by decide) ef
          have HSC : Hid (∀ W (Y : List Nat), Jd w1 W jp p gs S1 J Y → Calls Tryd.prog 16 #[.pointer (some ⟨jp, 0, none⟩)] W (JC w1 W jp p gs S2 J2 Y (.int .i64 0))) := hid fun W Y hW => by
            have := scrubAll hW h1.wf (by omega)
            rw [es] at this
            exact this
          have HSP : Hid (∀ W (Y : List Nat), Dd w1 W p gs S2 Y → Calls Tryd.prog 17 #[.pointer (some ⟨p, 0, none⟩)] W fun e w' => e = .returned (.int .i64 (S2.count : Int)) ∧ W = w') := hid fun W Y hW => dd_steps hW
          have HOP : Hid (∀ W (Y : List Nat), Dd w1 W p gs S2 Y → Calls Tryd.prog 18 #[.pointer (some ⟨p, 0, none⟩), .int .i64 J.c] W (OR w1 W p gs Y (S2, some ⟨J2.c, X2⟩, 0))) := hid fun W Y hW => by
            have := openj_any hW J.c (by omega)
            rw [← ec, eoj] at this
            rw [← ec]
            exact this
          have HI2 : Hid (∀ W (Y : List Nat), Jd w1 W jp p gs S2 J2 Y → ∀ n, Calls Tryd.prog 12 #[.pointer (some ⟨jp, 0, none⟩), .int .i64 n] W (VE W (.agg (J2.item n).cells))) := hid fun W Y hW n => item_any13 hW w2f n
          have HI3 : Hid (∀ W jq (Y : List Nat), Jd w1 W jq p gs S2 ⟨J2.c, X2⟩ Y → ∀ n, Calls Tryd.prog 12 #[.pointer (some ⟨jq, 0, none⟩), .int .i64 n] W (VE W (.agg ((⟨J2.c, X2⟩ : Jn).item n).cells))) := hid fun W jq Y hW n => item_any13 hW w3f n
          have HIT : Hid (∀ n, J.c < n → n ≤ J.c + 8 → (J2.item n).kind ≠ 3 → (⟨J2.c, X2⟩ : Jn).item n = J2.item n) := hid fun n n1 n2 => hit n ⟨by rw [ec]; exact n1, by rw [ec]; exact n2⟩
          have HCB := hid (And.intro h1.wf.c0 h1.wf.c1)
          have HJ0 := hid hJd
          have HR0 := hid hrow
          have cb0 : wr.cell? ⟨bw, 0, none⟩ = some (.pointer (some ⟨p, 0, none⟩)) := hrow.at_ 0 _ rfl
          have cb1 : wr.cell? ⟨bw, 1, none⟩ = some (.pointer (some ⟨jp, 0, none⟩)) := hrow.at_ 1 _ rfl
          generalize (⟨J2.c, X2⟩ : Jn) = J3 at *
          clear hi hc hrow HJ hJd hh ef h1 z1 hcf es ec w2f eo hit hcs w3f eoj
          go_wp2_with (first
            | (go_at_call 15; refine (HFU.out _ _ HJ0.out).mono ?_; rintro e w3 ⟨rfl, q, k3⟩; have H3 := hid q; have R3 := hid (k3.row HR0.out (by simp)); have cb1 : w3.cell? ⟨bw, 1, none⟩ = some (.pointer (some ⟨jp, 0, none⟩)) := R3.out.at_ 1 _ rfl; clear q k3)
            | (go_at_call 16; refine (HSC.out _ _ H3.out).mono ?_; rintro e w4 ⟨rfl, q, k4⟩; have H4 := hid q; have R4 := hid (k4.row R3.out (by simp)); have cb0 : w4.cell? ⟨bw, 0, none⟩ = some (.pointer (some ⟨p, 0, none⟩)) := R4.out.at_ 0 _ rfl; clear q k4)
            | (go_at_call 17; refine (HSP.out _ _ H4.out.1).mono ?_; rintro e w5 ⟨rfl, hw5⟩; subst hw5))
          try simp only [Act.put, la1, la2, la3, la4, la5, la6]
          refine wp_region_held_drew (S := fun W => (∃ jq J, Jd w1 W jq p gs S2 J [bw]) ∧ Ek w4 W [jp, bw]) (by kernel_rfl) (⟨⟨_, _, H4.out.drew⟩, fun _ _ => rfl⟩) (fun hH => ?_)
          refine tk_ (i := 0) (v := .pointer (some ⟨bw, 0, none⟩)) rfl (Or.inl ⟨by kernel_rfl, fun w' _ => by kernel_rfl⟩) hH ?_
          simp only [Act.put, la1, la3, la4, la5, la6]
          refine tk_ (i := 1) (v := .pointer (some ⟨bw, 0, none⟩)) rfl (Or.inl ⟨by rfl, fun w' hw' => by clear hw'; go_simp⟩) hH ?_
          simp only [Act.put, la1, la2, la3, la4, la5, la6]
          refine tk_ (i := 2) (v := .pointer (some ⟨bw, 0, none⟩)) rfl (Or.inl ⟨by rfl, fun w' hw' => by clear hw'; go_simp⟩) hH ?_
          simp only [Act.put, la1, la2, la3, la4, la5, la6]
          refine tk_ (i := 3) (v := .pointer (some ⟨p, 0, none⟩)) rfl (Or.inl ⟨by rfl, fun w' hw' => by have h := (hw'.2.row R4.out (by simp)).at_ 0 (.pointer (some ⟨p, 0, none⟩)) rfl; go_simp⟩) hH ?_
          simp only [Act.put, la1, la2, la3, la4, la5, la6]
          refine tk_ (i := 4) (v := .pointer (some ⟨bw, 0, none⟩)) rfl (Or.inl ⟨by kernel_rfl, fun w' _ => by kernel_rfl⟩) hH ?_
          simp only [Act.put, la1, la2, la3, la4, la5, la6]
          refine tk_ (i := 5) (v := .pointer (some ⟨bw, 0, none⟩)) rfl (Or.inl ⟨by rfl, fun w' hw' => by clear hw'; go_simp⟩) hH ?_
          simp only [Act.put, la1, la2, la3, la4, la5, la6]
          refine tk_ (i := 6) (v := .pointer (some ⟨bw, 2, none⟩)) rfl (Or.inl ⟨by rfl, fun w' hw' => by clear hw'; go_simp⟩) hH ?_
          simp only [Act.put, la1, la2, la3, la4, la5, la6]
          refine tk_ (i := 7) (v := .int .i64 J.c) rfl (Or.inl ⟨by rfl, fun w' hw' => by have h := (hw'.2.row R4.out (by simp)).at_ 2 (.int .i64 J.c) rfl; go_simp⟩) hH ?_
          simp only [Act.put, la1, la2, la3, la4, la5, la6]
          refine wpAnyH_ready (rs := [8]) (by kernel_rfl) (by simp) ?_
          refine AllReadyH.cons rfl (fun K hK => ?_) AllReadyH.nil
          go_simp
          go_at_call 18
          refine (HOP.out _ _ H4.out.drew.1).mono ?_
          rintro e w6 ⟨jq, rfl, h6, k6, _⟩
          go_wp2_with fail
          refine hK.out _ _ (⟨⟨_, _, h6.sub (by simp)⟩, hH.2.trans k6⟩) (fun hH => ?_)
          clear hK K
          try simp only [Act.put, la1, la2, la3, la4, la5, la6]
          refine tk_ (i := 9) (v := .tuple #[.pointer (some ⟨jq, 0, none⟩), .int .i64 0]) rfl (Or.inl ⟨by kernel_rfl, fun w' _ => by kernel_rfl⟩) hH ?_
          simp only [Act.put, la1, la2, la3, la4, la5, la6]
          refine tk_ (i := 10) (v := .pointer (some ⟨jq, 0, none⟩)) rfl (Or.inl ⟨by kernel_rfl, fun w' _ => by kernel_rfl⟩) hH ?_
          simp only [Act.put, la1, la2, la3, la4, la5, la6]
          refine tk_ (i := 11) (v := .int .i64 0) rfl (Or.inl ⟨by kernel_rfl, fun w' _ => by kernel_rfl⟩) hH ?_
          simp only [Act.put, la1, la2, la3, la4, la5, la6]
          refine tk_ (i := 12) (v := .pointer (some ⟨jq, 0, none⟩)) rfl (Or.inl ⟨by kernel_rfl, fun w' _ => by kernel_rfl⟩) hH ?_
          simp only [Act.put, la1, la2, la3, la4, la5, la6]
          refine tk_ (i := 13) (v := .int .i64 0) rfl (Or.inl ⟨by kernel_rfl, fun w' _ => by kernel_rfl⟩) hH ?_
          simp only [Act.put, la1, la2, la3, la4, la5, la6]
          refine wpAnyH_done (by kernel_rfl) ?_ _
          try simp only [Act.put, la1, la2, la3, la4, la5, la6]
          have H6 := hid h6
          have R6 := hid (hH.2.row R4.out (by simp))
          have J6 := hid (Jd.both H4.out.drew h6 k6)
          clear hH h6 k6 cb0 cb1
          have cb0 : w6.cell? ⟨bw, 0, none⟩ = some (.pointer (some ⟨p, 0, none⟩)) := R6.out.at_ 0 _ rfl
          have cb2 : w6.cell? ⟨bw, 2, none⟩ = some (.int .i64 J.c) := R6.out.at_ 2 _ rfl
          obtain ⟨b1, b2⟩ := HCB.out
          have ec1 : IntKind.i64.wrap (J.c + 1) = J.c + 1 := w64 (by omega) (by omega)
          have ec8 : IntKind.i64.wrap (J.c + 8) = J.c + 8 := w64 (by omega) (by omega)
          go_wp2_with (go_at_call 17; refine (HSP.out _ _ H6.out.1).mono ?_; rintro e w7 ⟨rfl, hw7⟩; subst hw7)
          go_loopw [8] (fun i wr => ∃ m : Nat, m ≤ 8 ∧ i = .int .i64 (J.c + 1 + (m : Int)) ∧ Jd w1 wr jq p gs S2 J3 [jp, bw] ∧ Jd w1 wr jp p gs S2 J2 [jq, bw] ∧ Row wr bw 37 (wC p (some jp) J.c)) (fun i _ => (J.c + 9 - intOf i).toNat)
          case atStart => exact ⟨0, by omega, by simp, H6.out, J6.out, R6.out⟩
          case round =>
            obtain ⟨m, hm, rfl, hq, hp2, hr⟩ := hrel
            have HQ := hid hq
            have HP := hid hp2
            have HR := hid hr
            obtain ⟨b1, b2⟩ := HCB.out
            have cr2 : wr.cell? ⟨bw, 2, none⟩ = some (.int .i64 J.c) := hr.at_ 2 _ rfl
            obtain ⟨n, hn⟩ : ∃ n, n = J.c + 1 + (m : Int) := ⟨_, rfl⟩
            rw [← hn]
            by_cases hlt : m < 8
            · have hle : n ≤ J.c + 8 := by omega
              have en : IntKind.i64.wrap (n + 1) = n + 1 := w64 (by omega) (by omega)
              have h2 := HI2.out (Y := [jq, bw])
              have h3 := HI3.out (jq := jq) (Y := [jp, bw])
              have hne := HIT.out n (by omega) hle
              have HN := hid hn
              generalize hx2 : J2.item n = x2 at *
              have HIA : Hid (∀ W, Jd w1 W jp p gs S2 J2 [jq, bw] → Calls Tryd.prog 12 #[.pointer (some ⟨jp, 0, none⟩), .int .i64 n] W (VE W (.agg x2.cells))) := hid fun W hW => by
                have := h2 W hW n
                rw [hx2] at this
                exact this
              clear h2 hq hp2 hr hx2
              by_cases hk3 : x2.kind = 3
              · have HK3 := hid hk3
                clear h3 hne hk3 hn
                go_wp2_with fail
                try simp only [Act.put, la1, la2, la3, la4, la5, la6]
                refine wp_region_held_drew (S := fun W => Jd w1 W jq p gs S2 J3 [jp, bw] ∧ Jd w1 W jp p gs S2 J2 [jq, bw] ∧ Row W bw 37 (wC p (some jp) J.c)) (by kernel_rfl) (⟨HQ.out.drew, HP.out.drew, HR.out⟩) (fun hH => ?_)
                refine tk_ (i := 0) (v := .pointer (some ⟨bw, 0, none⟩)) rfl (Or.inl ⟨by kernel_rfl, fun w' _ => by kernel_rfl⟩) hH ?_
                simp only [Act.put, la1, la3, la4, la5, la6]
                refine tk_ (i := 1) (v := .pointer (some ⟨bw, 0, none⟩)) rfl (Or.inl ⟨by rfl, fun w' hw' => by clear hw'; go_simp⟩) hH ?_
                simp only [Act.put, la1, la2, la3, la4, la5, la6]
                refine tk_ (i := 2) (v := .pointer (some ⟨bw, 1, none⟩)) rfl (Or.inl ⟨by rfl, fun w' hw' => by clear hw'; go_simp⟩) hH ?_
                simp only [Act.put, la1, la2, la3, la4, la5, la6]
                refine tk_ (i := 3) (v := .pointer (some ⟨jp, 0, none⟩)) rfl (Or.inl ⟨by rfl, fun w' hw' => by have h := hw'.2.2.at_ 1 (.pointer (some ⟨jp, 0, none⟩)) rfl; go_simp⟩) hH ?_
                simp only [Act.put, la1, la2, la3, la4, la5, la6]
                refine tk_ (i := 4) (v := .int .i64 n) rfl (Or.inl ⟨by kernel_rfl, fun w' _ => by kernel_rfl⟩) hH ?_
                simp only [Act.put, la1, la2, la3, la4, la5, la6]
                refine wpAnyH_ready (rs := [5]) (by kernel_rfl) (by simp) ?_
                refine AllReadyH.cons rfl (fun K hK => ?_) AllReadyH.nil
                go_simp
                go_at_call 12
                refine (HIA.out _ hH.2.1).mono ?_
                rintro e w8 ⟨rfl, hb8⟩
                go_wp2_with fail
                refine hK.out _ _ (⟨(hH.1.new hb8).1, (hH.2.1.new hb8).1, hH.2.2.below hb8 hH.2.2.lt⟩) (fun hH => ?_)
                clear hK K
                try simp only [Act.put, la1, la2, la3, la4, la5, la6]
                refine tk_ (i := 6) (v := .int .i64 x2.kind) rfl (Or.inl ⟨by kernel_rfl, fun w' _ => by kernel_rfl⟩) hH ?_
                simp only [Act.put, la1, la2, la3, la4, la5, la6]
                refine tk_ (i := 7) (v := .bool false) rfl (Or.inl ⟨by rfl, fun w' hw' => by have h := HK3.out; go_simp⟩) hH ?_
                simp only [Act.put, la1, la2, la3, la4, la5, la6]
                refine tk_ (i := 8) (v := .bool false) rfl (Or.inl ⟨by kernel_rfl, fun w' _ => by kernel_rfl⟩) hH ?_
                simp only [Act.put, la1, la2, la3, la4, la5, la6]
                refine tk_ (i := 9) (v := undef) rfl (Or.inr ⟨by kernel_rfl, rfl⟩) hH ?_
                simp only [Act.put, la1, la2, la3, la4, la5, la6]
                refine tk_ (i := 10) (v := undef) rfl (Or.inr ⟨by kernel_rfl, rfl⟩) hH ?_
                simp only [Act.put, la1, la2, la3, la4, la5, la6]
                refine tk_ (i := 11) (v := undef) rfl (Or.inr ⟨by kernel_rfl, rfl⟩) hH ?_
                simp only [Act.put, la1, la2, la3, la4, la5, la6]
                refine tk_ (i := 12) (v := undef) rfl (Or.inr ⟨by kernel_rfl, rfl⟩) hH ?_
                simp only [Act.put, la1, la2, la3, la4, la5, la6]
                refine tk_ (i := 13) (v := undef) rfl (Or.inr ⟨by kernel_rfl, rfl⟩) hH ?_
                simp only [Act.put, la1, la2, la3, la4, la5, la6]
                refine tk_ (i := 14) (v := undef) rfl (Or.inr ⟨by kernel_rfl, rfl⟩) hH ?_
                simp only [Act.put, la1, la2, la3, la4, la5, la6]
                refine tk_ (i := 15) (v := undef) rfl (Or.inr ⟨by kernel_rfl, rfl⟩) hH ?_
                simp only [Act.put, la1, la2, la3, la4, la5, la6]
                refine tk_ (i := 16) (v := undef) rfl (Or.inr ⟨by kernel_rfl, rfl⟩) hH ?_
                simp only [Act.put, la1, la2, la3, la4, la5, la6]
                refine tk_ (i := 17) (v := undef) rfl (Or.inr ⟨by kernel_rfl, rfl⟩) hH ?_
                simp only [Act.put, la1, la2, la3, la4, la5, la6]
                refine tk_ (i := 18) (v := undef) rfl (Or.inr ⟨by kernel_rfl, rfl⟩) hH ?_
                simp only [Act.put, la1, la2, la3, la4, la5, la6]
                refine tk_ (i := 19) (v := .bool false) rfl (Or.inl ⟨by kernel_rfl, fun w' _ => by kernel_rfl⟩) hH ?_
                simp only [Act.put, la1, la2, la3, la4, la5, la6]
                refine wpAnyH_done (by kernel_rfl) ?_ _
                try simp only [Act.put, la1, la2, la3, la4, la5, la6]
                have Q9 := hid hH.1
                have P9 := hid hH.2.1
                have Z9 := hid hH.2.2
                clear hH hb8
                go_wp2_with fail
                go_roundw
                case rel => exact ⟨m + 1, by omega, by have := HN.out; first | (congr 1; push_cast; omega) | (simp; omega), Q9.out, P9.out, Z9.out⟩
                case measure => simp [intOf]; have := HN.out; omega
              · have HK3 := hid (show (x2.kind != 3) = true by simpa using hk3)
                have hxx := hne hk3
                have HIB : Hid (∀ W, Jd w1 W jq p gs S2 J3 [jp, bw] → Calls Tryd.prog 12 #[.pointer (some ⟨jq, 0, none⟩), .int .i64 n] W (VE W (.agg x2.cells))) := hid fun W hW => by
                  have := h3 W hW n
                  rw [hxx] at this
                  exact this
                clear h3 hne hk3 hxx hn
                go_wp2_with fail
                try simp only [Act.put, la1, la2, la3, la4, la5, la6]
                refine wp_region_held_drew (S := fun W => Jd w1 W jq p gs S2 J3 [jp, bw] ∧ Jd w1 W jp p gs S2 J2 [jq, bw] ∧ Row W bw 37 (wC p (some jp) J.c)) (by kernel_rfl) (⟨HQ.out.drew, HP.out.drew, HR.out⟩) (fun hH => ?_)
                refine tk_ (i := 0) (v := .pointer (some ⟨bw, 0, none⟩)) rfl (Or.inl ⟨by kernel_rfl, fun w' _ => by kernel_rfl⟩) hH ?_
                simp only [Act.put, la1, la3, la4, la5, la6]
                refine tk_ (i := 1) (v := .pointer (some ⟨bw, 0, none⟩)) rfl (Or.inl ⟨by rfl, fun w' hw' => by clear hw'; go_simp⟩) hH ?_
                simp only [Act.put, la1, la2, la3, la4, la5, la6]
                refine tk_ (i := 2) (v := .pointer (some ⟨bw, 1, none⟩)) rfl (Or.inl ⟨by rfl, fun w' hw' => by clear hw'; go_simp⟩) hH ?_
                simp only [Act.put, la1, la2, la3, la4, la5, la6]
                refine tk_ (i := 3) (v := .pointer (some ⟨jp, 0, none⟩)) rfl (Or.inl ⟨by rfl, fun w' hw' => by have h := hw'.2.2.at_ 1 (.pointer (some ⟨jp, 0, none⟩)) rfl; go_simp⟩) hH ?_
                simp only [Act.put, la1, la2, la3, la4, la5, la6]
                refine tk_ (i := 4) (v := .int .i64 n) rfl (Or.inl ⟨by kernel_rfl, fun w' _ => by kernel_rfl⟩) hH ?_
                simp only [Act.put, la1, la2, la3, la4, la5, la6]
                refine wpAnyH_ready (rs := [5]) (by kernel_rfl) (by simp) ?_
                refine AllReadyH.cons rfl (fun K hK => ?_) AllReadyH.nil
                go_simp
                go_at_call 12
                refine (HIA.out _ hH.2.1).mono ?_
                rintro e w8 ⟨rfl, hb8⟩
                go_wp2_with fail
                refine hK.out _ _ (⟨(hH.1.new hb8).1, (hH.2.1.new hb8).1, hH.2.2.below hb8 hH.2.2.lt⟩) (fun hH => ?_)
                clear hK K
                try simp only [Act.put, la1, la2, la3, la4, la5, la6]
                refine tk_ (i := 6) (v := .int .i64 x2.kind) rfl (Or.inl ⟨by kernel_rfl, fun w' _ => by kernel_rfl⟩) hH ?_
                simp only [Act.put, la1, la2, la3, la4, la5, la6]
                refine tk_ (i := 7) (v := .bool true) rfl (Or.inl ⟨by rfl, fun w' hw' => by have h := HK3.out; go_simp⟩) hH ?_
                simp only [Act.put, la1, la2, la3, la4, la5, la6]
                refine tk_ (i := 8) (v := .bool true) rfl (Or.inl ⟨by kernel_rfl, fun w' _ => by kernel_rfl⟩) hH ?_
                simp only [Act.put, la1, la2, la3, la4, la5, la6]
                refine tk_ (i := 9) (v := .pointer (some ⟨jq, 0, none⟩)) rfl (Or.inl ⟨by kernel_rfl, fun w' hw' => by clear hw'; go_simp⟩) hH ?_
                simp only [Act.put, la1, la2, la3, la4, la5, la6]
                refine tk_ (i := 10) (v := .int .i64 n) rfl (Or.inl ⟨by kernel_rfl, fun w' hw' => by clear hw'; go_simp⟩) hH ?_
                simp only [Act.put, la1, la2, la3, la4, la5, la6]
                refine tk_ (i := 12) (v := .pointer (some ⟨bw, 0, none⟩)) rfl (Or.inl ⟨by kernel_rfl, fun w' hw' => by clear hw'; go_simp⟩) hH ?_
                simp only [Act.put, la1, la2, la3, la4, la5, la6]
                refine tk_ (i := 13) (v := .pointer (some ⟨bw, 0, none⟩)) rfl (Or.inl ⟨by kernel_rfl, fun w' hw' => by clear hw'; go_simp⟩) hH ?_
                simp only [Act.put, la1, la2, la3, la4, la5, la6]
                refine tk_ (i := 14) (v := .pointer (some ⟨bw, 1, none⟩)) rfl (Or.inl ⟨by kernel_rfl, fun w' hw' => by clear hw'; go_simp⟩) hH ?_
                simp only [Act.put, la1, la2, la3, la4, la5, la6]
                refine tk_ (i := 15) (v := .pointer (some ⟨jp, 0, none⟩)) rfl (Or.inl ⟨by kernel_rfl, fun w' hw' => by have h := hw'.2.2.at_ 1 (.pointer (some ⟨jp, 0, none⟩)) rfl; go_simp⟩) hH ?_
                simp only [Act.put, la1, la2, la3, la4, la5, la6]
                refine tk_ (i := 16) (v := .int .i64 n) rfl (Or.inl ⟨by kernel_rfl, fun w' hw' => by clear hw'; go_simp⟩) hH ?_
                simp only [Act.put, la1, la2, la3, la4, la5, la6]
                refine wpAnyH_ready (rs := [11]) (by kernel_rfl) (by simp) ?_
                refine AllReadyH.cons rfl (fun K hK => ?_) AllReadyH.nil
                rw [if_pos (by kernel_rfl)]
                go_simp
                go_at_call 12
                refine (HIB.out _ hH.1).mono ?_
                rintro e w10 ⟨rfl, hb10⟩
                go_wp2_with fail
                refine hK.out _ _ (⟨(hH.1.new hb10).1, (hH.2.1.new hb10).1, hH.2.2.below hb10 hH.2.2.lt⟩) (fun hH => ?_)
                clear hK K
                try simp only [Act.put, la1, la2, la3, la4, la5, la6]
                refine wpAnyH_ready (rs := [17]) (by kernel_rfl) (by simp) ?_
                refine AllReadyH.cons rfl (fun K hK => ?_) AllReadyH.nil
                rw [if_pos (by kernel_rfl)]
                go_simp
                go_at_call 12
                refine (HIA.out _ hH.2.1).mono ?_
                rintro e w12 ⟨rfl, hb12⟩
                go_wp2_with fail
                refine hK.out _ _ (⟨(hH.1.new hb12).1, (hH.2.1.new hb12).1, hH.2.2.below hb12 hH.2.2.lt⟩) (fun hH => ?_)
                clear hK K
                try simp only [Act.put, la1, la2, la3, la4, la5, la6]
                refine tk_ (i := 18) (v := .bool (!true)) rfl (yields_nei (by kernel_rfl) x2 x2 true (hid (.inl ⟨rfl, rfl⟩)) (.tmp 109) (.tmp 115) _ rfl (by kernel_rfl) (by kernel_rfl)) hH ?_
                simp only [Act.put, la1, la2, la3, la4, la5, la6]
                refine tk_ (i := 19) (v := .bool false) rfl (Or.inl ⟨by kernel_rfl, fun w' _ => by kernel_rfl⟩) hH ?_
                simp only [Act.put, la1, la2, la3, la4, la5, la6]
                refine wpAnyH_done (by kernel_rfl) ?_ _
                try simp only [Act.put, la1, la2, la3, la4, la5, la6]
                have Q9 := hid hH.1
                have P9 := hid hH.2.1
                have Z9 := hid hH.2.2
                clear hH hb8 hb10 hb12
                go_wp2_with fail
                go_roundw
                case rel => exact ⟨m + 1, by omega, by have := HN.out; first | (congr 1; push_cast; omega) | (simp; omega), Q9.out, P9.out, Z9.out⟩
                case measure => simp [intOf]; have := HN.out; omega
            · have hgt : ¬ n ≤ J.c + 8 := by omega
              clear hq hp2 hr hn
              go_wp2_with fail
              go_ret
              exact ⟨rfl, B1.out.trans (HQ.out.below.mono B1.out.size)⟩
    · have hb : ¬ (k : Int) < (XS.length : Int) := by omega
      clear HXS1 HRD1
      obtain ⟨S, j, c⟩ := v
      cases j with
      | none =>
        obtain ⟨hbw, hbG, hD, hrow⟩ := hj
        have cb1 : wr.cell? ⟨bw, 1, none⟩ = some (.pointer none) := hrow.at_ 1 _ rfl
        have HD := hid hD
        clear hi hc hrow HJ hD
        go_wp2_with fail
        go_ret
        exact ⟨rfl, B1.out.trans (HD.out.below.mono B1.out.size)⟩
      | some J =>
        obtain ⟨hbw, hbG, jp, hJd, hrow⟩ := hj
        obtain ⟨hcj, hh⟩ := hi.out
        have hcj : c = J.c := hcj
        have hh : HereF S J := hh
        have hc : S.count ≤ 17 + 32 * k := hc
        subst hcj
        obtain ⟨S1, ef, h1, z1⟩ := f_fuse hh 0
        have hcf := fuse_count S 0
        rw [ef] at hcf
        have hcf : S1.count = S.count := hcf
        obtain ⟨S2, J2, X2, es, ec, w2f, eo, hit⟩ := scrub_open h1 (by rw [z1]; rfl)
        have hcs := scrubK_count S1 J h1.wf.len 8 (Nat.le_refl _)
        rw [es] at hcs
        have hcs : S2.count ≤ S1.count + 4 * 8 := hcs
        have w3f : JWf ⟨J2.c, X2⟩ := by
          have := openK_jwf (S := S2) w2f.c0 w2f.c1 8 (Nat.le_refl _) (by rw [eo])
          rw [eo] at this
          exact this
        have eoj : openJ S2 J2.c = (S2, some ⟨J2.c, X2⟩, 0) := by
          unfold openJ
          rw [if_neg (by have := w2f.c0; have := w2f.c1; omega), eo]
          rfl
        have HFU : Hid (∀ W (Y : List Nat), Jd w1 W jp p gs S J Y → Calls Tryd.prog 15 #[.pointer (some ⟨p, 0, none⟩), .int .i64 0] W (JC w1 W jp p gs S1 J Y (.int .i64 0))) := hid fun W Y hW => hW.callD fun hD => dd_fuse hD 0 (by decide) ef
        have HSC : Hid (∀ W (Y : List Nat), Jd w1 W jp p gs S1 J Y → Calls Tryd.prog 16 #[.pointer (some ⟨jp, 0, none⟩)] W (JC w1 W jp p gs S2 J2 Y (.int .i64 0))) := hid fun W Y hW => by
          have := scrubAll hW h1.wf (by omega)
          rw [es] at this
          exact this
        have HSP : Hid (∀ W (Y : List Nat), Dd w1 W p gs S2 Y → Calls Tryd.prog 17 #[.pointer (some ⟨p, 0, none⟩)] W fun e w' => e = .returned (.int .i64 (S2.count : Int)) ∧ W = w') := hid fun W Y hW => dd_steps hW
        have HOP : Hid (∀ W (Y : List Nat), Dd w1 W p gs S2 Y → Calls Tryd.prog 18 #[.pointer (some ⟨p, 0, none⟩), .int .i64 J.c] W (OR w1 W p gs Y (S2, some ⟨J2.c, X2⟩, 0))) := hid fun W Y hW => by
          have := openj_any hW J.c (by omega)
          rw [← ec, eoj] at this
          rw [← ec]
          exact this
        have HI2 : Hid (∀ W (Y : List Nat), Jd w1 W jp p gs S2 J2 Y → ∀ n, Calls Tryd.prog 12 #[.pointer (some ⟨jp, 0, none⟩), .int .i64 n] W (VE W (.agg (J2.item n).cells))) := hid fun W Y hW n => item_any13 hW w2f n
        have HI3 : Hid (∀ W jq (Y : List Nat), Jd w1 W jq p gs S2 ⟨J2.c, X2⟩ Y → ∀ n, Calls Tryd.prog 12 #[.pointer (some ⟨jq, 0, none⟩), .int .i64 n] W (VE W (.agg ((⟨J2.c, X2⟩ : Jn).item n).cells))) := hid fun W jq Y hW n => item_any13 hW w3f n
        have HIT : Hid (∀ n, J.c < n → n ≤ J.c + 8 → (J2.item n).kind ≠ 3 → (⟨J2.c, X2⟩ : Jn).item n = J2.item n) := hid fun n n1 n2 => hit n ⟨by rw [ec]; exact n1, by rw [ec]; exact n2⟩
        have HCB := hid (And.intro h1.wf.c0 h1.wf.c1)
        have HJ0 := hid hJd
        have HR0 := hid hrow
        have cb0 : wr.cell? ⟨bw, 0, none⟩ = some (.pointer (some ⟨p, 0, none⟩)) := hrow.at_ 0 _ rfl
        have cb1 : wr.cell? ⟨bw, 1, none⟩ = some (.pointer (some ⟨jp, 0, none⟩)) := hrow.at_ 1 _ rfl
        generalize (⟨J2.c, X2⟩ : Jn) = J3 at *
        clear hi hc hrow HJ hJd hh ef h1 z1 hcf es ec w2f eo hit hcs w3f eoj
        go_wp2_with (first
          | (go_at_call 15; refine (HFU.out _ _ HJ0.out).mono ?_; rintro e w3 ⟨rfl, q, k3⟩; have H3 := hid q; have R3 := hid (k3.row HR0.out (by simp)); have cb1 : w3.cell? ⟨bw, 1, none⟩ = some (.pointer (some ⟨jp, 0, none⟩)) := R3.out.at_ 1 _ rfl; clear q k3)
          | (go_at_call 16; refine (HSC.out _ _ H3.out).mono ?_; rintro e w4 ⟨rfl, q, k4⟩; have H4 := hid q; have R4 := hid (k4.row R3.out (by simp)); have cb0 : w4.cell? ⟨bw, 0, none⟩ = some (.pointer (some ⟨p, 0, none⟩)) := R4.out.at_ 0 _ rfl; clear q k4)
          | (go_at_call 17; refine (HSP.out _ _ H4.out.1).mono ?_; rintro e w5 ⟨rfl, hw5⟩; subst hw5))
        try simp only [Act.put, la1, la2, la3, la4, la5, la6]
        refine wp_region_held_drew (S := fun W => (∃ jq J, Jd w1 W jq p gs S2 J [bw]) ∧ Ek w4 W [jp, bw]) (by kernel_rfl) (⟨⟨_, _, H4.out.drew⟩, fun _ _ => rfl⟩) (fun hH => ?_)
        refine tk_ (i := 0) (v := .pointer (some ⟨bw, 0, none⟩)) rfl (Or.inl ⟨by kernel_rfl, fun w' _ => by kernel_rfl⟩) hH ?_
        simp only [Act.put, la1, la3, la4, la5, la6]
        refine tk_ (i := 1) (v := .pointer (some ⟨bw, 0, none⟩)) rfl (Or.inl ⟨by rfl, fun w' hw' => by clear hw'; go_simp⟩) hH ?_
        simp only [Act.put, la1, la2, la3, la4, la5, la6]
        refine tk_ (i := 2) (v := .pointer (some ⟨bw, 0, none⟩)) rfl (Or.inl ⟨by rfl, fun w' hw' => by clear hw'; go_simp⟩) hH ?_
        simp only [Act.put, la1, la2, la3, la4, la5, la6]
        refine tk_ (i := 3) (v := .pointer (some ⟨p, 0, none⟩)) rfl (Or.inl ⟨by rfl, fun w' hw' => by have h := (hw'.2.row R4.out (by simp)).at_ 0 (.pointer (some ⟨p, 0, none⟩)) rfl; go_simp⟩) hH ?_
        simp only [Act.put, la1, la2, la3, la4, la5, la6]
        refine tk_ (i := 4) (v := .pointer (some ⟨bw, 0, none⟩)) rfl (Or.inl ⟨by kernel_rfl, fun w' _ => by kernel_rfl⟩) hH ?_
        simp only [Act.put, la1, la2, la3, la4, la5, la6]
        refine tk_ (i := 5) (v := .pointer (some ⟨bw, 0, none⟩)) rfl (Or.inl ⟨by rfl, fun w' hw' => by clear hw'; go_simp⟩) hH ?_
        simp only [Act.put, la1, la2, la3, la4, la5, la6]
        refine tk_ (i := 6) (v := .pointer (some ⟨bw, 2, none⟩)) rfl (Or.inl ⟨by rfl, fun w' hw' => by clear hw'; go_simp⟩) hH ?_
        simp only [Act.put, la1, la2, la3, la4, la5, la6]
        refine tk_ (i := 7) (v := .int .i64 J.c) rfl (Or.inl ⟨by rfl, fun w' hw' => by have h := (hw'.2.row R4.out (by simp)).at_ 2 (.int .i64 J.c) rfl; go_simp⟩) hH ?_
        simp only [Act.put, la1, la2, la3, la4, la5, la6]
        refine wpAnyH_ready (rs := [8]) (by kernel_rfl) (by simp) ?_
        refine AllReadyH.cons rfl (fun K hK => ?_) AllReadyH.nil
        go_simp
        go_at_call 18
        refine (HOP.out _ _ H4.out.drew.1).mono ?_
        rintro e w6 ⟨jq, rfl, h6, k6, _⟩
        go_wp2_with fail
        refine hK.out _ _ (⟨⟨_, _, h6.sub (by simp)⟩, hH.2.trans k6⟩) (fun hH => ?_)
        clear hK K
        try simp only [Act.put, la1, la2, la3, la4, la5, la6]
        refine tk_ (i := 9) (v := .tuple #[.pointer (some ⟨jq, 0, none⟩), .int .i64 0]) rfl (Or.inl ⟨by kernel_rfl, fun w' _ => by kernel_rfl⟩) hH ?_
        simp only [Act.put, la1, la2, la3, la4, la5, la6]
        refine tk_ (i := 10) (v := .pointer (some ⟨jq, 0, none⟩)) rfl (Or.inl ⟨by kernel_rfl, fun w' _ => by kernel_rfl⟩) hH ?_
        simp only [Act.put, la1, la2, la3, la4, la5, la6]
        refine tk_ (i := 11) (v := .int .i64 0) rfl (Or.inl ⟨by kernel_rfl, fun w' _ => by kernel_rfl⟩) hH ?_
        simp only [Act.put, la1, la2, la3, la4, la5, la6]
        refine tk_ (i := 12) (v := .pointer (some ⟨jq, 0, none⟩)) rfl (Or.inl ⟨by kernel_rfl, fun w' _ => by kernel_rfl⟩) hH ?_
        simp only [Act.put, la1, la2, la3, la4, la5, la6]
        refine tk_ (i := 13) (v := .int .i64 0) rfl (Or.inl ⟨by kernel_rfl, fun w' _ => by kernel_rfl⟩) hH ?_
        simp only [Act.put, la1, la2, la3, la4, la5, la6]
        refine wpAnyH_done (by kernel_rfl) ?_ _
        try simp only [Act.put, la1, la2, la3, la4, la5, la6]
        have H6 := hid h6
        have R6 := hid (hH.2.row R4.out (by simp))
        have J6 := hid (Jd.both H4.out.drew h6 k6)
        clear hH h6 k6 cb0 cb1
        have cb0 : w6.cell? ⟨bw, 0, none⟩ = some (.pointer (some ⟨p, 0, none⟩)) := R6.out.at_ 0 _ rfl
        have cb2 : w6.cell? ⟨bw, 2, none⟩ = some (.int .i64 J.c) := R6.out.at_ 2 _ rfl
        obtain ⟨b1, b2⟩ := HCB.out
        have ec1 : IntKind.i64.wrap (J.c + 1) = J.c + 1 := w64 (by omega) (by omega)
        have ec8 : IntKind.i64.wrap (J.c + 8) = J.c + 8 := w64 (by omega) (by omega)
        go_wp2_with (go_at_call 17; refine (HSP.out _ _ H6.out.1).mono ?_; rintro e w7 ⟨rfl, hw7⟩; subst hw7)
        go_loopw [8] (fun i wr => ∃ m : Nat, m ≤ 8 ∧ i = .int .i64 (J.c + 1 + (m : Int)) ∧ Jd w1 wr jq p gs S2 J3 [jp, bw] ∧ Jd w1 wr jp p gs S2 J2 [jq, bw] ∧ Row wr bw 37 (wC p (some jp) J.c)) (fun i _ => (J.c + 9 - intOf i).toNat)
        case atStart => exact ⟨0, by omega, by simp, H6.out, J6.out, R6.out⟩
        case round =>
          obtain ⟨m, hm, rfl, hq, hp2, hr⟩ := hrel
          have HQ := hid hq
          have HP := hid hp2
          have HR := hid hr
          obtain ⟨b1, b2⟩ := HCB.out
          have cr2 : wr.cell? ⟨bw, 2, none⟩ = some (.int .i64 J.c) := hr.at_ 2 _ rfl
          obtain ⟨n, hn⟩ : ∃ n, n = J.c + 1 + (m : Int) := ⟨_, rfl⟩
          rw [← hn]
          by_cases hlt : m < 8
          · have hle : n ≤ J.c + 8 := by omega
            have en : IntKind.i64.wrap (n + 1) = n + 1 := w64 (by omega) (by omega)
            have h2 := HI2.out (Y := [jq, bw])
            have h3 := HI3.out (jq := jq) (Y := [jp, bw])
            have hne := HIT.out n (by omega) hle
            have HN := hid hn
            generalize hx2 : J2.item n = x2 at *
            have HIA : Hid (∀ W, Jd w1 W jp p gs S2 J2 [jq, bw] → Calls Tryd.prog 12 #[.pointer (some ⟨jp, 0, none⟩), .int .i64 n] W (VE W (.agg x2.cells))) := hid fun W hW => by
              have := h2 W hW n
              rw [hx2] at this
              exact this
            clear h2 hq hp2 hr hx2
            by_cases hk3 : x2.kind = 3
            · have HK3 := hid hk3
              clear h3 hne hk3 hn
              go_wp2_with fail
              try simp only [Act.put, la1, la2, la3, la4, la5, la6]
              refine wp_region_held_drew (S := fun W => Jd w1 W jq p gs S2 J3 [jp, bw] ∧ Jd w1 W jp p gs S2 J2 [jq, bw] ∧ Row W bw 37 (wC p (some jp) J.c)) (by kernel_rfl) (⟨HQ.out.drew, HP.out.drew, HR.out⟩) (fun hH => ?_)
              refine tk_ (i := 0) (v := .pointer (some ⟨bw, 0, none⟩)) rfl (Or.inl ⟨by kernel_rfl, fun w' _ => by kernel_rfl⟩) hH ?_
              simp only [Act.put, la1, la3, la4, la5, la6]
              refine tk_ (i := 1) (v := .pointer (some ⟨bw, 0, none⟩)) rfl (Or.inl ⟨by rfl, fun w' hw' => by clear hw'; go_simp⟩) hH ?_
              simp only [Act.put, la1, la2, la3, la4, la5, la6]
              refine tk_ (i := 2) (v := .pointer (some ⟨bw, 1, none⟩)) rfl (Or.inl ⟨by rfl, fun w' hw' => by clear hw'; go_simp⟩) hH ?_
              simp only [Act.put, la1, la2, la3, la4, la5, la6]
              refine tk_ (i := 3) (v := .pointer (some ⟨jp, 0, none⟩)) rfl (Or.inl ⟨by rfl, fun w' hw' => by have h := hw'.2.2.at_ 1 (.pointer (some ⟨jp, 0, none⟩)) rfl; go_simp⟩) hH ?_
              simp only [Act.put, la1, la2, la3, la4, la5, la6]
              refine tk_ (i := 4) (v := .int .i64 n) rfl (Or.inl ⟨by kernel_rfl, fun w' _ => by kernel_rfl⟩) hH ?_
              simp only [Act.put, la1, la2, la3, la4, la5, la6]
              refine wpAnyH_ready (rs := [5]) (by kernel_rfl) (by simp) ?_
              refine AllReadyH.cons rfl (fun K hK => ?_) AllReadyH.nil
              go_simp
              go_at_call 12
              refine (HIA.out _ hH.2.1).mono ?_
              rintro e w8 ⟨rfl, hb8⟩
              go_wp2_with fail
              refine hK.out _ _ (⟨(hH.1.new hb8).1, (hH.2.1.new hb8).1, hH.2.2.below hb8 hH.2.2.lt⟩) (fun hH => ?_)
              clear hK K
              try simp only [Act.put, la1, la2, la3, la4, la5, la6]
              refine tk_ (i := 6) (v := .int .i64 x2.kind) rfl (Or.inl ⟨by kernel_rfl, fun w' _ => by kernel_rfl⟩) hH ?_
              simp only [Act.put, la1, la2, la3, la4, la5, la6]
              refine tk_ (i := 7) (v := .bool false) rfl (Or.inl ⟨by rfl, fun w' hw' => by have h := HK3.out; go_simp⟩) hH ?_
              simp only [Act.put, la1, la2, la3, la4, la5, la6]
              refine tk_ (i := 8) (v := .bool false) rfl (Or.inl ⟨by kernel_rfl, fun w' _ => by kernel_rfl⟩) hH ?_
              simp only [Act.put, la1, la2, la3, la4, la5, la6]
              refine tk_ (i := 9) (v := undef) rfl (Or.inr ⟨by kernel_rfl, rfl⟩) hH ?_
              simp only [Act.put, la1, la2, la3, la4, la5, la6]
              refine tk_ (i := 10) (v := undef) rfl (Or.inr ⟨by kernel_rfl, rfl⟩) hH ?_
              simp only [Act.put, la1, la2, la3, la4, la5, la6]
              refine tk_ (i := 11) (v := undef) rfl (Or.inr ⟨by kernel_rfl, rfl⟩) hH ?_
              simp only [Act.put, la1, la2, la3, la4, la5, la6]
              refine tk_ (i := 12) (v := undef) rfl (Or.inr ⟨by kernel_rfl, rfl⟩) hH ?_
              simp only [Act.put, la1, la2, la3, la4, la5, la6]
              refine tk_ (i := 13) (v := undef) rfl (Or.inr ⟨by kernel_rfl, rfl⟩) hH ?_
              simp only [Act.put, la1, la2, la3, la4, la5, la6]
              refine tk_ (i := 14) (v := undef) rfl (Or.inr ⟨by kernel_rfl, rfl⟩) hH ?_
              simp only [Act.put, la1, la2, la3, la4, la5, la6]
              refine tk_ (i := 15) (v := undef) rfl (Or.inr ⟨by kernel_rfl, rfl⟩) hH ?_
              simp only [Act.put, la1, la2, la3, la4, la5, la6]
              refine tk_ (i := 16) (v := undef) rfl (Or.inr ⟨by kernel_rfl, rfl⟩) hH ?_
              simp only [Act.put, la1, la2, la3, la4, la5, la6]
              refine tk_ (i := 17) (v := undef) rfl (Or.inr ⟨by kernel_rfl, rfl⟩) hH ?_
              simp only [Act.put, la1, la2, la3, la4, la5, la6]
              refine tk_ (i := 18) (v := undef) rfl (Or.inr ⟨by kernel_rfl, rfl⟩) hH ?_
              simp only [Act.put, la1, la2, la3, la4, la5, la6]
              refine tk_ (i := 19) (v := .bool false) rfl (Or.inl ⟨by kernel_rfl, fun w' _ => by kernel_rfl⟩) hH ?_
              simp only [Act.put, la1, la2, la3, la4, la5, la6]
              refine wpAnyH_done (by kernel_rfl) ?_ _
              try simp only [Act.put, la1, la2, la3, la4, la5, la6]
              have Q9 := hid hH.1
              have P9 := hid hH.2.1
              have Z9 := hid hH.2.2
              clear hH hb8
              go_wp2_with fail
              go_roundw
              case rel => exact ⟨m + 1, by omega, by have := HN.out; first | (congr 1; push_cast; omega) | (simp; omega), Q9.out, P9.out, Z9.out⟩
              case measure => simp [intOf]; have := HN.out; omega
            · have HK3 := hid (show (x2.kind != 3) = true by simpa using hk3)
              have hxx := hne hk3
              have HIB : Hid (∀ W, Jd w1 W jq p gs S2 J3 [jp, bw] → Calls Tryd.prog 12 #[.pointer (some ⟨jq, 0, none⟩), .int .i64 n] W (VE W (.agg x2.cells))) := hid fun W hW => by
                have := h3 W hW n
                rw [hxx] at this
                exact this
              clear h3 hne hk3 hxx hn
              go_wp2_with fail
              try simp only [Act.put, la1, la2, la3, la4, la5, la6]
              refine wp_region_held_drew (S := fun W => Jd w1 W jq p gs S2 J3 [jp, bw] ∧ Jd w1 W jp p gs S2 J2 [jq, bw] ∧ Row W bw 37 (wC p (some jp) J.c)) (by kernel_rfl) (⟨HQ.out.drew, HP.out.drew, HR.out⟩) (fun hH => ?_)
              refine tk_ (i := 0) (v := .pointer (some ⟨bw, 0, none⟩)) rfl (Or.inl ⟨by kernel_rfl, fun w' _ => by kernel_rfl⟩) hH ?_
              simp only [Act.put, la1, la3, la4, la5, la6]
              refine tk_ (i := 1) (v := .pointer (some ⟨bw, 0, none⟩)) rfl (Or.inl ⟨by rfl, fun w' hw' => by clear hw'; go_simp⟩) hH ?_
              simp only [Act.put, la1, la2, la3, la4, la5, la6]
              refine tk_ (i := 2) (v := .pointer (some ⟨bw, 1, none⟩)) rfl (Or.inl ⟨by rfl, fun w' hw' => by clear hw'; go_simp⟩) hH ?_
              simp only [Act.put, la1, la2, la3, la4, la5, la6]
              refine tk_ (i := 3) (v := .pointer (some ⟨jp, 0, none⟩)) rfl (Or.inl ⟨by rfl, fun w' hw' => by have h := hw'.2.2.at_ 1 (.pointer (some ⟨jp, 0, none⟩)) rfl; go_simp⟩) hH ?_
              simp only [Act.put, la1, la2, la3, la4, la5, la6]
              refine tk_ (i := 4) (v := .int .i64 n) rfl (Or.inl ⟨by kernel_rfl, fun w' _ => by kernel_rfl⟩) hH ?_
              simp only [Act.put, la1, la2, la3, la4, la5, la6]
              refine wpAnyH_ready (rs := [5]) (by kernel_rfl) (by simp) ?_
              refine AllReadyH.cons rfl (fun K hK => ?_) AllReadyH.nil
              go_simp
              go_at_call 12
              refine (HIA.out _ hH.2.1).mono ?_
              rintro e w8 ⟨rfl, hb8⟩
              go_wp2_with fail
              refine hK.out _ _ (⟨(hH.1.new hb8).1, (hH.2.1.new hb8).1, hH.2.2.below hb8 hH.2.2.lt⟩) (fun hH => ?_)
              clear hK K
              try simp only [Act.put, la1, la2, la3, la4, la5, la6]
              refine tk_ (i := 6) (v := .int .i64 x2.kind) rfl (Or.inl ⟨by kernel_rfl, fun w' _ => by kernel_rfl⟩) hH ?_
              simp only [Act.put, la1, la2, la3, la4, la5, la6]
              refine tk_ (i := 7) (v := .bool true) rfl (Or.inl ⟨by rfl, fun w' hw' => by have h := HK3.out; go_simp⟩) hH ?_
              simp only [Act.put, la1, la2, la3, la4, la5, la6]
              refine tk_ (i := 8) (v := .bool true) rfl (Or.inl ⟨by kernel_rfl, fun w' _ => by kernel_rfl⟩) hH ?_
              simp only [Act.put, la1, la2, la3, la4, la5, la6]
              refine tk_ (i := 9) (v := .pointer (some ⟨jq, 0, none⟩)) rfl (Or.inl ⟨by kernel_rfl, fun w' hw' => by clear hw'; go_simp⟩) hH ?_
              simp only [Act.put, la1, la2, la3, la4, la5, la6]
              refine tk_ (i := 10) (v := .int .i64 n) rfl (Or.inl ⟨by kernel_rfl, fun w' hw' => by clear hw'; go_simp⟩) hH ?_
              simp only [Act.put, la1, la2, la3, la4, la5, la6]
              refine tk_ (i := 12) (v := .pointer (some ⟨bw, 0, none⟩)) rfl (Or.inl ⟨by kernel_rfl, fun w' hw' => by clear hw'; go_simp⟩) hH ?_
              simp only [Act.put, la1, la2, la3, la4, la5, la6]
              refine tk_ (i := 13) (v := .pointer (some ⟨bw, 0, none⟩)) rfl (Or.inl ⟨by kernel_rfl, fun w' hw' => by clear hw'; go_simp⟩) hH ?_
              simp only [Act.put, la1, la2, la3, la4, la5, la6]
              refine tk_ (i := 14) (v := .pointer (some ⟨bw, 1, none⟩)) rfl (Or.inl ⟨by kernel_rfl, fun w' hw' => by clear hw'; go_simp⟩) hH ?_
              simp only [Act.put, la1, la2, la3, la4, la5, la6]
              refine tk_ (i := 15) (v := .pointer (some ⟨jp, 0, none⟩)) rfl (Or.inl ⟨by kernel_rfl, fun w' hw' => by have h := hw'.2.2.at_ 1 (.pointer (some ⟨jp, 0, none⟩)) rfl; go_simp⟩) hH ?_
              simp only [Act.put, la1, la2, la3, la4, la5, la6]
              refine tk_ (i := 16) (v := .int .i64 n) rfl (Or.inl ⟨by kernel_rfl, fun w' hw' => by clear hw'; go_simp⟩) hH ?_
              simp only [Act.put, la1, la2, la3, la4, la5, la6]
              refine wpAnyH_ready (rs := [11]) (by kernel_rfl) (by simp) ?_
              refine AllReadyH.cons rfl (fun K hK => ?_) AllReadyH.nil
              rw [if_pos (by kernel_rfl)]
              go_simp
              go_at_call 12
              refine (HIB.out _ hH.1).mono ?_
              rintro e w10 ⟨rfl, hb10⟩
              go_wp2_with fail
              refine hK.out _ _ (⟨(hH.1.new hb10).1, (hH.2.1.new hb10).1, hH.2.2.below hb10 hH.2.2.lt⟩) (fun hH => ?_)
              clear hK K
              try simp only [Act.put, la1, la2, la3, la4, la5, la6]
              refine wpAnyH_ready (rs := [17]) (by kernel_rfl) (by simp) ?_
              refine AllReadyH.cons rfl (fun K hK => ?_) AllReadyH.nil
              rw [if_pos (by kernel_rfl)]
              go_simp
              go_at_call 12
              refine (HIA.out _ hH.2.1).mono ?_
              rintro e w12 ⟨rfl, hb12⟩
              go_wp2_with fail
              refine hK.out _ _ (⟨(hH.1.new hb12).1, (hH.2.1.new hb12).1, hH.2.2.below hb12 hH.2.2.lt⟩) (fun hH => ?_)
              clear hK K
              try simp only [Act.put, la1, la2, la3, la4, la5, la6]
              refine tk_ (i := 18) (v := .bool (!true)) rfl (yields_nei (by kernel_rfl) x2 x2 true (hid (.inl ⟨rfl, rfl⟩)) (.tmp 109) (.tmp 115) _ rfl (by kernel_rfl) (by kernel_rfl)) hH ?_
              simp only [Act.put, la1, la2, la3, la4, la5, la6]
              refine tk_ (i := 19) (v := .bool false) rfl (Or.inl ⟨by kernel_rfl, fun w' _ => by kernel_rfl⟩) hH ?_
              simp only [Act.put, la1, la2, la3, la4, la5, la6]
              refine wpAnyH_done (by kernel_rfl) ?_ _
              try simp only [Act.put, la1, la2, la3, la4, la5, la6]
              have Q9 := hid hH.1
              have P9 := hid hH.2.1
              have Z9 := hid hH.2.2
              clear hH hb8 hb10 hb12
              go_wp2_with fail
              go_roundw
              case rel => exact ⟨m + 1, by omega, by have := HN.out; first | (congr 1; push_cast; omega) | (simp; omega), Q9.out, P9.out, Z9.out⟩
              case measure => simp [intOf]; have := HN.out; omega
          · have hgt : ¬ n ≤ J.c + 8 := by omega
            clear hq hp2 hr hn
            go_wp2_with fail
            go_ret
            exact ⟨rfl, B1.out.trans (HQ.out.below.mono B1.out.size)⟩
end Go.Proofs.YtafbeepacncooaaDoor
