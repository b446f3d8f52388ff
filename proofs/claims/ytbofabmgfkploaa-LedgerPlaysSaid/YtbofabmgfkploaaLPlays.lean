/-
  The walk of LedgerPlays.
-/
import Derived.Test.YtbofabmgfkploaaRpk
import Derived.Test.YtbofabmgfkploaaRdo
import Derived.Test.YtbofabmgfkploaaSame
import Derived.Test.YtbofabmgfkploaaAgain
namespace Go.Proofs.Ytbofabmgfkploaa
open Go.RowKit
set_option maxRecDepth 10000

section
variable {P : Program} {md : Region.Mode} {ops : Array Oper} {Q : Exit → Act → World → Prop} {S S' : World → Prop}
/-- what is kept may be made narrower on the way, where the world at hand meets it -/
theorem wpAnyH_keep (hS : ∀ w, S' w → S w) : ∀ (fuel : Nat) (listed : Array Bool) (a : Act) (w : World), wpAnyH P md ops Q S' fuel listed a w → wpAnyH P md ops Q S fuel listed a w
  | 0, _, _, _, h => h
  | fuel + 1, _, _, _, h => ⟨h.1, fun i hi => wpOp_mono (fun a' w' h' => ⟨hS w' h'.1, wpAnyH_keep hS fuel _ a' w' h'.2⟩) (h.2 i hi)⟩
end
set_option maxHeartbeats 40000000 in
theorem lplays_any (A : Option Addr) (XS : List Ab) (n c : Nat) (w : World) (hr : Rd w w.heap.size A (rows Ab.cells XS)) (hn : n = XS.length) (hbig : n ≤ 9223372036854775807) :
    Calls Try.prog 3 #[.slice A n c] w fun e w' => e = .returned (.bool true) ∧ Below w.heap.size w w' := by
  have HAW := hid awake_any
  have HNW := hid new_any
  have HNEW : Hid (∀ p W, Sk w 63 p Lg.nil W → Tk w 63 p Lg.nil 30 W.heap.size Lg.nil (W.alloc (.cells #[.slice none 0 0, .slice none 0 0] 30))) := hid fun p W h => by
    refine h.two ((Below.refl _ _).alloc (Nat.le_refl _) _) ⟨_, _, rfl, nil_has (Row.new W _ #[.slice none 0 0, .slice none 0 0]) (by decide)⟩ ?_
    intro b hb
    simp [fpG, Value.ownBlock] at hb
    omega
  have HR := hid hr
  have HN := hid hn
  clear hr hn
  go_enter Try.func3, Try.ntmps3
  go_wp2_with (first
    | (go_at_call 10; refine (HAW.out _).mono ?_; rintro e w1 ⟨rfl, hx⟩; have HBB := hid hx; clear hx)
    | (go_at_call 11; refine (HNW.out _).mono ?_; rintro e w2 ⟨p, fp, rfl, hk, hf, hx⟩; have HSK := hid (Sk.mk' HBB.out hk hf hx); clear hx hk hf HBB))
  refine name_wp (fun w3 hw3 => ?_)
  have HTK : Hid (Tk w 63 p Lg.nil 30 w2.heap.size Lg.nil w3) := hid (by rw [hw3]; exact HNEW.out _ _ HSK.out)
  clear hw3 HNEW HNW HSK HAW
  generalize w2.heap.size = q at *
  go_loopw [5] (fun i wr => ∃ (k : Nat) (T : Lg), k ≤ n ∧ k ≤ 60 ∧ i = .int .i64 (k : Int) ∧ Tk w 63 p T 30 q T wr) (fun i _ => n - (intOf i).toNat)
  case atStart => exact ⟨0, Lg.nil, by omega, by omega, rfl, HTK.out⟩
  case round =>
    obtain ⟨k, T, hk, hk60, rfl, htk⟩ := hrel
    have HT := hid htk
    by_cases hlt : k < n
    · by_cases hlt60 : k < 60
      · have hkl : k < XS.length := by rw [← HN.out]; exact hlt
        obtain ⟨ga, o, rfl⟩ := shape_of HR.out Ab.len (by decide) (by omega)
        have HRG := hid (fun W (hW : Below w.heap.size w W) => range_of (HR.out.below hW (Nat.le_refl _)) Ab.len hkl)
        generalize (XS[k]'hkl) = X at *
        obtain ⟨op, body⟩ := X
        have HC0' : Hid (∀ W : World, Below w.heap.size w W → W.cell? ⟨ga, o + k * 2, none⟩ = some (.int .i64 op)) := hid fun W hW => HRG.out W hW 0 _ rfl
        have HC1' : Hid (∀ W : World, Below w.heap.size w W → W.cell? ⟨ga, o + k * 2 + 1, none⟩ = some (.string body)) := hid fun W hW => HRG.out W hW 1 _ rfl
        have hi0 : (0 : Int) ≤ (k : Int) := by omega
        have hi1 : (k : Int) < (n : Int) := by omega
        have hi2 : (k : Int) < 60 := by omega
        have HBE := hid htk.frame
        have hc1 := HC1'.out wr HBE.out
        clear htk HRG hkl HTK
        by_cases hsz : body.size ≤ 400
        · have HD := hid (fun p fq W (hg : Gk 63 p T fq W) => do_any p fq T body W (by omega) hg op)
          have HE := hid (fun p fq W (hg : Gk 30 p T fq W) => rdo_any p fq T body W (by omega) hg op)
          obtain ⟨r, hr⟩ : ∃ r, T.doo op (sb body) = r := ⟨_, rfl⟩
          rw [hr] at HD HE
          obtain ⟨T', bs⟩ := r
          have HD2 : Hid (∀ p fq W, Gk 63 p T fq W → Calls Try.prog 12 #[.pointer (some ⟨p, 0, none⟩), .int .i64 op, .string body] W fun e w' => e = .returned (.string ⟨bs.toArray⟩) ∧ Gw 63 p W fq T' w') := hid HD.out
          have HE2 : Hid (∀ p fq W, Gk 30 p T fq W → Calls Try.prog 13 #[.pointer (some ⟨p, 0, none⟩), .int .i64 op, .string body] W fun e w' => e = .returned (.string ⟨bs.toArray⟩) ∧ Gw 30 p W fq T' w') := hid HE.out
          have hszi : ¬ (400 : Int) < (body.size : Int) := by omega
          clear HD HE hr hsz
          generalize (⟨bs.toArray⟩ : ByteArray) = ans at *
          go_wp2_with fail
          refine wp_region_held_drew (S := fun w' => Below w.heap.size w w') (by kernel_rfl) HBE.out.drew (fun hH => ?_)
          refine wpAnyH_take (i := 0) (v := .pointer (some ⟨p, 0, none⟩)) rfl (by kernel_rfl) (by kernel_rfl) (by kernel_rfl) (fun _ _ _ h => h) (Or.inl ⟨by kernel_rfl, fun w' hw' => by clear hw' ; go_simp⟩) hH ?_
          simp only [Act.put]
          refine wpAnyH_take (i := 1) (v := .slice (some ⟨ga, o, none⟩) n c) rfl (by kernel_rfl) (by kernel_rfl) (by kernel_rfl) (fun _ _ _ h => h) (Or.inl ⟨by kernel_rfl, fun w' hw' => by clear hw' ; go_simp⟩) hH ?_
          simp only [Act.put]
          refine wpAnyH_take (i := 2) (v := .int .i64 (k : Int)) rfl (by kernel_rfl) (by kernel_rfl) (by kernel_rfl) (fun _ _ _ h => h) (Or.inl ⟨by kernel_rfl, fun w' hw' => by clear hw' ; go_simp⟩) hH ?_
          simp only [Act.put]
          refine wpAnyH_take (i := 3) (v := .pointer (some ⟨ga, o + k * 2, none⟩)) rfl (by kernel_rfl) (by kernel_rfl) (by kernel_rfl) (fun _ _ _ h => h) (Or.inl ⟨by kernel_rfl, fun w' hw' => by clear hw' ; go_simp⟩) hH ?_
          simp only [Act.put]
          refine wpAnyH_take (i := 4) (v := .pointer (some ⟨ga, o + k * 2, none⟩)) rfl (by kernel_rfl) (by kernel_rfl) (by kernel_rfl) (fun _ _ _ h => h) (Or.inl ⟨by kernel_rfl, fun w' hw' => by clear hw' ; go_simp⟩) hH ?_
          simp only [Act.put]
          refine wpAnyH_take (i := 5) (v := .int .i64 op) rfl (by kernel_rfl) (by kernel_rfl) (by kernel_rfl) (fun _ _ _ h => h) (Or.inl ⟨by kernel_rfl, fun w' hw' => by have h := HC0'.out w' hw'; go_simp⟩) hH ?_
          simp only [Act.put]
          refine wpAnyH_take (i := 6) (v := .slice (some ⟨ga, o, none⟩) n c) rfl (by kernel_rfl) (by kernel_rfl) (by kernel_rfl) (fun _ _ _ h => h) (Or.inl ⟨by kernel_rfl, fun w' hw' => by clear hw' ; go_simp⟩) hH ?_
          simp only [Act.put]
          refine wpAnyH_take (i := 7) (v := .int .i64 (k : Int)) rfl (by kernel_rfl) (by kernel_rfl) (by kernel_rfl) (fun _ _ _ h => h) (Or.inl ⟨by kernel_rfl, fun w' hw' => by clear hw' ; go_simp⟩) hH ?_
          simp only [Act.put]
          refine wpAnyH_take (i := 8) (v := .pointer (some ⟨ga, o + k * 2, none⟩)) rfl (by kernel_rfl) (by kernel_rfl) (by kernel_rfl) (fun _ _ _ h => h) (Or.inl ⟨by kernel_rfl, fun w' hw' => by clear hw' ; go_simp⟩) hH ?_
          simp only [Act.put]
          refine wpAnyH_take (i := 9) (v := .pointer (some ⟨ga, o + k * 2 + 1, none⟩)) rfl (by kernel_rfl) (by kernel_rfl) (by kernel_rfl) (fun _ _ _ h => h) (Or.inl ⟨by kernel_rfl, fun w' hw' => by clear hw' ; go_simp⟩) hH ?_
          simp only [Act.put]
          refine wpAnyH_take (i := 10) (v := .string body) rfl (by kernel_rfl) (by kernel_rfl) (by kernel_rfl) (fun _ _ _ h => h) (Or.inl ⟨by kernel_rfl, fun w' hw' => by have h := HC1'.out w' hw'; go_simp⟩) hH ?_
          simp only [Act.put]
          refine wpAnyH_take (i := 12) (v := .pointer (some ⟨q, 0, none⟩)) rfl (by kernel_rfl) (by kernel_rfl) (by kernel_rfl) (fun _ _ _ h => h) (Or.inl ⟨by kernel_rfl, fun w' hw' => by clear hw' ; go_simp⟩) hH ?_
          simp only [Act.put]
          refine wpAnyH_take (i := 13) (v := .slice (some ⟨ga, o, none⟩) n c) rfl (by kernel_rfl) (by kernel_rfl) (by kernel_rfl) (fun _ _ _ h => h) (Or.inl ⟨by kernel_rfl, fun w' hw' => by clear hw' ; go_simp⟩) hH ?_
          simp only [Act.put]
          refine wpAnyH_take (i := 14) (v := .int .i64 (k : Int)) rfl (by kernel_rfl) (by kernel_rfl) (by kernel_rfl) (fun _ _ _ h => h) (Or.inl ⟨by kernel_rfl, fun w' hw' => by clear hw' ; go_simp⟩) hH ?_
          simp only [Act.put]
          refine wpAnyH_take (i := 15) (v := .pointer (some ⟨ga, o + k * 2, none⟩)) rfl (by kernel_rfl) (by kernel_rfl) (by kernel_rfl) (fun _ _ _ h => h) (Or.inl ⟨by kernel_rfl, fun w' hw' => by clear hw' ; go_simp⟩) hH ?_
          simp only [Act.put]
          refine wpAnyH_take (i := 16) (v := .pointer (some ⟨ga, o + k * 2, none⟩)) rfl (by kernel_rfl) (by kernel_rfl) (by kernel_rfl) (fun _ _ _ h => h) (Or.inl ⟨by kernel_rfl, fun w' hw' => by clear hw' ; go_simp⟩) hH ?_
          simp only [Act.put]
          refine wpAnyH_take (i := 17) (v := .int .i64 op) rfl (by kernel_rfl) (by kernel_rfl) (by kernel_rfl) (fun _ _ _ h => h) (Or.inl ⟨by kernel_rfl, fun w' hw' => by have h := HC0'.out w' hw'; go_simp⟩) hH ?_
          simp only [Act.put]
          refine wpAnyH_take (i := 18) (v := .slice (some ⟨ga, o, none⟩) n c) rfl (by kernel_rfl) (by kernel_rfl) (by kernel_rfl) (fun _ _ _ h => h) (Or.inl ⟨by kernel_rfl, fun w' hw' => by clear hw' ; go_simp⟩) hH ?_
          simp only [Act.put]
          refine wpAnyH_take (i := 19) (v := .int .i64 (k : Int)) rfl (by kernel_rfl) (by kernel_rfl) (by kernel_rfl) (fun _ _ _ h => h) (Or.inl ⟨by kernel_rfl, fun w' hw' => by clear hw' ; go_simp⟩) hH ?_
          simp only [Act.put]
          refine wpAnyH_take (i := 20) (v := .pointer (some ⟨ga, o + k * 2, none⟩)) rfl (by kernel_rfl) (by kernel_rfl) (by kernel_rfl) (fun _ _ _ h => h) (Or.inl ⟨by kernel_rfl, fun w' hw' => by clear hw' ; go_simp⟩) hH ?_
          simp only [Act.put]
          refine wpAnyH_take (i := 21) (v := .pointer (some ⟨ga, o + k * 2 + 1, none⟩)) rfl (by kernel_rfl) (by kernel_rfl) (by kernel_rfl) (fun _ _ _ h => h) (Or.inl ⟨by kernel_rfl, fun w' hw' => by clear hw' ; go_simp⟩) hH ?_
          simp only [Act.put]
          refine wpAnyH_take (i := 22) (v := .string body) rfl (by kernel_rfl) (by kernel_rfl) (by kernel_rfl) (fun _ _ _ h => h) (Or.inl ⟨by kernel_rfl, fun w' hw' => by have h := HC1'.out w' hw'; go_simp⟩) hH ?_
          simp only [Act.put]
          replace HT := hid (HT.out.drewN 1)
          refine wpAnyH_ready (rs := [11]) (by kernel_rfl) (by simp) ?_
          refine AllReadyH.cons rfl (fun K hK => ?_) AllReadyH.nil
          rw [if_pos (by kernel_rfl)]
          go_simp
          go_at_call 12
          refine (HT.out.call1 (fun fp hk => HD2.out p fp _ hk)).mono ?_
          rintro e w7 ⟨rfl, htk⟩
          replace HT := hid htk
          clear htk
          go_wp2_with fail
          refine hK.out _ _ HT.out.frame (fun hH => ?_)
          clear hK K
          try simp only [Act.put]
          refine wpAnyH_ready (rs := [23]) (by kernel_rfl) (by simp) ?_
          refine AllReadyH.cons rfl (fun K hK => ?_) AllReadyH.nil
          rw [if_pos (by kernel_rfl)]
          go_simp
          go_at_call 13
          refine (HT.out.call2 (fun fp hk => HE2.out q fp _ hk)).mono ?_
          rintro e w8 ⟨rfl, htk⟩
          replace HT := hid htk
          clear htk
          go_wp2_with fail
          refine hK.out _ _ HT.out.frame (fun hH => ?_)
          clear hK K
          try simp only [Act.put]
          refine wpAnyH_take (i := 24) (v := .bool false) rfl (by kernel_rfl) (by kernel_rfl) (by kernel_rfl) (fun _ _ _ h => h) (Or.inl ⟨by kernel_rfl, fun w' hw' => by clear hw' ; go_simp⟩) hH ?_
          simp only [Act.put]
          refine wpAnyH_take (i := 25) (v := .bool false) rfl (by kernel_rfl) (by kernel_rfl) (by kernel_rfl) (fun _ _ _ h => h) (Or.inl ⟨by kernel_rfl, fun w' hw' => by clear hw' ; go_simp⟩) hH ?_
          simp only [Act.put]
          clear hH HD2 HE2 HC0' HC1' HBE
          have hbe8 := HT.out.frame
          refine wpAnyH_keep (S' := Kp w8) (fun W hW => hbe8.trans (Below.mono hW hbe8.size)) _ _ _ _ ?_
          have hH := Kp.refl w8
          have HTE := hid (fun W (hW : Kp w8 W) => HT.out.below hW)
          clear hbe8
          obtain ⟨fa, fb, ⟨va, vt, -, hp⟩, ⟨ua, ut, -, hq⟩, -, -, -, hfr⟩ := HT.out
          obtain ⟨Aq, cq, eua, hcq, -⟩ := hq.va_shape
          obtain ⟨Tq, dq, eut, hdq, -⟩ := hq.vt_shape
          subst eua eut
          have HC0 := hid (fun W (hW : Kp w8 W) => (hq.below hW).c0)
          have HC1 := hid (fun W (hW : Kp w8 W) => (hq.below hW).c1)
          have HPP := hid (fun W (hW : Kp w8 W) => pack_any p va vt T' W (hp.below hW))
          have HPQ := hid (fun W (hW : Kp w8 W) => rpack_any q _ _ T' W (hq.below hW))
          generalize T'.pack = pk at *
          generalize (⟨pk.toArray⟩ : ByteArray) = pks at *
          have HAC := hid (fun W (hW : Kp w8 W) => alla_any p va vt T' W (hp.below hW))
          have HTR := hid (fun W (hW : Kp w8 W) => allt_any p va vt T' W (hp.below hW))
          have HQA := hid (fun W (hW : Kp w8 W) => (own_rd (hq.below hW).accs))
          have HQT := hid (fun W (hW : Kp w8 W) => (own_rd (hq.below hW).trs))
          have hb8 := hp.wf.la
          have hb16 := hp.wf.lt
          have HSA : Hid (∀ A c W, Rd W W.heap.size A (rows Ac.cells T'.A) → T'.A.length ≤ c → Kp w8 W → Calls Try.prog 14 #[.slice A T'.A.length c, .slice Aq T'.A.length cq] W (VE W (.bool true))) := hid (fun A c W hr hc hW => by
            obtain ⟨A', c', e, _, hrd⟩ := HQA.out W hW
            simp only [Value.slice.injEq, true_and] at e
            obtain ⟨rfl, rfl⟩ := e
            exact samea_any A Aq T'.A T'.A.length c cq W.heap.size W hr hrd rfl hc hcq (Nat.le_refl _) (by omega))
          have HST : Hid (∀ A c W, Rd W W.heap.size A (rows Tr.cells T'.T) → T'.T.length ≤ c → Kp w8 W → Calls Try.prog 16 #[.slice A T'.T.length c, .slice Tq T'.T.length dq] W (VE W (.bool true))) := hid (fun A c W hr hc hW => by
            obtain ⟨A', c', e, _, hrd⟩ := HQT.out W hW
            simp only [Value.slice.injEq, true_and] at e
            obtain ⟨rfl, rfl⟩ := e
            exact samet_any A Tq T'.T T'.T.length c dq W.heap.size W hr hrd rfl hc hdq (Nat.le_refl _) (by omega))
          clear hp hq hfr HQA HQT HT HR HN
          -- CUT1
          refine wpAnyH_take (i := 26) (v := .pointer (some ⟨p, 0, none⟩)) rfl (by kernel_rfl) (by kernel_rfl) (by kernel_rfl) (fun _ _ _ h => h) (Or.inl ⟨by kernel_rfl, fun w' hw' => by clear hw' ; go_simp⟩) hH ?_
          simp only [Act.put]
          refine wpAnyH_take (i := 28) (v := .pointer (some ⟨q, 0, none⟩)) rfl (by kernel_rfl) (by kernel_rfl) (by kernel_rfl) (fun _ _ _ h => h) (Or.inl ⟨by kernel_rfl, fun w' hw' => by clear hw' ; go_simp⟩) hH ?_
          simp only [Act.put]
          refine wpAnyH_take (i := 29) (v := .pointer (some ⟨q, 0, none⟩)) rfl (by kernel_rfl) (by kernel_rfl) (by kernel_rfl) (fun _ _ _ h => h) (Or.inl ⟨by kernel_rfl, fun w' hw' => by clear hw' ; go_simp⟩) hH ?_
          simp only [Act.put]
          refine wpAnyH_take (i := 30) (v := .pointer (some ⟨q, 0, none⟩)) rfl (by kernel_rfl) (by kernel_rfl) (by kernel_rfl) (fun _ _ _ h => h) (Or.inl ⟨by kernel_rfl, fun w' hw' => by clear hw' ; go_simp⟩) hH ?_
          simp only [Act.put]
          refine wpAnyH_take (i := 31) (v := .slice Aq T'.A.length cq) rfl (by kernel_rfl) (by kernel_rfl) (by kernel_rfl) (fun _ _ _ h => h) (Or.inl ⟨by kernel_rfl, fun w' hw' => by have h := HC0.out w' hw'; go_simp⟩) hH ?_
          simp only [Act.put]
          refine wpAnyH_ready (rs := [27]) (by kernel_rfl) (by simp) ?_
          refine AllReadyH.cons rfl (fun K hK => ?_) AllReadyH.nil
          rw [if_pos (by kernel_rfl)]
          go_simp
          go_at_call 15
          refine (HAC.out _ hH).mono ?_
          rintro e w11 ⟨A1, c1, rfl, hc1x, hrd1, hb11, -⟩
          have HR1 := hid hrd1
          have HCC1 := hid hc1x
          clear hrd1 hc1x
          go_wp2_with fail
          refine hK.out _ _ (Kp.call hb11 hH) (fun hH => ?_)
          clear hK K
          try simp only [Act.put]
          -- CUT2
          refine wpAnyH_ready (rs := [32]) (by kernel_rfl) (by simp) ?_
          refine AllReadyH.cons rfl (fun K hK => ?_) AllReadyH.nil
          rw [if_pos (by kernel_rfl)]
          go_simp
          go_at_call 14
          refine (HSA.out _ _ _ HR1.out HCC1.out hH).mono ?_
          rintro e w12 ⟨rfl, hb12⟩
          go_wp2_with fail
          refine hK.out _ _ (Kp.call hb12 hH) (fun hH => ?_)
          clear hK K
          try simp only [Act.put]
          refine wpAnyH_take (i := 33) (v := .bool false) rfl (by kernel_rfl) (by kernel_rfl) (by kernel_rfl) (fun _ _ _ h => h) (Or.inl ⟨by kernel_rfl, fun w' hw' => by clear hw' ; go_simp⟩) hH ?_
          simp only [Act.put]
          refine wpAnyH_take (i := 34) (v := .bool false) rfl (by kernel_rfl) (by kernel_rfl) (by kernel_rfl) (fun _ _ _ h => h) (Or.inl ⟨by kernel_rfl, fun w' hw' => by clear hw' ; go_simp⟩) hH ?_
          simp only [Act.put]
          refine wpAnyH_take (i := 35) (v := .bool false) rfl (by kernel_rfl) (by kernel_rfl) (by kernel_rfl) (fun _ _ _ h => h) (Or.inl ⟨by kernel_rfl, fun w' hw' => by clear hw' ; go_simp⟩) hH ?_
          simp only [Act.put]
          -- CUT3
          refine wpAnyH_take (i := 36) (v := .pointer (some ⟨p, 0, none⟩)) rfl (by kernel_rfl) (by kernel_rfl) (by kernel_rfl) (fun _ _ _ h => h) (Or.inl ⟨by kernel_rfl, fun w' hw' => by clear hw' ; go_simp⟩) hH ?_
          simp only [Act.put]
          refine wpAnyH_take (i := 38) (v := .pointer (some ⟨q, 0, none⟩)) rfl (by kernel_rfl) (by kernel_rfl) (by kernel_rfl) (fun _ _ _ h => h) (Or.inl ⟨by kernel_rfl, fun w' hw' => by clear hw' ; go_simp⟩) hH ?_
          simp only [Act.put]
          refine wpAnyH_take (i := 39) (v := .pointer (some ⟨q, 0, none⟩)) rfl (by kernel_rfl) (by kernel_rfl) (by kernel_rfl) (fun _ _ _ h => h) (Or.inl ⟨by kernel_rfl, fun w' hw' => by clear hw' ; go_simp⟩) hH ?_
          simp only [Act.put]
          refine wpAnyH_take (i := 40) (v := .pointer (some ⟨q, 1, none⟩)) rfl (by kernel_rfl) (by kernel_rfl) (by kernel_rfl) (fun _ _ _ h => h) (Or.inl ⟨by kernel_rfl, fun w' hw' => by clear hw' ; go_simp⟩) hH ?_
          simp only [Act.put]
          refine wpAnyH_take (i := 41) (v := .slice Tq T'.T.length dq) rfl (by kernel_rfl) (by kernel_rfl) (by kernel_rfl) (fun _ _ _ h => h) (Or.inl ⟨by kernel_rfl, fun w' hw' => by have h := HC1.out w' hw'; go_simp⟩) hH ?_
          simp only [Act.put]
          refine wpAnyH_ready (rs := [37]) (by kernel_rfl) (by simp) ?_
          refine AllReadyH.cons rfl (fun K hK => ?_) AllReadyH.nil
          rw [if_pos (by kernel_rfl)]
          go_simp
          go_at_call 17
          refine (HTR.out _ hH).mono ?_
          rintro e w13 ⟨A2, c2, rfl, hc2x, hrd2, hb13, -⟩
          have HR2 := hid hrd2
          have HCC2 := hid hc2x
          clear hrd2 hc2x
          go_wp2_with fail
          refine hK.out _ _ (Kp.call hb13 hH) (fun hH => ?_)
          clear hK K
          try simp only [Act.put]
          refine wpAnyH_ready (rs := [42]) (by kernel_rfl) (by simp) ?_
          refine AllReadyH.cons rfl (fun K hK => ?_) AllReadyH.nil
          rw [if_pos (by kernel_rfl)]
          go_simp
          go_at_call 16
          refine (HST.out _ _ _ HR2.out HCC2.out hH).mono ?_
          rintro e w14 ⟨rfl, hb14⟩
          go_wp2_with fail
          refine hK.out _ _ (Kp.call hb14 hH) (fun hH => ?_)
          clear hK K
          try simp only [Act.put]
          refine wpAnyH_take (i := 43) (v := .bool false) rfl (by kernel_rfl) (by kernel_rfl) (by kernel_rfl) (fun _ _ _ h => h) (Or.inl ⟨by kernel_rfl, fun w' hw' => by clear hw' ; go_simp⟩) hH ?_
          simp only [Act.put]
          refine wpAnyH_take (i := 44) (v := .bool false) rfl (by kernel_rfl) (by kernel_rfl) (by kernel_rfl) (fun _ _ _ h => h) (Or.inl ⟨by kernel_rfl, fun w' hw' => by clear hw' ; go_simp⟩) hH ?_
          simp only [Act.put]
          refine wpAnyH_take (i := 45) (v := .bool false) rfl (by kernel_rfl) (by kernel_rfl) (by kernel_rfl) (fun _ _ _ h => h) (Or.inl ⟨by kernel_rfl, fun w' hw' => by clear hw' ; go_simp⟩) hH ?_
          simp only [Act.put]
          refine wpAnyH_take (i := 46) (v := .pointer (some ⟨p, 0, none⟩)) rfl (by kernel_rfl) (by kernel_rfl) (by kernel_rfl) (fun _ _ _ h => h) (Or.inl ⟨by kernel_rfl, fun w' hw' => by clear hw' ; go_simp⟩) hH ?_
          simp only [Act.put]
          refine wpAnyH_take (i := 48) (v := .pointer (some ⟨q, 0, none⟩)) rfl (by kernel_rfl) (by kernel_rfl) (by kernel_rfl) (fun _ _ _ h => h) (Or.inl ⟨by kernel_rfl, fun w' hw' => by clear hw' ; go_simp⟩) hH ?_
          simp only [Act.put]
          -- CUT4
          refine wpAnyH_ready (rs := [47]) (by kernel_rfl) (by simp) ?_
          refine AllReadyH.cons rfl (fun K hK => ?_) AllReadyH.nil
          rw [if_pos (by kernel_rfl)]
          go_simp
          go_at_call 18
          refine (HPP.out _ hH).mono ?_
          rintro e w15 ⟨rfl, hb15⟩
          go_wp2_with fail
          refine hK.out _ _ (Kp.call hb15 hH) (fun hH => ?_)
          clear hK K
          try simp only [Act.put]
          refine wpAnyH_ready (rs := [49]) (by kernel_rfl) (by simp) ?_
          refine AllReadyH.cons rfl (fun K hK => ?_) AllReadyH.nil
          rw [if_pos (by kernel_rfl)]
          go_simp
          go_at_call 19
          refine (HPQ.out _ hH).mono ?_
          rintro e w16 ⟨rfl, hb16x⟩
          go_wp2_with fail
          refine hK.out _ _ (Kp.call hb16x hH) (fun hH => ?_)
          clear hK K
          try simp only [Act.put]
          refine wpAnyH_take (i := 50) (v := .bool false) rfl (by kernel_rfl) (by kernel_rfl) (by kernel_rfl) (fun _ _ _ h => h) (Or.inl ⟨by kernel_rfl, fun w' hw' => by clear hw' ; go_simp⟩) hH ?_
          simp only [Act.put]
          refine wpAnyH_take (i := 51) (v := .bool false) rfl (by kernel_rfl) (by kernel_rfl) (by kernel_rfl) (fun _ _ _ h => h) (Or.inl ⟨by kernel_rfl, fun w' hw' => by clear hw' ; go_simp⟩) hH ?_
          simp only [Act.put]
          refine wpAnyH_done (by kernel_rfl) ?_ _
          try simp only [Act.put]
          have HTF := hid (HTE.out _ hH)
          clear hH HTE HC0 HC1 HPP HPQ HAC HTR HSA HST
          go_wp2_with fail
          go_roundw
          case rel => exact ⟨k + 1, T', by omega, by omega, by go_num, HTF.out⟩
          case measure => simp [intOf]; omega
        · have hszi : (400 : Int) < (body.size : Int) := by omega
          clear hsz
          go_wp2_with fail
          go_roundw
          case rel => exact ⟨k + 1, T, by omega, by omega, by go_num, HT.out⟩
          case measure => simp [intOf]; omega
      · obtain rfl : k = 60 := by omega
        have hi1 : (60 : Int) < (n : Int) := by omega
        clear htk HTK
        go_wp2_with fail
        go_ret
        exact ⟨rfl, HT.out.frame⟩
    · have hi1 : ¬ (k : Int) < (n : Int) := by omega
      clear htk HTK
      go_wp2_with fail
      go_ret
      exact ⟨rfl, HT.out.frame⟩
end Go.Proofs.Ytbofabmgfkploaa
