/-
  The walk of MachinePlays.
-/
import Derived.Test.YtgednnjmcjhfmaaGreatDoorM02
import Derived.Test.YtgednnjmcjhfmaaGreatDoorM28
import Derived.Test.YtgednnjmcjhfmaaGreatDoorM31
import Derived.Test.YtgednnjmcjhfmaaGreatDoorM27
import Derived.Test.YtgednnjmcjhfmaaGreatDoorM30
import Derived.Test.YtgednnjmcjhfmaaGreatDoorM19
import Derived.Test.YtgednnjmcjhfmaaGreatDoorM12
import Derived.Deep.CutRange
import Derived.Deep.DeepCutAuto
import Derived.BigQuiet
import Derived.Deep.RegionHeld
namespace Go.Proofs.YtgednnjmcjhfmaaGreatDoor
open Go.RowKit
set_option maxRecDepth 10000
set_option maxHeartbeats 80000000

theorem wp_store_st {P : Program} {o : Oper} {a : Act} {w : World} {K : Act → World → Prop} {Q : Exit → Act → World → Prop} {T : TypeId} (x y : Operand) (ho : o.op = .store T x y) {n : Nat} (hn : (P.info? T).map (·.size) = some n)
  (g : Nat) (cs0 cs : Array Value) (hx : a.eval x = .pointer (some ⟨g, 0, none⟩)) (hy : a.eval y = .agg cs) (hrow : Row w g T cs0.toList) (h0 : cs0.size = n) (h1 : cs.size = n) (hone : cs.all (·.oneCell') = true)
  (hK : ∀ w', Row w' g T cs.toList → w.grownBy w' (some g) → K (a.put o.dst undef) w') : o.wp P a w K Q :=
 wp_store_row T x y ho g cs hx hy T cs0 hrow.arr (by rw [hn, h1]) (by simp [h0, h1]) (by simpa using hone)
  (hK _ (by
   have := setRow_heap w g cs0 cs T (0, 0) hrow.arr
   simpa [Row] using this) (grownBy_setRow w g _))
theorem la1 {α : Type} {xs : List α} {i : Nat} (h : i < xs.toArray.size) : xs.toArray[i] = xs[i]'(by simpa using h) := List.getElem_toArray h
theorem la2 {α : Type} (a : α) (xs : List α) (i : Nat) (h : i + 1 < (a :: xs).length) : (a :: xs)[i + 1] = xs[i]'(by simpa using h) := List.getElem_cons_succ a xs i h
theorem la3 {α : Type} (a : α) (xs : List α) (h : 0 < (a :: xs).length) : (a :: xs)[0] = a := rfl
theorem la4 {α : Type} (l : List α) (i : Nat) (a : α) : l.toArray.setIfInBounds i a = (l.set i a).toArray := List.setIfInBounds_toArray ..
theorem la5 {α : Type} {x : α} {xs : List α} {n : Nat} {a : α} : (x :: xs).set (n + 1) a = x :: xs.set n a := rfl
theorem la6 {α : Type} {x : α} {xs : List α} {a : α} : (x :: xs).set 0 a = a :: xs := rfl
/-- a struct held against itself, in a region that draws its order -/
theorem yields_neX {ops : Array Oper} {o : Oper} {a : Act} {S : World → Prop} {T : TypeId} {X : Array Value} (hEG : Tryz.prog.eqGuardType Tryz.prog.depth T = false) (hE : ∀ W, (Op.equalIn 10000 T (.agg X) (.agg X)).run Tryz.prog W = .ok true W)
  (hw : Region.wanted o (yielded ops a.tmps) = true) (x y : Operand) (ty : TypeId) (ho : o.op = .binOp .neq T x y ty) (hx : a.eval x = .agg X) (hy : a.eval y = .agg X) : YieldsIf Tryz.prog ops S o (.bool false) a :=
 .inl ⟨hw, fun w _ => by
  have hE := hE w
  unfold execOp
  simp [ho, hx, hy, eqGuard, hEG, binOp, Op.equal, Op.maxDepth, hE, Result.andThen]⟩
def PW (wo : World) (p q : Nat) (S : Ma) (R : List (Nat × List Value)) (w : World) : Prop := Tg wo KP p S KR q S (R.map (·.1)) w ∧ ∀ x ∈ R, Row w x.1 33 x.2
section
variable {wo w w' : World} {p q g : Nat} {S : Ma} {R : List (Nat × List Value)} {x : Nat × List Value} {C : List Value}
theorem PW.below (h : PW wo p q S R w) (hb : Below w.heap.size w w') : PW wo p q S R w' := ⟨h.1.below hb, fun x hx => (h.2 x hx).below hb (h.2 x hx).lt⟩
theorem PW.drew (h : PW wo p q S R w) : PW wo p q S R w.drew := h.below ((Below.refl w.heap.size w).drew)
theorem PW.add (h : PW wo p q S R w) (hb : Below w.heap.size w w') (hg : w.heap.size ≤ g) (hr : Row w' g 33 C) : PW wo p q S ((g, C) :: R) w' := ⟨h.1.add hb hg hr.lt, fun x hx => by
 rcases List.mem_cons.1 hx with rfl | hx
 ·
  exact hr
 ·
  exact (h.below hb).2 x hx⟩
theorem PW.sub1 (h : PW wo p q S (x :: R) w) : PW wo p q S R w := ⟨h.1.sub (fun _ hg => List.mem_cons_of_mem _ hg), fun y hy => h.2 y (List.mem_cons_of_mem _ hy)⟩
end
theorem mplays_law (A : Option Addr) (n c : Nat) (XS : List En) (b : Bool) (w : World) (hf : Fd w) (hn : n = XS.length) (_hc : n ≤ c) (hm : n ≤ 9223372036854775807) (hR : Rd w w.heap.size A (rows En.cl XS)) (hX : ∀ X ∈ XS, X.good) : Calls Tryz.prog 3 #[.slice A n c, .bool b] w (Yes w) := by
 have HAW := hid (fun W hW => mawake_any W hW)
 obtain ⟨m, hmin⟩ : ∃ m : Nat, (n ≤ 60 ∧ m = n) ∨ (60 < n ∧ m = 60) := by
  rcases Nat.lt_or_ge 60 n with h | h
  ·
   exact ⟨60, .inr ⟨h, rfl⟩⟩
  ·
   exact ⟨n, .inl ⟨h, rfl⟩⟩
 have hmn : m ≤ n ∧ m ≤ 60 := by omega
 have hYl : m = (XS.take m).length := by rw [List.length_take]; omega
 have hYR : Rd w w.heap.size A (rows En.cl (XS.take m)) := by rw [rows_take En.cl_len]; exact hR.take _
 have hYX : ∀ X ∈ XS.take m, X.good := fun X hX' => hX X (List.mem_of_mem_take hX')
 have HMC := hid (show m ≤ c by omega)
 have HM6 := hid hmn.2
 have HMN := hid hmin
 have HNC := hid _hc
 have HNB := hid hm
 generalize XS.take m = YS at *
 have HPU := hid (fun W (hW : Below w.heap.size w W) => put_law A YS m c W (hf.below hW hf.1) ((hYR.below hW (Nat.le_refl _)).more hW.size) hYl (by omega) hYX)
 have HPG := hid (put_good YS hYX)
 have HNW := hid (fun W => mnew_any W)
 have HNR := hid (fun W => rnewm_any W)
 have HF := hid hf
 have HYR := hid hYR
 have HYX := hid hYX
 have HYL := hid hYl
 have HZE := hid esize
 have HZ := hid asize
 clear hf hn hR hX hmin hmn hYl hYR hYX hm _hc
 go_enter Tryz.func3, Tryz.ntmps3
 go_upto_region 3 with (first
  | (go_at_call 4; refine (HAW.out _ HF.out).mono ?_; rintro e wa ⟨rfl, hx⟩; have HBA := hid hx; clear hx))
 go_cut [0] from 16 to 211 (fun v W => v = .slice A m c ∧ Below w.heap.size w W)
 case first =>
  as_aux_lemma =>
   have hnc := HNC.out
   have hnb := HNB.out
   rcases HMN.out with ⟨h1, rfl⟩ | ⟨h1, rfl⟩
   ·
    have hi2 : (m : Int) ≤ 60 := by omega
    have hi3 : ¬ (60 : Int) < (m : Int) := by omega
    have hi4 : min (m : Int) 60 = m := by omega
    go_wp2_with fail
    go_meet
    case rel => exact ⟨rfl, HBA.out⟩
   ·
    have hi2 : ¬ (n : Int) ≤ 60 := by omega
    have hi3 : (60 : Int) < (n : Int) := by omega
    have hi4 : min (n : Int) 60 = 60 := by omega
    have hi5 : ¬ (n : Int) < 60 := by omega
    have hi6 : 60 ≤ c := by omega
    go_wp2_with fail
    go_meet
    case rel => exact ⟨rfl, HBA.out⟩
 case rest =>
  as_aux_lemma =>
   obtain ⟨rfl, hba⟩ := hcut
   have HBB := hid hba
   clear hba HBA HMN HNC HNB
   go_upto_if 23 with fail
   go_cut [0] from 16 to 211 (fun v W => ∃ A1 c1 L, v = .slice A1 L.length c1 ∧ L.length ≤ c1 ∧ Rd W W.heap.size A1 (rows En.cl L) ∧ (∀ e ∈ L, e.good) ∧ L.length ≤ 60 ∧ Below w.heap.size w W)
   case first =>
    as_aux_lemma =>
     cases b with
     | false =>
      go_wp2_with fail
      go_meet
      case rel => exact ⟨A, c, YS, by rw [← HYL.out], by rw [← HYL.out]; exact HMC.out, (HYR.out.below HBB.out (Nat.le_refl _)).more HBB.out.size, HYX.out, by rw [← HYL.out]; exact HM6.out, HBB.out⟩
     | true =>
      go_wp2_with (go_at_call 5; refine (HPU.out _ HBB.out).mono ?_; rintro e w1 ⟨A1, c1, rfl, hc1, hr1, hx, -⟩; have HC1 := hid hc1; have HR1 := hid hr1; have HB1 := hid (HBB.out.trans (hx.mono HBB.out.size)); clear hx hr1 hc1)
      go_meet
      case rel => exact ⟨A1, c1, put YS, rfl, HC1.out, HR1.out, HPG.out.1, HPG.out.2, HB1.out⟩
   case rest =>
    as_aux_lemma =>
     obtain ⟨A1, c1, L, rfl, hc1, hr1, hg, h60, hb1⟩ := hcut
     obtain ⟨wo, hwo⟩ : ∃ W, W = wc := ⟨_, rfl⟩
     subst hwo
     have HR1 := hid hr1
     have HB1 := hid hb1
     have HG := hid hg
     have HC1 := hid hc1
     have HF1 := hid (HF.out.below HB1.out HF.out.1)
     obtain ⟨nl, hnl⟩ : ∃ nl, nl = L.length := ⟨_, rfl⟩
     have HNL := hid hnl
     rw [← hnl] at hc1 h60 ⊢
     have H60 := hid h60
     clear hr1 hb1 hg hc1 h60 hnl HPU HPG HYR HYX HYL HMC HM6 HAW HBB
     go_wp2_with (first
      | (go_at_call 6; refine (HNW.out _).mono ?_; rintro e w2 ⟨p, fp, rfl, hk, hfp, hx⟩; have HS := hid (Sg.mk' (w0 := wo) (Below.refl _ _) hk hfp hx); clear hk hfp hx)
      | (go_at_call 7; refine (HNR.out _).mono ?_; rintro e w3 ⟨q, fq, rfl, hk, hfq, hx⟩; have HT := hid (HS.out.two hx hk hfq); clear hk hfq hx))
     have HC1 : Hid (nl ≤ c1) := hid (by rw [HNL.out]; exact HC1.out)
     clear HNW HNR HF
     go_loopw [7] (fun iv wr => ∃ (k : Nat) (S : Ma), k ≤ nl ∧ iv = .int .i64 (k : Int) ∧ S.WF ∧ Tg wo KP p S KR q S [] wr) (fun iv _ => nl - (intOf iv).toNat)
     case atStart => exact ⟨0, ma0, by omega, rfl, ma0_wf, HT.out⟩
     case round =>
      as_aux_lemma =>
       clear HT HS
       obtain ⟨k, S, hk, rfl, hwf, htr⟩ := hrel
       have HTR := hid htr
       clear htr
       by_cases hlt : k < nl
       ·
        have hkl : k < L.length := by rw [← HNL.out]; exact hlt
        obtain ⟨ga, o, rfl⟩ := shape_of HR1.out En.cl_len (by decide) (by omega)
        have HRX := hid (fun W (hW : Below wo.heap.size wo W) => range_of (HR1.out.below hW (Nat.le_refl _)) En.cl_len hkl)
        obtain ⟨hfit, hbs⟩ := HG.out _ (List.getElem_mem hkl)
        have hi0 : (0 : Int) ≤ (k : Int) := by omega
        have hi1 : (k : Int) < (nl : Int) := by omega
        generalize L[k] = X at *
        have HE4 : Hid (∀ W, Below wo.heap.size wo W → W.cell? ⟨ga, o + k * 9 + 4, none⟩ = some (.int .i64 X.client)) := hid fun W hW => HRX.out W hW 4 _ rfl
        have HE5 : Hid (∀ W, Below wo.heap.size wo W → W.cell? ⟨ga, o + k * 9 + 5, none⟩ = some (.int .i64 X.session)) := hid fun W hW => HRX.out W hW 5 _ rfl
        have HE6 : Hid (∀ W, Below wo.heap.size wo W → W.cell? ⟨ga, o + k * 9 + 6, none⟩ = some (.int .i64 X.request)) := hid fun W hW => HRX.out W hW 6 _ rfl
        have h8 : wr.cell? ⟨ga, o + k * 9 + 8, none⟩ = some (.string X.body) := HRX.out wr HTR.out.frame 8 _ rfl
        by_cases hsz : X.body.size ≤ 5000
        ·
         have hszi : ¬ (5000 : Int) < (X.body.size : Int) := by omega
         have HA := hid (fun fp W hW hk => mapp_any p S fp X W hfit hW hk)
         have HAR := hid (fun fp W hk => rmapp_any q S fp X W hfit hbs hk)
         have HWF := hid (Ma.app_wf hwf hfit)
         have HCA := hid (fun fp W hk => mcac_any p (S.app X) fp X.client X.session X.request W hk)
         have HCR := hid (fun fp W hk => rcac_any q (S.app X) fp X.client X.session X.request W hk)
         have HZX : Hid ((Tryz.prog.info? 31).map (·.size) = some X.cl.toArray.size) := hid (ecells_size X)
         obtain ⟨an, han⟩ : ∃ an, an = S.appA X := ⟨_, rfl⟩
         rw [← han] at HA HAR
         have HA2 : Hid (∀ fp W, Fd W → Hm KP p S fp W → Calls Tryz.prog 8 #[.pointer (some ⟨p, 0, none⟩), .agg X.cl.toArray] W fun x w' => x = .returned (.tuple #[.agg an.cells, .int .i64 (S.appE X)]) ∧ Hmw KP p W fp (S.app X) w') := hid HA.out
         have HR2 : Hid (∀ fp W, Hm KR q S fp W → Calls Tryz.prog 9 #[.pointer (some ⟨q, 0, none⟩), .agg X.cl.toArray] W fun x w' => x = .returned (.tuple #[.agg an.cells, .int .i64 (S.appE X)]) ∧ Hmw KR q W fp (S.app X) w') := hid HAR.out
         clear HA HAR han hfit hbs hwf
         generalize S.appE X = ev at *
         generalize S.app X = S' at *
         generalize X.client = cl at *
         generalize X.session = se at *
         generalize X.request = rq at *
         generalize S'.cac cl se rq = ca at *
         generalize S'.cacB cl se rq = cb at *
         obtain ⟨ak, acl, asn, arq, aop, ab⟩ := an
         go_upto_region 14 with (first
          | (refine wpList_load_mid rfl 31 (.tmp 45) rfl ga (o + k * 9) rfl X.cl _ (HRX.out _ HTR.out.frame) Tryz.underlying31 rfl HZX.out ?_)
          | (refine wpList_load_mid rfl 31 (.tmp 54) rfl ga (o + k * 9) rfl X.cl _ (HRX.out _ HTB.out.frame) Tryz.underlying31 rfl HZX.out ?_)
          | (go_at_call 9; refine (HTB.out.call2 (fun fp hk => HR2.out fp _ hk)).mono ?_; rintro e w8 ⟨rfl, ht8, hkg⟩; have HTC := hid ht8; have HR8 := hid (hkg.row HR7.out (by simp)); clear ht8 hkg)
          | (refine wpl_store_st rfl (.tmp 8) (.tmp 48) rfl HZ.out w6.heap.size an0.cells.toList [.int .i64 ak, .int .i64 acl, .int .i64 asn, .int .i64 arq, .int .i64 aop, .string ab] rfl rfl (Row.new _ _ _) ?_ (hid rfl) (hid rfl) (hid rfl); intro w7 hr7 hg7; have HR7 := hid hr7; have hb7 := ((Below.refl w6.heap.size w6).alloc (Nat.le_refl _) (.cells an0.cells 33)).trans (below_grown hg7 (Nat.le_refl _) (by simp)); have HTB := hid (HTA.out.add hb7 (Nat.le_refl _) hr7.lt); clear hr7 hg7 hb7)
          | (go_at_call 8; refine (HTR.out.call1 (fun fp hk => HA2.out fp _ (HF1.out.below HTR.out.frame HF1.out.1) hk)).mono ?_; rintro e w6 ⟨rfl, ht6, -⟩; have HTA := hid ht6; clear ht6)
          | (refine wpl_store_st rfl (.tmp 10) (.tmp 57) rfl HZ.out w8.heap.size an0.cells.toList [.int .i64 ak, .int .i64 acl, .int .i64 asn, .int .i64 arq, .int .i64 aop, .string ab] rfl rfl (Row.new _ _ _) ?_ (hid rfl) (hid rfl) (hid rfl); intro w9 hr9 hg9; have HR9 := hid hr9; have hb9 := ((Below.refl w8.heap.size w8).alloc (Nat.le_refl _) (.cells an0.cells 33)).trans (below_grown hg9 (Nat.le_refl _) (by simp)); have HTD := hid (HTC.out.add hb9 (Nat.le_refl _) hr9.lt); have HR8b := hid (HR8.out.below hb9 HR8.out.lt); clear hr9 hg9 hb9))
         obtain ⟨g1, hg1⟩ : ∃ g, g = w6.heap.size := ⟨_, rfl⟩
         obtain ⟨g2, hg2⟩ : ∃ g, g = w8.heap.size := ⟨_, rfl⟩
         rw [← hg1] at HTD HR8b ⊢
         rw [← hg2] at HTD HR9 ⊢
         have HEA0 := hid (fun W => eqAn ⟨ak, acl, asn, arq, aop, ab⟩ W)
         have HEC0 := hid (fun W => eqAn ca W)
         obtain ⟨AN, hAN⟩ : ∃ AN : List Value, AN = [.int .i64 ak, .int .i64 acl, .int .i64 asn, .int .i64 arq, .int .i64 aop, .string ab] := ⟨_, rfl⟩
         rw [← hAN] at HR8b HR9
         have HEA : Hid (∀ W, (Op.equalIn 10000 33 (.agg AN.toArray) (.agg AN.toArray)).run Tryz.prog W = .ok true W) := hid (fun W => by rw [hAN]; exact HEA0.out W)
         have HEC : Hid (∀ W, (Op.equalIn 10000 33 (.agg ca.cells) (.agg ca.cells)).run Tryz.prog W = .ok true W) := HEC0
         have HSZA : Hid ((Tryz.prog.info? 33).map (·.size) = some AN.toArray.toList.length) := hid (by rw [hAN]; exact HZ.out)
         clear HEA0 HEC0
         obtain ⟨wz, hwz⟩ : ∃ W, W = w9 := ⟨_, rfl⟩
         subst hwz
         have HP0 : Hid (PW wo p q S' [(g2, AN), (g1, AN)] wz) := hid ⟨HTD.out, fun x hx => by
          rcases List.mem_cons.1 hx with rfl | hx
          ·
           exact HR9.out
          ·
           rcases List.mem_cons.1 hx with rfl | hx
           ·
            exact HR8b.out
           ·
            cases hx⟩
         have HLT := hid hlt
         have HCA6 := hid (show ca.cells.size = 6 from rfl)
         have HCA1 := hid ca.one
         have HCA : Hid (∀ fp W, Hm KP p S' fp W → Calls Tryz.prog 10 #[.pointer (some ⟨p, 0, none⟩), .int .i64 cl, .int .i64 se, .int .i64 rq] W (VE W (.tuple #[.agg ca.cells, .bool cb]))) := hid HCA.out
         have HCR : Hid (∀ fp W, Hm KR q S' fp W → Calls Tryz.prog 11 #[.pointer (some ⟨q, 0, none⟩), .int .i64 cl, .int .i64 se, .int .i64 rq] W (VE W (.tuple #[.agg ca.cells, .bool cb]))) := hid HCR.out
         generalize ca.cells = CA at *
         clear HTR HTA HTB HTC HTD HR7 HR8 HR8b HR9 hg1 hg2 hsz hszi hlt HA2 HR2 h8 HZX HR1
         go_cut [12, 13] from 28 to 211 (fun v12 v13 wx => ∃ g3, v12 = .pointer (some ⟨g3, 0, none⟩) ∧ v13 = .bool cb ∧ PW wo p q S' [(g3, CA.toList), (g2, AN), (g1, AN)] wx)
         case first =>
          as_aux_lemma =>
           try simp only [Act.put, la1, la2, la3, la4, la5, la6]
           refine wp_region_held_drew (S := fun W => PW wo p q S' [(g2, AN), (g1, AN)] W) (by kernel_rfl) (HP0.out.drew) (fun hH => ?_)
           refine tk_ (i := 0) (v := .pointer (some ⟨p, 0, none⟩)) rfl (Or.inl ⟨by rfl, fun w' hw' => by clear hw'; go_simp⟩) hH ?_
           simp only [Act.put, la1, la3, la4, la5, la6]
           refine tk_ (i := 1) (v := .slice (some ⟨ga, o, none⟩) nl c1) rfl (Or.inl ⟨by rfl, fun w' hw' => by clear hw'; go_simp⟩) hH ?_
           simp only [Act.put, la1, la2, la3, la4, la5, la6]
           refine tk_ (i := 2) (v := .int .i64 (k : Int)) rfl (Or.inl ⟨by rfl, fun w' hw' => by clear hw'; go_simp⟩) hH ?_
           simp only [Act.put, la1, la2, la3, la4, la5, la6]
           refine tk_ (i := 3) (v := .pointer (some ⟨ga, o + k * 9, none⟩)) rfl (Or.inl ⟨by rfl, fun w' hw' => by clear hw'; go_simp⟩) hH ?_
           simp only [Act.put, la1, la2, la3, la4, la5, la6]
           refine tk_ (i := 4) (v := .pointer (some ⟨ga, o + k * 9 + 4, none⟩)) rfl (Or.inl ⟨by rfl, fun w' hw' => by clear hw'; go_simp⟩) hH ?_
           simp only [Act.put, la1, la2, la3, la4, la5, la6]
           refine tk_ (i := 5) (v := .int .i64 cl) rfl (Or.inl ⟨by rfl, fun w' hw' => by have h := HE4.out w' hw'.1.frame; go_simp⟩) hH ?_
           simp only [Act.put, la1, la2, la3, la4, la5, la6]
           refine tk_ (i := 6) (v := .slice (some ⟨ga, o, none⟩) nl c1) rfl (Or.inl ⟨by rfl, fun w' hw' => by clear hw'; go_simp⟩) hH ?_
           simp only [Act.put, la1, la2, la3, la4, la5, la6]
           refine tk_ (i := 7) (v := .int .i64 (k : Int)) rfl (Or.inl ⟨by rfl, fun w' hw' => by clear hw'; go_simp⟩) hH ?_
           simp only [Act.put, la1, la2, la3, la4, la5, la6]
           refine tk_ (i := 8) (v := .pointer (some ⟨ga, o + k * 9, none⟩)) rfl (Or.inl ⟨by rfl, fun w' hw' => by clear hw'; go_simp⟩) hH ?_
           simp only [Act.put, la1, la2, la3, la4, la5, la6]
           refine tk_ (i := 9) (v := .pointer (some ⟨ga, o + k * 9 + 5, none⟩)) rfl (Or.inl ⟨by rfl, fun w' hw' => by clear hw'; go_simp⟩) hH ?_
           simp only [Act.put, la1, la2, la3, la4, la5, la6]
           refine tk_ (i := 10) (v := .int .i64 se) rfl (Or.inl ⟨by rfl, fun w' hw' => by have h := HE5.out w' hw'.1.frame; go_simp⟩) hH ?_
           simp only [Act.put, la1, la2, la3, la4, la5, la6]
           refine tk_ (i := 11) (v := .slice (some ⟨ga, o, none⟩) nl c1) rfl (Or.inl ⟨by rfl, fun w' hw' => by clear hw'; go_simp⟩) hH ?_
           simp only [Act.put, la1, la2, la3, la4, la5, la6]
           refine tk_ (i := 12) (v := .int .i64 (k : Int)) rfl (Or.inl ⟨by rfl, fun w' hw' => by clear hw'; go_simp⟩) hH ?_
           simp only [Act.put, la1, la2, la3, la4, la5, la6]
           refine tk_ (i := 13) (v := .pointer (some ⟨ga, o + k * 9, none⟩)) rfl (Or.inl ⟨by rfl, fun w' hw' => by clear hw'; go_simp⟩) hH ?_
           simp only [Act.put, la1, la2, la3, la4, la5, la6]
           refine tk_ (i := 14) (v := .pointer (some ⟨ga, o + k * 9 + 6, none⟩)) rfl (Or.inl ⟨by rfl, fun w' hw' => by clear hw'; go_simp⟩) hH ?_
           simp only [Act.put, la1, la2, la3, la4, la5, la6]
           refine tk_ (i := 15) (v := .int .i64 rq) rfl (Or.inl ⟨by rfl, fun w' hw' => by have h := HE6.out w' hw'.1.frame; go_simp⟩) hH ?_
           simp only [Act.put, la1, la2, la3, la4, la5, la6]
           refine wpAnyH_ready (rs := [16, 20]) (by kernel_rfl) (by simp) ?_
           refine AllReadyH.cons rfl (fun K hK => ?_) (AllReadyH.cons rfl (fun K hK => ?_) AllReadyH.nil)
           ·
            as_aux_lemma =>
             go_simp
             go_at_call 10
             refine (hH.1.fst.look (fun fp hk => HCA.out fp _ hk)).mono ?_
             rintro e w13 ⟨rfl, hb13⟩
             have B13 := hid ((Below.drew (Below.refl wz.heap.size wz)).trans (hb13.mono (Nat.le_refl _)))
             clear hb13
             go_wp2_with fail
             refine hK.out _ _ (HP0.out.below B13.out) (fun hH => ?_)
             clear hK K
             try simp only [Act.put, la1, la2, la3, la4, la5, la6]
             refine tk_ (i := 17) (v := .tuple #[.agg CA, .bool cb]) rfl (Or.inl ⟨by rfl, fun w' hw' => by clear hw'; go_simp⟩) hH ?_
             simp only [Act.put, la1, la2, la3, la4, la5, la6]
             refine tk_ (i := 18) (v := .agg CA) rfl (Or.inl ⟨by rfl, fun w' hw' => by clear hw'; go_simp⟩) hH ?_
             simp only [Act.put, la1, la2, la3, la4, la5, la6]
             refine wpAnyH_ready (rs := [19, 20]) (by kernel_rfl) (by simp) ?_
             refine AllReadyH.cons rfl (fun K hK => ?_) (AllReadyH.cons rfl (fun K hK => ?_) AllReadyH.nil)
             ·
              as_aux_lemma =>
               go_simp
               refine hK.out _ _ hH (fun hH => ?_)
               clear hK K
               try simp only [Act.put, la1, la2, la3, la4, la5, la6]
               refine rd1 (i := 20) (by kernel_rfl) rfl (fun K hK => ?_)
               go_simp
               have B14 := hid (B13.out.alloc B13.out.size (.cells an0.cells 33))
               refine hK.out _ _ (HP0.out.below B14.out) (fun hH => ?_)
               clear hK K
               try simp only [Act.put, la1, la2, la3, la4, la5, la6]
               refine rd1 (i := 21) (by kernel_rfl) rfl (fun K hK => ?_)
               rw [if_pos (by kernel_rfl)]
               refine wp_store_st (.tmp 12) (.tmp 77) rfl HZ.out w13.heap.size an0.cells CA (by kernel_rfl) (by kernel_rfl) (Row.new _ _ _) rfl (HCA6.out) HCA1.out (fun w6 hr6 hg6 => ?_)
               have HP6 := hid (HP0.out.add (B14.out.trans (below_grown hg6 B13.out.size B14.out.size)) (B13.out.size) hr6)
               clear hr6 hg6
               refine hK.out _ _ HP6.out.sub1 (fun hH => ?_)
               clear hK K
               try simp only [Act.put, la1, la2, la3]
               refine rd1 (i := 22) (by kernel_rfl) rfl (fun K hK => ?_)
               go_simp
               refine hK.out _ _ (hH) (fun hH => ?_)
               clear hK K
               try simp only [Act.put, la1, la2, la3, la4, la5, la6]
               refine wpAnyH_done (by kernel_rfl) ?_ _
               try simp only [Act.put, la1, la2, la3, la4, la5, la6]
               go_wp2_with fail
               go_meet
               case rel => exact ⟨_, rfl, rfl, HP6.out⟩
             ·
              as_aux_lemma =>
               go_simp
               have B14 := hid (B13.out.alloc B13.out.size (.cells an0.cells 33))
               refine hK.out _ _ (HP0.out.below B14.out) (fun hH => ?_)
               clear hK K
               try simp only [Act.put, la1, la2, la3, la4, la5, la6]
               refine wpAnyH_ready (rs := [19, 21]) (by kernel_rfl) (by simp) ?_
               refine AllReadyH.cons rfl (fun K hK => ?_) (AllReadyH.cons rfl (fun K hK => ?_) AllReadyH.nil)
               ·
                as_aux_lemma =>
                 go_simp
                 refine hK.out _ _ hH (fun hH => ?_)
                 clear hK K
                 try simp only [Act.put, la1, la2, la3, la4, la5, la6]
                 refine rd1 (i := 21) (by kernel_rfl) rfl (fun K hK => ?_)
                 rw [if_pos (by kernel_rfl)]
                 refine wp_store_st (.tmp 12) (.tmp 77) rfl HZ.out w13.heap.size an0.cells CA (by kernel_rfl) (by kernel_rfl) (Row.new _ _ _) rfl (HCA6.out) HCA1.out (fun w6 hr6 hg6 => ?_)
                 have HP6 := hid (HP0.out.add (B14.out.trans (below_grown hg6 B13.out.size B14.out.size)) (B13.out.size) hr6)
                 clear hr6 hg6
                 refine hK.out _ _ HP6.out.sub1 (fun hH => ?_)
                 clear hK K
                 try simp only [Act.put, la1, la2, la3]
                 refine rd1 (i := 22) (by kernel_rfl) rfl (fun K hK => ?_)
                 go_simp
                 refine hK.out _ _ (hH) (fun hH => ?_)
                 clear hK K
                 try simp only [Act.put, la1, la2, la3, la4, la5, la6]
                 refine wpAnyH_done (by kernel_rfl) ?_ _
                 try simp only [Act.put, la1, la2, la3, la4, la5, la6]
                 go_wp2_with fail
                 go_meet
                 case rel => exact ⟨_, rfl, rfl, HP6.out⟩
               ·
                as_aux_lemma =>
                 rw [if_pos (by kernel_rfl)]
                 refine wp_store_st (.tmp 12) (.tmp 77) rfl HZ.out w13.heap.size an0.cells CA (by kernel_rfl) (by kernel_rfl) (Row.new _ _ _) rfl (HCA6.out) HCA1.out (fun w6 hr6 hg6 => ?_)
                 have HP6 := hid (HP0.out.add (B14.out.trans (below_grown hg6 B13.out.size B14.out.size)) (B13.out.size) hr6)
                 clear hr6 hg6
                 refine hK.out _ _ HP6.out.sub1 (fun hH => ?_)
                 clear hK K
                 try simp only [Act.put, la1, la2, la3]
                 refine rd1 (i := 19) (by kernel_rfl) rfl (fun K hK => ?_)
                 go_simp
                 refine hK.out _ _ hH (fun hH => ?_)
                 clear hK K
                 try simp only [Act.put, la1, la2, la3, la4, la5, la6]
                 refine rd1 (i := 22) (by kernel_rfl) rfl (fun K hK => ?_)
                 go_simp
                 refine hK.out _ _ (hH) (fun hH => ?_)
                 clear hK K
                 try simp only [Act.put, la1, la2, la3, la4, la5, la6]
                 refine wpAnyH_done (by kernel_rfl) ?_ _
                 try simp only [Act.put, la1, la2, la3, la4, la5, la6]
                 go_wp2_with fail
                 go_meet
                 case rel => exact ⟨_, rfl, rfl, HP6.out⟩
           ·
            as_aux_lemma =>
             go_simp
             have B14 := hid ((Below.drew (Below.refl wz.heap.size wz)).alloc (Nat.le_refl _) (.cells an0.cells 33))
             have R14 : Hid (Row (World.alloc wz.drew (.cells an0.cells 33)) wz.heap.size 33 an0.cells.toList) := hid (Row.new wz.drew _ _)
             refine hK.out _ _ (HP0.out.below B14.out) (fun hH => ?_)
             clear hK K
             try simp only [Act.put, la1, la2, la3, la4, la5, la6]
             refine rd1 (i := 16) (by kernel_rfl) rfl (fun K hK => ?_)
             go_simp
             go_at_call 10
             refine (hH.1.fst.look (fun fp hk => HCA.out fp _ hk)).mono ?_
             rintro e w13 ⟨rfl, hb13⟩
             have B13 := hid (B14.out.trans (hb13.mono B14.out.size))
             have R13 := hid (R14.out.below hb13 R14.out.lt)
             clear hb13
             go_wp2_with fail
             refine hK.out _ _ (HP0.out.below B13.out) (fun hH => ?_)
             clear hK K
             try simp only [Act.put, la1, la2, la3, la4, la5, la6]
             refine tk_ (i := 17) (v := .tuple #[.agg CA, .bool cb]) rfl (Or.inl ⟨by rfl, fun w' hw' => by clear hw'; go_simp⟩) hH ?_
             simp only [Act.put, la1, la2, la3, la4, la5, la6]
             refine tk_ (i := 18) (v := .agg CA) rfl (Or.inl ⟨by rfl, fun w' hw' => by clear hw'; go_simp⟩) hH ?_
             simp only [Act.put, la1, la2, la3, la4, la5, la6]
             refine wpAnyH_ready (rs := [19, 21]) (by kernel_rfl) (by simp) ?_
             refine AllReadyH.cons rfl (fun K hK => ?_) (AllReadyH.cons rfl (fun K hK => ?_) AllReadyH.nil)
             ·
              as_aux_lemma =>
               go_simp
               refine hK.out _ _ hH (fun hH => ?_)
               clear hK K
               try simp only [Act.put, la1, la2, la3, la4, la5, la6]
               refine rd1 (i := 21) (by kernel_rfl) rfl (fun K hK => ?_)
               rw [if_pos (by kernel_rfl)]
               refine wp_store_st (.tmp 12) (.tmp 77) rfl HZ.out wz.heap.size an0.cells CA (by kernel_rfl) (by kernel_rfl) R13.out rfl (HCA6.out) HCA1.out (fun w6 hr6 hg6 => ?_)
               have HP6 := hid (HP0.out.add (B13.out.trans (below_grown hg6 (Nat.le_refl _) B13.out.size)) (Nat.le_refl _) hr6)
               clear hr6 hg6
               refine hK.out _ _ HP6.out.sub1 (fun hH => ?_)
               clear hK K
               try simp only [Act.put, la1, la2, la3]
               refine rd1 (i := 22) (by kernel_rfl) rfl (fun K hK => ?_)
               go_simp
               refine hK.out _ _ (hH) (fun hH => ?_)
               clear hK K
               try simp only [Act.put, la1, la2, la3, la4, la5, la6]
               refine wpAnyH_done (by kernel_rfl) ?_ _
               try simp only [Act.put, la1, la2, la3, la4, la5, la6]
               go_wp2_with fail
               go_meet
               case rel => exact ⟨_, rfl, rfl, HP6.out⟩
             ·
              as_aux_lemma =>
               rw [if_pos (by kernel_rfl)]
               refine wp_store_st (.tmp 12) (.tmp 77) rfl HZ.out wz.heap.size an0.cells CA (by kernel_rfl) (by kernel_rfl) R13.out rfl (HCA6.out) HCA1.out (fun w6 hr6 hg6 => ?_)
               have HP6 := hid (HP0.out.add (B13.out.trans (below_grown hg6 (Nat.le_refl _) B13.out.size)) (Nat.le_refl _) hr6)
               clear hr6 hg6
               refine hK.out _ _ HP6.out.sub1 (fun hH => ?_)
               clear hK K
               try simp only [Act.put, la1, la2, la3]
               refine rd1 (i := 19) (by kernel_rfl) rfl (fun K hK => ?_)
               go_simp
               refine hK.out _ _ hH (fun hH => ?_)
               clear hK K
               try simp only [Act.put, la1, la2, la3, la4, la5, la6]
               refine rd1 (i := 22) (by kernel_rfl) rfl (fun K hK => ?_)
               go_simp
               refine hK.out _ _ (hH) (fun hH => ?_)
               clear hK K
               try simp only [Act.put, la1, la2, la3, la4, la5, la6]
               refine wpAnyH_done (by kernel_rfl) ?_ _
               try simp only [Act.put, la1, la2, la3, la4, la5, la6]
               go_wp2_with fail
               go_meet
               case rel => exact ⟨_, rfl, rfl, HP6.out⟩
         case rest =>
          as_aux_lemma =>
           obtain ⟨g3, rfl, rfl, h3⟩ := hcut
           obtain ⟨wy, hwy⟩ : ∃ W, W = wc := ⟨_, rfl⟩
           subst hwy
           have HP1 := hid h3
           clear h3 HP0
           go_upto_region 15 with fail
           go_cut [14, 15] from 28 to 211 (fun v14 v15 wx => ∃ g4, v14 = .pointer (some ⟨g4, 0, none⟩) ∧ v15 = .bool cb ∧ PW wo p q S' [(g4, CA.toList), (g3, CA.toList), (g2, AN), (g1, AN)] wx)
           case first =>
            as_aux_lemma =>
             try simp only [Act.put, la1, la2, la3, la4, la5, la6]
             refine wp_region_held_drew (S := fun W => PW wo p q S' [(g3, CA.toList), (g2, AN), (g1, AN)] W) (by kernel_rfl) (HP1.out.drew) (fun hH => ?_)
             refine tk_ (i := 0) (v := .pointer (some ⟨q, 0, none⟩)) rfl (Or.inl ⟨by rfl, fun w' hw' => by clear hw'; go_simp⟩) hH ?_
             simp only [Act.put, la1, la3, la4, la5, la6]
             refine tk_ (i := 1) (v := .slice (some ⟨ga, o, none⟩) nl c1) rfl (Or.inl ⟨by rfl, fun w' hw' => by clear hw'; go_simp⟩) hH ?_
             simp only [Act.put, la1, la2, la3, la4, la5, la6]
             refine tk_ (i := 2) (v := .int .i64 (k : Int)) rfl (Or.inl ⟨by rfl, fun w' hw' => by clear hw'; go_simp⟩) hH ?_
             simp only [Act.put, la1, la2, la3, la4, la5, la6]
             refine tk_ (i := 3) (v := .pointer (some ⟨ga, o + k * 9, none⟩)) rfl (Or.inl ⟨by rfl, fun w' hw' => by clear hw'; go_simp⟩) hH ?_
             simp only [Act.put, la1, la2, la3, la4, la5, la6]
             refine tk_ (i := 4) (v := .pointer (some ⟨ga, o + k * 9 + 4, none⟩)) rfl (Or.inl ⟨by rfl, fun w' hw' => by clear hw'; go_simp⟩) hH ?_
             simp only [Act.put, la1, la2, la3, la4, la5, la6]
             refine tk_ (i := 5) (v := .int .i64 cl) rfl (Or.inl ⟨by rfl, fun w' hw' => by have h := HE4.out w' hw'.1.frame; go_simp⟩) hH ?_
             simp only [Act.put, la1, la2, la3, la4, la5, la6]
             refine tk_ (i := 6) (v := .slice (some ⟨ga, o, none⟩) nl c1) rfl (Or.inl ⟨by rfl, fun w' hw' => by clear hw'; go_simp⟩) hH ?_
             simp only [Act.put, la1, la2, la3, la4, la5, la6]
             refine tk_ (i := 7) (v := .int .i64 (k : Int)) rfl (Or.inl ⟨by rfl, fun w' hw' => by clear hw'; go_simp⟩) hH ?_
             simp only [Act.put, la1, la2, la3, la4, la5, la6]
             refine tk_ (i := 8) (v := .pointer (some ⟨ga, o + k * 9, none⟩)) rfl (Or.inl ⟨by rfl, fun w' hw' => by clear hw'; go_simp⟩) hH ?_
             simp only [Act.put, la1, la2, la3, la4, la5, la6]
             refine tk_ (i := 9) (v := .pointer (some ⟨ga, o + k * 9 + 5, none⟩)) rfl (Or.inl ⟨by rfl, fun w' hw' => by clear hw'; go_simp⟩) hH ?_
             simp only [Act.put, la1, la2, la3, la4, la5, la6]
             refine tk_ (i := 10) (v := .int .i64 se) rfl (Or.inl ⟨by rfl, fun w' hw' => by have h := HE5.out w' hw'.1.frame; go_simp⟩) hH ?_
             simp only [Act.put, la1, la2, la3, la4, la5, la6]
             refine tk_ (i := 11) (v := .slice (some ⟨ga, o, none⟩) nl c1) rfl (Or.inl ⟨by rfl, fun w' hw' => by clear hw'; go_simp⟩) hH ?_
             simp only [Act.put, la1, la2, la3, la4, la5, la6]
             refine tk_ (i := 12) (v := .int .i64 (k : Int)) rfl (Or.inl ⟨by rfl, fun w' hw' => by clear hw'; go_simp⟩) hH ?_
             simp only [Act.put, la1, la2, la3, la4, la5, la6]
             refine tk_ (i := 13) (v := .pointer (some ⟨ga, o + k * 9, none⟩)) rfl (Or.inl ⟨by rfl, fun w' hw' => by clear hw'; go_simp⟩) hH ?_
             simp only [Act.put, la1, la2, la3, la4, la5, la6]
             refine tk_ (i := 14) (v := .pointer (some ⟨ga, o + k * 9 + 6, none⟩)) rfl (Or.inl ⟨by rfl, fun w' hw' => by clear hw'; go_simp⟩) hH ?_
             simp only [Act.put, la1, la2, la3, la4, la5, la6]
             refine tk_ (i := 15) (v := .int .i64 rq) rfl (Or.inl ⟨by rfl, fun w' hw' => by have h := HE6.out w' hw'.1.frame; go_simp⟩) hH ?_
             simp only [Act.put, la1, la2, la3, la4, la5, la6]
             refine wpAnyH_ready (rs := [16, 20]) (by kernel_rfl) (by simp) ?_
             refine AllReadyH.cons rfl (fun K hK => ?_) (AllReadyH.cons rfl (fun K hK => ?_) AllReadyH.nil)
             ·
              as_aux_lemma =>
               go_simp
               go_at_call 11
               refine (hH.1.snd.look (fun fp hk => HCR.out fp _ hk)).mono ?_
               rintro e w13 ⟨rfl, hb13⟩
               have B13 := hid ((Below.drew (Below.refl wy.heap.size wy)).trans (hb13.mono (Nat.le_refl _)))
               clear hb13
               go_wp2_with fail
               refine hK.out _ _ (HP1.out.below B13.out) (fun hH => ?_)
               clear hK K
               try simp only [Act.put, la1, la2, la3, la4, la5, la6]
               refine tk_ (i := 17) (v := .tuple #[.agg CA, .bool cb]) rfl (Or.inl ⟨by rfl, fun w' hw' => by clear hw'; go_simp⟩) hH ?_
               simp only [Act.put, la1, la2, la3, la4, la5, la6]
               refine tk_ (i := 18) (v := .agg CA) rfl (Or.inl ⟨by rfl, fun w' hw' => by clear hw'; go_simp⟩) hH ?_
               simp only [Act.put, la1, la2, la3, la4, la5, la6]
               refine wpAnyH_ready (rs := [19, 20]) (by kernel_rfl) (by simp) ?_
               refine AllReadyH.cons rfl (fun K hK => ?_) (AllReadyH.cons rfl (fun K hK => ?_) AllReadyH.nil)
               ·
                as_aux_lemma =>
                 go_simp
                 refine hK.out _ _ hH (fun hH => ?_)
                 clear hK K
                 try simp only [Act.put, la1, la2, la3, la4, la5, la6]
                 refine rd1 (i := 20) (by kernel_rfl) rfl (fun K hK => ?_)
                 go_simp
                 have B14 := hid (B13.out.alloc B13.out.size (.cells an0.cells 33))
                 refine hK.out _ _ (HP1.out.below B14.out) (fun hH => ?_)
                 clear hK K
                 try simp only [Act.put, la1, la2, la3, la4, la5, la6]
                 refine rd1 (i := 21) (by kernel_rfl) rfl (fun K hK => ?_)
                 rw [if_pos (by kernel_rfl)]
                 refine wp_store_st (.tmp 14) (.tmp 97) rfl HZ.out w13.heap.size an0.cells CA (by kernel_rfl) (by kernel_rfl) (Row.new _ _ _) rfl (HCA6.out) HCA1.out (fun w6 hr6 hg6 => ?_)
                 have HP6 := hid (HP1.out.add (B14.out.trans (below_grown hg6 B13.out.size B14.out.size)) (B13.out.size) hr6)
                 clear hr6 hg6
                 refine hK.out _ _ HP6.out.sub1 (fun hH => ?_)
                 clear hK K
                 try simp only [Act.put, la1, la2, la3]
                 refine rd1 (i := 22) (by kernel_rfl) rfl (fun K hK => ?_)
                 go_simp
                 refine hK.out _ _ (hH) (fun hH => ?_)
                 clear hK K
                 try simp only [Act.put, la1, la2, la3, la4, la5, la6]
                 refine wpAnyH_done (by kernel_rfl) ?_ _
                 try simp only [Act.put, la1, la2, la3, la4, la5, la6]
                 go_wp2_with fail
                 go_meet
                 case rel => exact ⟨_, rfl, rfl, HP6.out⟩
               ·
                as_aux_lemma =>
                 go_simp
                 have B14 := hid (B13.out.alloc B13.out.size (.cells an0.cells 33))
                 refine hK.out _ _ (HP1.out.below B14.out) (fun hH => ?_)
                 clear hK K
                 try simp only [Act.put, la1, la2, la3, la4, la5, la6]
                 refine wpAnyH_ready (rs := [19, 21]) (by kernel_rfl) (by simp) ?_
                 refine AllReadyH.cons rfl (fun K hK => ?_) (AllReadyH.cons rfl (fun K hK => ?_) AllReadyH.nil)
                 ·
                  as_aux_lemma =>
                   go_simp
                   refine hK.out _ _ hH (fun hH => ?_)
                   clear hK K
                   try simp only [Act.put, la1, la2, la3, la4, la5, la6]
                   refine rd1 (i := 21) (by kernel_rfl) rfl (fun K hK => ?_)
                   rw [if_pos (by kernel_rfl)]
                   refine wp_store_st (.tmp 14) (.tmp 97) rfl HZ.out w13.heap.size an0.cells CA (by kernel_rfl) (by kernel_rfl) (Row.new _ _ _) rfl (HCA6.out) HCA1.out (fun w6 hr6 hg6 => ?_)
                   have HP6 := hid (HP1.out.add (B14.out.trans (below_grown hg6 B13.out.size B14.out.size)) (B13.out.size) hr6)
                   clear hr6 hg6
                   refine hK.out _ _ HP6.out.sub1 (fun hH => ?_)
                   clear hK K
                   try simp only [Act.put, la1, la2, la3]
                   refine rd1 (i := 22) (by kernel_rfl) rfl (fun K hK => ?_)
                   go_simp
                   refine hK.out _ _ (hH) (fun hH => ?_)
                   clear hK K
                   try simp only [Act.put, la1, la2, la3, la4, la5, la6]
                   refine wpAnyH_done (by kernel_rfl) ?_ _
                   try simp only [Act.put, la1, la2, la3, la4, la5, la6]
                   go_wp2_with fail
                   go_meet
                   case rel => exact ⟨_, rfl, rfl, HP6.out⟩
                 ·
                  as_aux_lemma =>
                   rw [if_pos (by kernel_rfl)]
                   refine wp_store_st (.tmp 14) (.tmp 97) rfl HZ.out w13.heap.size an0.cells CA (by kernel_rfl) (by kernel_rfl) (Row.new _ _ _) rfl (HCA6.out) HCA1.out (fun w6 hr6 hg6 => ?_)
                   have HP6 := hid (HP1.out.add (B14.out.trans (below_grown hg6 B13.out.size B14.out.size)) (B13.out.size) hr6)
                   clear hr6 hg6
                   refine hK.out _ _ HP6.out.sub1 (fun hH => ?_)
                   clear hK K
                   try simp only [Act.put, la1, la2, la3]
                   refine rd1 (i := 19) (by kernel_rfl) rfl (fun K hK => ?_)
                   go_simp
                   refine hK.out _ _ hH (fun hH => ?_)
                   clear hK K
                   try simp only [Act.put, la1, la2, la3, la4, la5, la6]
                   refine rd1 (i := 22) (by kernel_rfl) rfl (fun K hK => ?_)
                   go_simp
                   refine hK.out _ _ (hH) (fun hH => ?_)
                   clear hK K
                   try simp only [Act.put, la1, la2, la3, la4, la5, la6]
                   refine wpAnyH_done (by kernel_rfl) ?_ _
                   try simp only [Act.put, la1, la2, la3, la4, la5, la6]
                   go_wp2_with fail
                   go_meet
                   case rel => exact ⟨_, rfl, rfl, HP6.out⟩
             ·
              as_aux_lemma =>
               go_simp
               have B14 := hid ((Below.drew (Below.refl wy.heap.size wy)).alloc (Nat.le_refl _) (.cells an0.cells 33))
               have R14 : Hid (Row (World.alloc wy.drew (.cells an0.cells 33)) wy.heap.size 33 an0.cells.toList) := hid (Row.new wy.drew _ _)
               refine hK.out _ _ (HP1.out.below B14.out) (fun hH => ?_)
               clear hK K
               try simp only [Act.put, la1, la2, la3, la4, la5, la6]
               refine rd1 (i := 16) (by kernel_rfl) rfl (fun K hK => ?_)
               go_simp
               go_at_call 11
               refine (hH.1.snd.look (fun fp hk => HCR.out fp _ hk)).mono ?_
               rintro e w13 ⟨rfl, hb13⟩
               have B13 := hid (B14.out.trans (hb13.mono B14.out.size))
               have R13 := hid (R14.out.below hb13 R14.out.lt)
               clear hb13
               go_wp2_with fail
               refine hK.out _ _ (HP1.out.below B13.out) (fun hH => ?_)
               clear hK K
               try simp only [Act.put, la1, la2, la3, la4, la5, la6]
               refine tk_ (i := 17) (v := .tuple #[.agg CA, .bool cb]) rfl (Or.inl ⟨by rfl, fun w' hw' => by clear hw'; go_simp⟩) hH ?_
               simp only [Act.put, la1, la2, la3, la4, la5, la6]
               refine tk_ (i := 18) (v := .agg CA) rfl (Or.inl ⟨by rfl, fun w' hw' => by clear hw'; go_simp⟩) hH ?_
               simp only [Act.put, la1, la2, la3, la4, la5, la6]
               refine wpAnyH_ready (rs := [19, 21]) (by kernel_rfl) (by simp) ?_
               refine AllReadyH.cons rfl (fun K hK => ?_) (AllReadyH.cons rfl (fun K hK => ?_) AllReadyH.nil)
               ·
                as_aux_lemma =>
                 go_simp
                 refine hK.out _ _ hH (fun hH => ?_)
                 clear hK K
                 try simp only [Act.put, la1, la2, la3, la4, la5, la6]
                 refine rd1 (i := 21) (by kernel_rfl) rfl (fun K hK => ?_)
                 rw [if_pos (by kernel_rfl)]
                 refine wp_store_st (.tmp 14) (.tmp 97) rfl HZ.out wy.heap.size an0.cells CA (by kernel_rfl) (by kernel_rfl) R13.out rfl (HCA6.out) HCA1.out (fun w6 hr6 hg6 => ?_)
                 have HP6 := hid (HP1.out.add (B13.out.trans (below_grown hg6 (Nat.le_refl _) B13.out.size)) (Nat.le_refl _) hr6)
                 clear hr6 hg6
                 refine hK.out _ _ HP6.out.sub1 (fun hH => ?_)
                 clear hK K
                 try simp only [Act.put, la1, la2, la3]
                 refine rd1 (i := 22) (by kernel_rfl) rfl (fun K hK => ?_)
                 go_simp
                 refine hK.out _ _ (hH) (fun hH => ?_)
                 clear hK K
                 try simp only [Act.put, la1, la2, la3, la4, la5, la6]
                 refine wpAnyH_done (by kernel_rfl) ?_ _
                 try simp only [Act.put, la1, la2, la3, la4, la5, la6]
                 go_wp2_with fail
                 go_meet
                 case rel => exact ⟨_, rfl, rfl, HP6.out⟩
               ·
                as_aux_lemma =>
                 rw [if_pos (by kernel_rfl)]
                 refine wp_store_st (.tmp 14) (.tmp 97) rfl HZ.out wy.heap.size an0.cells CA (by kernel_rfl) (by kernel_rfl) R13.out rfl (HCA6.out) HCA1.out (fun w6 hr6 hg6 => ?_)
                 have HP6 := hid (HP1.out.add (B13.out.trans (below_grown hg6 (Nat.le_refl _) B13.out.size)) (Nat.le_refl _) hr6)
                 clear hr6 hg6
                 refine hK.out _ _ HP6.out.sub1 (fun hH => ?_)
                 clear hK K
                 try simp only [Act.put, la1, la2, la3]
                 refine rd1 (i := 19) (by kernel_rfl) rfl (fun K hK => ?_)
                 go_simp
                 refine hK.out _ _ hH (fun hH => ?_)
                 clear hK K
                 try simp only [Act.put, la1, la2, la3, la4, la5, la6]
                 refine rd1 (i := 22) (by kernel_rfl) rfl (fun K hK => ?_)
                 go_simp
                 refine hK.out _ _ (hH) (fun hH => ?_)
                 clear hK K
                 try simp only [Act.put, la1, la2, la3, la4, la5, la6]
                 refine wpAnyH_done (by kernel_rfl) ?_ _
                 try simp only [Act.put, la1, la2, la3, la4, la5, la6]
                 go_wp2_with fail
                 go_meet
                 case rel => exact ⟨_, rfl, rfl, HP6.out⟩
           case rest =>
            as_aux_lemma =>
             obtain ⟨g4, rfl, rfl, h4⟩ := hcut
             obtain ⟨wx, hwx⟩ : ∃ W, W = wc := ⟨_, rfl⟩
             subst hwx
             have HP2 := hid h4
             clear h4 HP1 HCA HCR HF1
             have HFR : Hid (∀ W, Kp wx W → Below wo.heap.size wo W) := hid fun W hW => (HP2.out.below hW).1.frame
             have HG1 : Hid (∀ W, Kp wx W → Row W g1 33 AN) := hid fun W hW => (HP2.out.below hW).2 (g1, AN) (by simp)
             have HG2 : Hid (∀ W, Kp wx W → Row W g2 33 AN) := hid fun W hW => (HP2.out.below hW).2 (g2, AN) (by simp)
             have HG3 : Hid (∀ W, Kp wx W → Row W g3 33 CA.toList) := hid fun W hW => (HP2.out.below hW).2 (g3, CA.toList) (by simp)
             have HG4 : Hid (∀ W, Kp wx W → Row W g4 33 CA.toList) := hid fun W hW => (HP2.out.below hW).2 (g4, CA.toList) (by simp)
             have HSZC : Hid ((Tryz.prog.info? 33).map (·.size) = some CA.toList.length) := hid (by rw [Array.length_toList, HCA6.out]; exact HZ.out)
             have HNE : Hid ((ev != ev) = false) := hid (by simp)
             have HNB : Hid ((cb != cb) = false) := hid (by simp)
             obtain ⟨fp, hkp, -⟩ := HP2.out.1.fst
             obtain ⟨fq, ⟨qs, qb, hkq⟩, -⟩ := HP2.out.1.snd
             have hkr : Hm KR q S' fq wx := ⟨qs, qb, hkq⟩
             obtain ⟨fs, hgs⟩ := hkq.s
             obtain ⟨fb, hgb⟩ := hkq.b
             obtain ⟨vs, -, hks⟩ := id hgs
             obtain ⟨va, vt, -, hkb⟩ := id hgb
             obtain ⟨Sq, dS, evs, hds, hrs⟩ := hks.shape
             obtain ⟨Aq, dA, eva, hda, hra⟩ := hkb.va_shape
             obtain ⟨Tq, dT, evt, hdt, hrt⟩ := hkb.vt_shape
             have hl1 := hks.wf.le
             have hl2 := hkb.wf.la
             have hl3 := hkb.wf.lt
             have HQ3 : Hid (∀ W, Kp wx W → W.cell? ⟨q, 3, none⟩ = some (.pointer (some ⟨qs, 0, none⟩))) := hid fun W hW => (hkq.below hW).row.at_ 3 _ rfl
             have HQ4 : Hid (∀ W, Kp wx W → W.cell? ⟨q, 4, none⟩ = some (.pointer (some ⟨qb, 0, none⟩))) := hid fun W hW => (hkq.below hW).row.at_ 4 _ rfl
             have HS0 : Hid (∀ W, Kp wx W → W.cell? ⟨qs, 0, none⟩ = some (.slice Sq S'.w.T.length dS)) := hid fun W hW => by rw [← evs]; exact (hks.below hW).c0
             have HA0 : Hid (∀ W, Kp wx W → W.cell? ⟨qb, 0, none⟩ = some (.slice Aq S'.w.B.A.length dA)) := hid fun W hW => by rw [← eva]; exact (hkb.below hW).c0
             have HT0 : Hid (∀ W, Kp wx W → W.cell? ⟨qb, 1, none⟩ = some (.slice Tq S'.w.B.T.length dT)) := hid fun W hW => by rw [← evt]; exact (hkb.below hW).c1
             have HMR : Hid (∀ W, Kp wx W → W.rangeAt q 0 S'.m.cells.toList) := hid fun W hW => Row.pre (xs := S'.m.cells.toList) (ys := [.pointer (some ⟨qs, 0, none⟩), .pointer (some ⟨qb, 0, none⟩)]) (hkq.below hW).row
             have HVP := hid fun W (hW : Kp wx W) => mver_any p S' fp cl se rq W (hkp.below hW)
             have HVR := hid fun W (hW : Kp wx W) => rver_any qs fs S'.w.T cl se rq W (hgs.below hW)
             generalize ver S'.w.T cl se rq = vr at HVP HVR
             have HNV : Hid ((vr != vr) = false) := hid (by simp)
             have HMK : Hid (∀ W, Kp wx W → Calls Tryz.prog 14 #[.pointer (some ⟨p, 0, none⟩)] W (VE W (.agg S'.m.cells))) := hid fun W hW => mmark_any p S' fp W (hkp.below hW)
             have HEM : Hid (∀ W, (Op.equalIn 10000 41 (.agg S'.m.cells) (.agg S'.m.cells)).run Tryz.prog W = .ok true W) := hid fun W => by simpa using eqMk S'.m S'.m W
             have HSZM : Hid ((Tryz.prog.info? 41).map (·.size) = some S'.m.cells.toList.length) := hid msize
             generalize S'.m.cells = MC at HMR HMK HEM HSZM
             have HSL : Hid (∀ W, Kp wx W → Calls Tryz.prog 16 #[.pointer (some ⟨p, 0, none⟩)] W fun e w' => ∃ A c, e = .returned (.slice A S'.w.T.length c) ∧ S'.w.T.length ≤ c ∧ Rd w' w'.heap.size A (rows Ss.cells S'.w.T) ∧ Below W.heap.size W w') := hid fun W hW => (mses_any p S' fp W (hkp.below hW)).mono fun e w' hh => by
              obtain ⟨A1, c1, a, b, d, f, -⟩ := hh
              exact ⟨A1, c1, a, b, d, f⟩
             have HAL : Hid (∀ W, Kp wx W → Calls Tryz.prog 18 #[.pointer (some ⟨p, 0, none⟩)] W fun e w' => ∃ A c, e = .returned (.slice A S'.w.B.A.length c) ∧ S'.w.B.A.length ≤ c ∧ Rd w' w'.heap.size A (rows Ac.cells S'.w.B.A) ∧ Below W.heap.size W w') := hid fun W hW => (macc_any p S' fp W (hkp.below hW)).mono fun e w' hh => by
              obtain ⟨A1, c1, a, b, d, f, -⟩ := hh
              exact ⟨A1, c1, a, b, d, f⟩
             have HTL : Hid (∀ W, Kp wx W → Calls Tryz.prog 20 #[.pointer (some ⟨p, 0, none⟩)] W fun e w' => ∃ A c, e = .returned (.slice A S'.w.B.T.length c) ∧ S'.w.B.T.length ≤ c ∧ Rd w' w'.heap.size A (rows Tr.cells S'.w.B.T) ∧ Below W.heap.size W w') := hid fun W hW => (mtra_any p S' fp W (hkp.below hW)).mono fun e w' hh => by
              obtain ⟨A1, c1, a, b, d, f, -⟩ := hh
              exact ⟨A1, c1, a, b, d, f⟩
             have HSS : Hid (∀ A1 c1 W, Rd W W.heap.size A1 (rows Ss.cells S'.w.T) → S'.w.T.length ≤ c1 → Kp wx W → Calls Tryz.prog 15 #[.slice A1 S'.w.T.length c1, .slice Sq S'.w.T.length dS] W (VE W (.bool true))) := hid fun A1 c1 W h1 h2 hW => same_any A1 Sq S'.w.T S'.w.T.length c1 dS W.heap.size W h1 ((hrs.below hW (Nat.le_refl _)).more hW.size) rfl h2 hds (Nat.le_refl _) (by omega)
             have HSAc : Hid (∀ A1 c1 W, Rd W W.heap.size A1 (rows Ac.cells S'.w.B.A) → S'.w.B.A.length ≤ c1 → Kp wx W → Calls Tryz.prog 17 #[.slice A1 S'.w.B.A.length c1, .slice Aq S'.w.B.A.length dA] W (VE W (.bool true))) := hid fun A1 c1 W h1 h2 hW => samea_any A1 Aq S'.w.B.A S'.w.B.A.length c1 dA W.heap.size W h1 ((hra.below hW (Nat.le_refl _)).more hW.size) rfl h2 hda (Nat.le_refl _) (by omega)
             have HSTr : Hid (∀ A1 c1 W, Rd W W.heap.size A1 (rows Tr.cells S'.w.B.T) → S'.w.B.T.length ≤ c1 → Kp wx W → Calls Tryz.prog 19 #[.slice A1 S'.w.B.T.length c1, .slice Tq S'.w.B.T.length dT] W (VE W (.bool true))) := hid fun A1 c1 W h1 h2 hW => samet_any A1 Tq S'.w.B.T S'.w.B.T.length c1 dT W.heap.size W h1 ((hrt.below hW (Nat.le_refl _)).more hW.size) rfl h2 hdt (Nat.le_refl _) (by omega)
             have HPK := hid fun W (hW : Kp wx W) => mpack_any p S' fp W HWF.out (hkp.below hW)
             have HPR := hid fun W (hW : Kp wx W) => rmpack_any q S' fq W HWF.out (hkr.below hW)
             unfold SE at HPK HPR
             generalize S'.pack = pk at HPK HPR
             generalize (⟨pk.toArray⟩ : ByteArray) = pks at HPK HPR
             clear evs eva evt hkp hkq hkr hgs hgb hks hkb hds hda hdt hrs hra hrt hl1 hl2 hl3
             go_upto_region 16 with fail
             simp only [List.append]
             try simp only [Act.put, la1, la2, la3, la4, la5, la6]
             refine wp_region_held_drew (S := Kp wx) (by kernel_rfl) ((Kp.refl wx).drew) (fun hH => ?_)
             refine tk_ (i := 0) (v := .agg AN.toArray) rfl ?_ hH ?_
             ·
              refine yieldsIf_load_mid ?_ 33 (.tmp 8) ?_ g1 0 ?_ (Array.toList AN.toArray) _ (fun W hW => Row.range (HG1.out W hW)) Tryz.underlying33 rfl (by exact HSZA.out)
              all_goals kernel_rfl
             simp only [Act.put, la1, la3, la4, la5, la6]
             refine tk_ (i := 1) (v := .agg AN.toArray) rfl ?_ hH ?_
             ·
              refine yieldsIf_load_mid ?_ 33 (.tmp 10) ?_ g2 0 ?_ (Array.toList AN.toArray) _ (fun W hW => Row.range (HG2.out W hW)) Tryz.underlying33 rfl (by exact HSZA.out)
              all_goals kernel_rfl
             simp only [Act.put, la1, la2, la3, la4, la5, la6]
             refine tk_ (i := 2) (v := .bool false) rfl (yields_neX egAn HEA.out (by kernel_rfl) (.tmp 99) (.tmp 100) _ rfl (by kernel_rfl) (by kernel_rfl)) hH ?_
             simp only [Act.put, la1, la2, la3, la4, la5, la6]
             refine tk_ (i := 3) (v := .bool false) rfl (Or.inl ⟨by kernel_rfl, fun w' _ => by kernel_rfl⟩) hH ?_
             simp only [Act.put, la1, la2, la3, la4, la5, la6]
             refine tk_ (i := 4) (v := .int .i64 ev) rfl (Or.inl ⟨by kernel_rfl, fun w' _ => by kernel_rfl⟩) hH ?_
             simp only [Act.put, la1, la2, la3, la4, la5, la6]
             refine tk_ (i := 5) (v := .int .i64 ev) rfl (Or.inl ⟨by kernel_rfl, fun w' _ => by kernel_rfl⟩) hH ?_
             simp only [Act.put, la1, la2, la3, la4, la5, la6]
             refine tk_ (i := 6) (v := .bool false) rfl (Or.inl ⟨by kernel_rfl, fun w' hw' => by have h := HNE.out; go_simp⟩) hH ?_
             simp only [Act.put, la1, la2, la3, la4, la5, la6]
             refine tk_ (i := 7) (v := .bool false) rfl (Or.inl ⟨by kernel_rfl, fun w' _ => by kernel_rfl⟩) hH ?_
             simp only [Act.put, la1, la2, la3, la4, la5, la6]
             refine tk_ (i := 8) (v := .bool false) rfl (Or.inl ⟨by kernel_rfl, fun w' _ => by kernel_rfl⟩) hH ?_
             simp only [Act.put, la1, la2, la3, la4, la5, la6]
             refine tk_ (i := 9) (v := .agg CA) rfl ?_ hH ?_
             ·
              refine yieldsIf_load_mid ?_ 33 (.tmp 12) ?_ g3 0 ?_ (Array.toList CA) _ (fun W hW => Row.range (HG3.out W hW)) Tryz.underlying33 rfl (by exact HSZC.out)
              all_goals kernel_rfl
             simp only [Act.put, la1, la2, la3, la4, la5, la6]
             refine tk_ (i := 10) (v := .agg CA) rfl ?_ hH ?_
             ·
              refine yieldsIf_load_mid ?_ 33 (.tmp 14) ?_ g4 0 ?_ (Array.toList CA) _ (fun W hW => Row.range (HG4.out W hW)) Tryz.underlying33 rfl (by exact HSZC.out)
              all_goals kernel_rfl
             simp only [Act.put, la1, la2, la3, la4, la5, la6]
             refine tk_ (i := 11) (v := .bool false) rfl (yields_neX egAn HEC.out (by kernel_rfl) (.tmp 108) (.tmp 109) _ rfl (by kernel_rfl) (by kernel_rfl)) hH ?_
             simp only [Act.put, la1, la2, la3, la4, la5, la6]
             as_aux_lemma =>
              refine tk_ (i := 12) (v := .bool false) rfl (Or.inl ⟨by kernel_rfl, fun w' _ => by kernel_rfl⟩) hH ?_
              simp only [Act.put, la1, la2, la3, la4, la5, la6]
              refine tk_ (i := 13) (v := .bool false) rfl (Or.inl ⟨by kernel_rfl, fun w' _ => by kernel_rfl⟩) hH ?_
              simp only [Act.put, la1, la2, la3, la4, la5, la6]
              refine tk_ (i := 14) (v := .bool cb) rfl (Or.inl ⟨by kernel_rfl, fun w' _ => by kernel_rfl⟩) hH ?_
              simp only [Act.put, la1, la2, la3, la4, la5, la6]
              refine tk_ (i := 15) (v := .bool cb) rfl (Or.inl ⟨by kernel_rfl, fun w' _ => by kernel_rfl⟩) hH ?_
              simp only [Act.put, la1, la2, la3, la4, la5, la6]
              refine tk_ (i := 16) (v := .bool false) rfl (Or.inl ⟨by kernel_rfl, fun w' hw' => by have h := HNB.out; go_simp⟩) hH ?_
              simp only [Act.put, la1, la2, la3, la4, la5, la6]
              refine tk_ (i := 17) (v := .bool false) rfl (Or.inl ⟨by kernel_rfl, fun w' _ => by kernel_rfl⟩) hH ?_
              simp only [Act.put, la1, la2, la3, la4, la5, la6]
              refine tk_ (i := 18) (v := .bool false) rfl (Or.inl ⟨by kernel_rfl, fun w' _ => by kernel_rfl⟩) hH ?_
              simp only [Act.put, la1, la2, la3, la4, la5, la6]
              refine tk_ (i := 19) (v := .pointer (some ⟨p, 0, none⟩)) rfl (Or.inl ⟨by kernel_rfl, fun w' _ => by kernel_rfl⟩) hH ?_
              simp only [Act.put, la1, la2, la3, la4, la5, la6]
              refine tk_ (i := 20) (v := .slice (some ⟨ga, o, none⟩) nl c1) rfl (Or.inl ⟨by kernel_rfl, fun w' _ => by kernel_rfl⟩) hH ?_
              simp only [Act.put, la1, la2, la3, la4, la5, la6]
              refine tk_ (i := 21) (v := .int .i64 (k : Int)) rfl (Or.inl ⟨by kernel_rfl, fun w' _ => by kernel_rfl⟩) hH ?_
              simp only [Act.put, la1, la2, la3, la4, la5, la6]
              refine tk_ (i := 22) (v := .pointer (some ⟨ga, o + k * 9, none⟩)) rfl (Or.inl ⟨by kernel_rfl, fun w' hw' => by clear hw'; go_simp⟩) hH ?_
              simp only [Act.put, la1, la2, la3, la4, la5, la6]
              refine tk_ (i := 23) (v := .pointer (some ⟨ga, o + k * 9 + 4, none⟩)) rfl (Or.inl ⟨by kernel_rfl, fun w' hw' => by clear hw'; go_simp⟩) hH ?_
              simp only [Act.put, la1, la2, la3, la4, la5, la6]
              as_aux_lemma =>
               refine tk_ (i := 24) (v := .int .i64 cl) rfl (Or.inl ⟨by kernel_rfl, fun w' hw' => by have h := HE4.out w' (HFR.out w' hw'); go_simp⟩) hH ?_
               simp only [Act.put, la1, la2, la3, la4, la5, la6]
               refine tk_ (i := 25) (v := .slice (some ⟨ga, o, none⟩) nl c1) rfl (Or.inl ⟨by kernel_rfl, fun w' _ => by kernel_rfl⟩) hH ?_
               simp only [Act.put, la1, la2, la3, la4, la5, la6]
               refine tk_ (i := 26) (v := .int .i64 (k : Int)) rfl (Or.inl ⟨by kernel_rfl, fun w' _ => by kernel_rfl⟩) hH ?_
               simp only [Act.put, la1, la2, la3, la4, la5, la6]
               refine tk_ (i := 27) (v := .pointer (some ⟨ga, o + k * 9, none⟩)) rfl (Or.inl ⟨by kernel_rfl, fun w' hw' => by clear hw'; go_simp⟩) hH ?_
               simp only [Act.put, la1, la2, la3, la4, la5, la6]
               refine tk_ (i := 28) (v := .pointer (some ⟨ga, o + k * 9 + 5, none⟩)) rfl (Or.inl ⟨by kernel_rfl, fun w' hw' => by clear hw'; go_simp⟩) hH ?_
               simp only [Act.put, la1, la2, la3, la4, la5, la6]
               refine tk_ (i := 29) (v := .int .i64 se) rfl (Or.inl ⟨by kernel_rfl, fun w' hw' => by have h := HE5.out w' (HFR.out w' hw'); go_simp⟩) hH ?_
               simp only [Act.put, la1, la2, la3, la4, la5, la6]
               refine tk_ (i := 30) (v := .slice (some ⟨ga, o, none⟩) nl c1) rfl (Or.inl ⟨by kernel_rfl, fun w' _ => by kernel_rfl⟩) hH ?_
               simp only [Act.put, la1, la2, la3, la4, la5, la6]
               refine tk_ (i := 31) (v := .int .i64 (k : Int)) rfl (Or.inl ⟨by kernel_rfl, fun w' _ => by kernel_rfl⟩) hH ?_
               simp only [Act.put, la1, la2, la3, la4, la5, la6]
               refine tk_ (i := 32) (v := .pointer (some ⟨ga, o + k * 9, none⟩)) rfl (Or.inl ⟨by kernel_rfl, fun w' hw' => by clear hw'; go_simp⟩) hH ?_
               simp only [Act.put, la1, la2, la3, la4, la5, la6]
               refine tk_ (i := 33) (v := .pointer (some ⟨ga, o + k * 9 + 6, none⟩)) rfl (Or.inl ⟨by kernel_rfl, fun w' hw' => by clear hw'; go_simp⟩) hH ?_
               simp only [Act.put, la1, la2, la3, la4, la5, la6]
               refine tk_ (i := 34) (v := .int .i64 rq) rfl (Or.inl ⟨by kernel_rfl, fun w' hw' => by have h := HE6.out w' (HFR.out w' hw'); go_simp⟩) hH ?_
               simp only [Act.put, la1, la2, la3, la4, la5, la6]
               refine tk_ (i := 36) (v := .pointer (some ⟨q, 0, none⟩)) rfl (Or.inl ⟨by kernel_rfl, fun w' _ => by kernel_rfl⟩) hH ?_
               simp only [Act.put, la1, la2, la3, la4, la5, la6]
               as_aux_lemma =>
                refine tk_ (i := 37) (v := .pointer (some ⟨q, 0, none⟩)) rfl (Or.inl ⟨by kernel_rfl, fun w' hw' => by clear hw'; go_simp⟩) hH ?_
                simp only [Act.put, la1, la2, la3, la4, la5, la6]
                refine tk_ (i := 38) (v := .pointer (some ⟨q, 3, none⟩)) rfl (Or.inl ⟨by kernel_rfl, fun w' hw' => by clear hw'; go_simp⟩) hH ?_
                simp only [Act.put, la1, la2, la3, la4, la5, la6]
                refine tk_ (i := 39) (v := .pointer (some ⟨qs, 0, none⟩)) rfl (Or.inl ⟨by kernel_rfl, fun w' hw' => by have h := HQ3.out w' hw'; go_simp⟩) hH ?_
                simp only [Act.put, la1, la2, la3, la4, la5, la6]
                refine tk_ (i := 40) (v := .slice (some ⟨ga, o, none⟩) nl c1) rfl (Or.inl ⟨by kernel_rfl, fun w' _ => by kernel_rfl⟩) hH ?_
                simp only [Act.put, la1, la2, la3, la4, la5, la6]
                refine tk_ (i := 41) (v := .int .i64 (k : Int)) rfl (Or.inl ⟨by kernel_rfl, fun w' _ => by kernel_rfl⟩) hH ?_
                simp only [Act.put, la1, la2, la3, la4, la5, la6]
                refine tk_ (i := 42) (v := .pointer (some ⟨ga, o + k * 9, none⟩)) rfl (Or.inl ⟨by kernel_rfl, fun w' hw' => by clear hw'; go_simp⟩) hH ?_
                simp only [Act.put, la1, la2, la3, la4, la5, la6]
                refine tk_ (i := 43) (v := .pointer (some ⟨ga, o + k * 9 + 4, none⟩)) rfl (Or.inl ⟨by kernel_rfl, fun w' hw' => by clear hw'; go_simp⟩) hH ?_
                simp only [Act.put, la1, la2, la3, la4, la5, la6]
                refine tk_ (i := 44) (v := .int .i64 cl) rfl (Or.inl ⟨by kernel_rfl, fun w' hw' => by have h := HE4.out w' (HFR.out w' hw'); go_simp⟩) hH ?_
                simp only [Act.put, la1, la2, la3, la4, la5, la6]
                refine tk_ (i := 45) (v := .slice (some ⟨ga, o, none⟩) nl c1) rfl (Or.inl ⟨by kernel_rfl, fun w' _ => by kernel_rfl⟩) hH ?_
                simp only [Act.put, la1, la2, la3, la4, la5, la6]
                refine tk_ (i := 46) (v := .int .i64 (k : Int)) rfl (Or.inl ⟨by kernel_rfl, fun w' _ => by kernel_rfl⟩) hH ?_
                simp only [Act.put, la1, la2, la3, la4, la5, la6]
                refine tk_ (i := 47) (v := .pointer (some ⟨ga, o + k * 9, none⟩)) rfl (Or.inl ⟨by kernel_rfl, fun w' hw' => by clear hw'; go_simp⟩) hH ?_
                simp only [Act.put, la1, la2, la3, la4, la5, la6]
                refine tk_ (i := 48) (v := .pointer (some ⟨ga, o + k * 9 + 5, none⟩)) rfl (Or.inl ⟨by kernel_rfl, fun w' hw' => by clear hw'; go_simp⟩) hH ?_
                simp only [Act.put, la1, la2, la3, la4, la5, la6]
                as_aux_lemma =>
                 refine tk_ (i := 49) (v := .int .i64 se) rfl (Or.inl ⟨by kernel_rfl, fun w' hw' => by have h := HE5.out w' (HFR.out w' hw'); go_simp⟩) hH ?_
                 simp only [Act.put, la1, la2, la3, la4, la5, la6]
                 refine tk_ (i := 50) (v := .slice (some ⟨ga, o, none⟩) nl c1) rfl (Or.inl ⟨by kernel_rfl, fun w' _ => by kernel_rfl⟩) hH ?_
                 simp only [Act.put, la1, la2, la3, la4, la5, la6]
                 refine tk_ (i := 51) (v := .int .i64 (k : Int)) rfl (Or.inl ⟨by kernel_rfl, fun w' _ => by kernel_rfl⟩) hH ?_
                 simp only [Act.put, la1, la2, la3, la4, la5, la6]
                 refine tk_ (i := 52) (v := .pointer (some ⟨ga, o + k * 9, none⟩)) rfl (Or.inl ⟨by kernel_rfl, fun w' hw' => by clear hw'; go_simp⟩) hH ?_
                 simp only [Act.put, la1, la2, la3, la4, la5, la6]
                 refine tk_ (i := 53) (v := .pointer (some ⟨ga, o + k * 9 + 6, none⟩)) rfl (Or.inl ⟨by kernel_rfl, fun w' hw' => by clear hw'; go_simp⟩) hH ?_
                 simp only [Act.put, la1, la2, la3, la4, la5, la6]
                 refine tk_ (i := 54) (v := .int .i64 rq) rfl (Or.inl ⟨by kernel_rfl, fun w' hw' => by have h := HE6.out w' (HFR.out w' hw'); go_simp⟩) hH ?_
                 simp only [Act.put, la1, la2, la3, la4, la5, la6]
                 refine rd1 (i := 35) (by kernel_rfl) rfl (fun K hK => ?_)
                 rw [if_pos (by kernel_rfl)]
                 go_simp
                 go_at_call 12
                 refine (HVP.out _ hH).mono ?_
                 rintro e x1 ⟨rfl, hb1⟩
                 go_wp2_with fail
                 refine hK.out _ _ (Kp.call hb1 hH) (fun hH => ?_)
                 clear hK K
                 try simp only [Act.put, la1, la2, la3, la4, la5, la6]
                 refine rd1 (i := 55) (by kernel_rfl) rfl (fun K hK => ?_)
                 rw [if_pos (by kernel_rfl)]
                 go_simp
                 go_at_call 13
                 refine (HVR.out _ hH).mono ?_
                 rintro e x2 ⟨rfl, hb2⟩
                 go_wp2_with fail
                 refine hK.out _ _ (Kp.call hb2 hH) (fun hH => ?_)
                 clear hK K
                 try simp only [Act.put, la1, la2, la3, la4, la5, la6]
                 refine tk_ (i := 56) (v := .bool false) rfl (Or.inl ⟨by kernel_rfl, fun w' hw' => by have h := HNV.out; go_simp⟩) hH ?_
                 simp only [Act.put, la1, la2, la3, la4, la5, la6]
                 refine tk_ (i := 57) (v := .bool false) rfl (Or.inl ⟨by kernel_rfl, fun w' _ => by kernel_rfl⟩) hH ?_
                 simp only [Act.put, la1, la2, la3, la4, la5, la6]
                 refine tk_ (i := 58) (v := .bool false) rfl (Or.inl ⟨by kernel_rfl, fun w' _ => by kernel_rfl⟩) hH ?_
                 simp only [Act.put, la1, la2, la3, la4, la5, la6]
                 refine tk_ (i := 59) (v := .pointer (some ⟨p, 0, none⟩)) rfl (Or.inl ⟨by kernel_rfl, fun w' _ => by kernel_rfl⟩) hH ?_
                 simp only [Act.put, la1, la2, la3, la4, la5, la6]
                 as_aux_lemma =>
                  refine tk_ (i := 61) (v := .pointer (some ⟨q, 0, none⟩)) rfl (Or.inl ⟨by kernel_rfl, fun w' _ => by kernel_rfl⟩) hH ?_
                  simp only [Act.put, la1, la2, la3, la4, la5, la6]
                  refine tk_ (i := 62) (v := .pointer (some ⟨q, 0, none⟩)) rfl (Or.inl ⟨by kernel_rfl, fun w' hw' => by clear hw'; go_simp⟩) hH ?_
                  simp only [Act.put, la1, la2, la3, la4, la5, la6]
                  refine tk_ (i := 63) (v := .pointer (some ⟨q, 0, none⟩)) rfl (Or.inl ⟨by kernel_rfl, fun w' hw' => by clear hw'; go_simp⟩) hH ?_
                  simp only [Act.put, la1, la2, la3, la4, la5, la6]
                  refine tk_ (i := 64) (v := .agg MC) rfl ?_ hH ?_
                  ·
                   refine yieldsIf_load_mid ?_ 41 (.tmp 162) ?_ q 0 ?_ (Array.toList MC) _ (fun W hW => HMR.out W hW) Tryz.underlying41 rfl (by exact HSZM.out)
                   all_goals kernel_rfl
                  simp only [Act.put, la1, la2, la3, la4, la5, la6]
                  refine rd1 (i := 60) (by kernel_rfl) rfl (fun K hK => ?_)
                  rw [if_pos (by kernel_rfl)]
                  go_simp
                  go_at_call 14
                  refine (HMK.out _ hH).mono ?_
                  rintro e x3 ⟨rfl, hb3⟩
                  go_wp2_with fail
                  refine hK.out _ _ (Kp.call hb3 hH) (fun hH => ?_)
                  clear hK K
                  try simp only [Act.put, la1, la2, la3, la4, la5, la6]
                  refine tk_ (i := 65) (v := .bool false) rfl (yields_neX egMk HEM.out (by kernel_rfl) (.tmp 159) (.tmp 163) _ rfl (by kernel_rfl) (by kernel_rfl)) hH ?_
                  simp only [Act.put, la1, la2, la3, la4, la5, la6]
                  refine tk_ (i := 66) (v := .bool false) rfl (Or.inl ⟨by kernel_rfl, fun w' _ => by kernel_rfl⟩) hH ?_
                  simp only [Act.put, la1, la2, la3, la4, la5, la6]
                  refine tk_ (i := 67) (v := .bool false) rfl (Or.inl ⟨by kernel_rfl, fun w' _ => by kernel_rfl⟩) hH ?_
                  simp only [Act.put, la1, la2, la3, la4, la5, la6]
                  refine tk_ (i := 68) (v := .pointer (some ⟨p, 0, none⟩)) rfl (Or.inl ⟨by kernel_rfl, fun w' _ => by kernel_rfl⟩) hH ?_
                  simp only [Act.put, la1, la2, la3, la4, la5, la6]
                  refine tk_ (i := 70) (v := .pointer (some ⟨q, 0, none⟩)) rfl (Or.inl ⟨by kernel_rfl, fun w' _ => by kernel_rfl⟩) hH ?_
                  simp only [Act.put, la1, la2, la3, la4, la5, la6]
                  refine tk_ (i := 71) (v := .pointer (some ⟨q, 0, none⟩)) rfl (Or.inl ⟨by kernel_rfl, fun w' hw' => by clear hw'; go_simp⟩) hH ?_
                  simp only [Act.put, la1, la2, la3, la4, la5, la6]
                  refine tk_ (i := 72) (v := .pointer (some ⟨q, 3, none⟩)) rfl (Or.inl ⟨by kernel_rfl, fun w' hw' => by clear hw'; go_simp⟩) hH ?_
                  simp only [Act.put, la1, la2, la3, la4, la5, la6]
                  as_aux_lemma =>
                   refine tk_ (i := 73) (v := .pointer (some ⟨qs, 0, none⟩)) rfl (Or.inl ⟨by kernel_rfl, fun w' hw' => by have h := HQ3.out w' hw'; go_simp⟩) hH ?_
                   simp only [Act.put, la1, la2, la3, la4, la5, la6]
                   refine tk_ (i := 74) (v := .pointer (some ⟨qs, 0, none⟩)) rfl (Or.inl ⟨by kernel_rfl, fun w' hw' => by clear hw'; go_simp⟩) hH ?_
                   simp only [Act.put, la1, la2, la3, la4, la5, la6]
                   refine tk_ (i := 75) (v := .pointer (some ⟨qs, 0, none⟩)) rfl (Or.inl ⟨by kernel_rfl, fun w' hw' => by clear hw'; go_simp⟩) hH ?_
                   simp only [Act.put, la1, la2, la3, la4, la5, la6]
                   refine tk_ (i := 76) (v := .slice Sq S'.w.T.length dS) rfl (Or.inl ⟨by kernel_rfl, fun w' hw' => by have h := HS0.out w' hw'; go_simp⟩) hH ?_
                   simp only [Act.put, la1, la2, la3, la4, la5, la6]
                   refine rd1 (i := 69) (by kernel_rfl) rfl (fun K hK => ?_)
                   rw [if_pos (by kernel_rfl)]
                   go_simp
                   go_at_call 16
                   refine (HSL.out _ hH).mono ?_
                   rintro e ys ⟨As, cs, rfl, hcsx, hrds, hbs⟩
                   go_wp2_with fail
                   have HRDs := hid hrds
                   have HCCs := hid hcsx
                   clear hrds hcsx
                   refine hK.out _ _ (Kp.call hbs hH) (fun hH => ?_)
                   clear hK K
                   try simp only [Act.put, la1, la2, la3, la4, la5, la6]
                   refine rd1 (i := 77) (by kernel_rfl) rfl (fun K hK => ?_)
                   rw [if_pos (by kernel_rfl)]
                   go_simp
                   go_at_call 15
                   refine (HSS.out _ _ _ HRDs.out HCCs.out hH).mono ?_
                   rintro e zs ⟨rfl, hbbs⟩
                   go_wp2_with fail
                   refine hK.out _ _ (Kp.call hbbs hH) (fun hH => ?_)
                   clear hK K
                   try simp only [Act.put, la1, la2, la3, la4, la5, la6]
                   refine tk_ (i := 78) (v := .bool false) rfl (Or.inl ⟨by kernel_rfl, fun w' hw' => by clear hw'; go_simp⟩) hH ?_
                   simp only [Act.put, la1, la2, la3, la4, la5, la6]
                   refine tk_ (i := 79) (v := .bool false) rfl (Or.inl ⟨by kernel_rfl, fun w' _ => by kernel_rfl⟩) hH ?_
                   simp only [Act.put, la1, la2, la3, la4, la5, la6]
                   refine tk_ (i := 80) (v := .bool false) rfl (Or.inl ⟨by kernel_rfl, fun w' _ => by kernel_rfl⟩) hH ?_
                   simp only [Act.put, la1, la2, la3, la4, la5, la6]
                   refine tk_ (i := 81) (v := .pointer (some ⟨p, 0, none⟩)) rfl (Or.inl ⟨by kernel_rfl, fun w' _ => by kernel_rfl⟩) hH ?_
                   simp only [Act.put, la1, la2, la3, la4, la5, la6]
                   refine tk_ (i := 83) (v := .pointer (some ⟨q, 0, none⟩)) rfl (Or.inl ⟨by kernel_rfl, fun w' _ => by kernel_rfl⟩) hH ?_
                   simp only [Act.put, la1, la2, la3, la4, la5, la6]
                   refine tk_ (i := 84) (v := .pointer (some ⟨q, 0, none⟩)) rfl (Or.inl ⟨by kernel_rfl, fun w' hw' => by clear hw'; go_simp⟩) hH ?_
                   simp only [Act.put, la1, la2, la3, la4, la5, la6]
                   as_aux_lemma =>
                    refine tk_ (i := 85) (v := .pointer (some ⟨q, 4, none⟩)) rfl (Or.inl ⟨by kernel_rfl, fun w' hw' => by clear hw'; go_simp⟩) hH ?_
                    simp only [Act.put, la1, la2, la3, la4, la5, la6]
                    refine tk_ (i := 86) (v := .pointer (some ⟨qb, 0, none⟩)) rfl (Or.inl ⟨by kernel_rfl, fun w' hw' => by have h := HQ4.out w' hw'; go_simp⟩) hH ?_
                    simp only [Act.put, la1, la2, la3, la4, la5, la6]
                    refine tk_ (i := 87) (v := .pointer (some ⟨qb, 0, none⟩)) rfl (Or.inl ⟨by kernel_rfl, fun w' hw' => by clear hw'; go_simp⟩) hH ?_
                    simp only [Act.put, la1, la2, la3, la4, la5, la6]
                    refine tk_ (i := 88) (v := .pointer (some ⟨qb, 0, none⟩)) rfl (Or.inl ⟨by kernel_rfl, fun w' hw' => by clear hw'; go_simp⟩) hH ?_
                    simp only [Act.put, la1, la2, la3, la4, la5, la6]
                    refine tk_ (i := 89) (v := .slice Aq S'.w.B.A.length dA) rfl (Or.inl ⟨by kernel_rfl, fun w' hw' => by have h := HA0.out w' hw'; go_simp⟩) hH ?_
                    simp only [Act.put, la1, la2, la3, la4, la5, la6]
                    refine rd1 (i := 82) (by kernel_rfl) rfl (fun K hK => ?_)
                    rw [if_pos (by kernel_rfl)]
                    go_simp
                    go_at_call 18
                    refine (HAL.out _ hH).mono ?_
                    rintro e ya ⟨Aa, ca, rfl, hcax, hrda, hba⟩
                    go_wp2_with fail
                    have HRDa := hid hrda
                    have HCCa := hid hcax
                    clear hrda hcax
                    refine hK.out _ _ (Kp.call hba hH) (fun hH => ?_)
                    clear hK K
                    try simp only [Act.put, la1, la2, la3, la4, la5, la6]
                    refine rd1 (i := 90) (by kernel_rfl) rfl (fun K hK => ?_)
                    rw [if_pos (by kernel_rfl)]
                    go_simp
                    go_at_call 17
                    refine (HSAc.out _ _ _ HRDa.out HCCa.out hH).mono ?_
                    rintro e za ⟨rfl, hbba⟩
                    go_wp2_with fail
                    refine hK.out _ _ (Kp.call hbba hH) (fun hH => ?_)
                    clear hK K
                    try simp only [Act.put, la1, la2, la3, la4, la5, la6]
                    refine tk_ (i := 91) (v := .bool false) rfl (Or.inl ⟨by kernel_rfl, fun w' hw' => by clear hw'; go_simp⟩) hH ?_
                    simp only [Act.put, la1, la2, la3, la4, la5, la6]
                    refine tk_ (i := 92) (v := .bool false) rfl (Or.inl ⟨by kernel_rfl, fun w' _ => by kernel_rfl⟩) hH ?_
                    simp only [Act.put, la1, la2, la3, la4, la5, la6]
                    refine tk_ (i := 93) (v := .bool false) rfl (Or.inl ⟨by kernel_rfl, fun w' _ => by kernel_rfl⟩) hH ?_
                    simp only [Act.put, la1, la2, la3, la4, la5, la6]
                    refine tk_ (i := 94) (v := .pointer (some ⟨p, 0, none⟩)) rfl (Or.inl ⟨by kernel_rfl, fun w' _ => by kernel_rfl⟩) hH ?_
                    simp only [Act.put, la1, la2, la3, la4, la5, la6]
                    refine tk_ (i := 96) (v := .pointer (some ⟨q, 0, none⟩)) rfl (Or.inl ⟨by kernel_rfl, fun w' _ => by kernel_rfl⟩) hH ?_
                    simp only [Act.put, la1, la2, la3, la4, la5, la6]
                    as_aux_lemma =>
                     refine tk_ (i := 97) (v := .pointer (some ⟨q, 0, none⟩)) rfl (Or.inl ⟨by kernel_rfl, fun w' hw' => by clear hw'; go_simp⟩) hH ?_
                     simp only [Act.put, la1, la2, la3, la4, la5, la6]
                     refine tk_ (i := 98) (v := .pointer (some ⟨q, 4, none⟩)) rfl (Or.inl ⟨by kernel_rfl, fun w' hw' => by clear hw'; go_simp⟩) hH ?_
                     simp only [Act.put, la1, la2, la3, la4, la5, la6]
                     refine tk_ (i := 99) (v := .pointer (some ⟨qb, 0, none⟩)) rfl (Or.inl ⟨by kernel_rfl, fun w' hw' => by have h := HQ4.out w' hw'; go_simp⟩) hH ?_
                     simp only [Act.put, la1, la2, la3, la4, la5, la6]
                     refine tk_ (i := 100) (v := .pointer (some ⟨qb, 0, none⟩)) rfl (Or.inl ⟨by kernel_rfl, fun w' hw' => by clear hw'; go_simp⟩) hH ?_
                     simp only [Act.put, la1, la2, la3, la4, la5, la6]
                     refine tk_ (i := 101) (v := .pointer (some ⟨qb, 1, none⟩)) rfl (Or.inl ⟨by kernel_rfl, fun w' hw' => by clear hw'; go_simp⟩) hH ?_
                     simp only [Act.put, la1, la2, la3, la4, la5, la6]
                     refine tk_ (i := 102) (v := .slice Tq S'.w.B.T.length dT) rfl (Or.inl ⟨by kernel_rfl, fun w' hw' => by have h := HT0.out w' hw'; go_simp⟩) hH ?_
                     simp only [Act.put, la1, la2, la3, la4, la5, la6]
                     refine rd1 (i := 95) (by kernel_rfl) rfl (fun K hK => ?_)
                     rw [if_pos (by kernel_rfl)]
                     go_simp
                     go_at_call 20
                     refine (HTL.out _ hH).mono ?_
                     rintro e yt ⟨At, ct, rfl, hctx, hrdt, hbt⟩
                     go_wp2_with fail
                     have HRDt := hid hrdt
                     have HCCt := hid hctx
                     clear hrdt hctx
                     refine hK.out _ _ (Kp.call hbt hH) (fun hH => ?_)
                     clear hK K
                     try simp only [Act.put, la1, la2, la3, la4, la5, la6]
                     refine rd1 (i := 103) (by kernel_rfl) rfl (fun K hK => ?_)
                     rw [if_pos (by kernel_rfl)]
                     go_simp
                     go_at_call 19
                     refine (HSTr.out _ _ _ HRDt.out HCCt.out hH).mono ?_
                     rintro e zt ⟨rfl, hbbt⟩
                     go_wp2_with fail
                     refine hK.out _ _ (Kp.call hbbt hH) (fun hH => ?_)
                     clear hK K
                     try simp only [Act.put, la1, la2, la3, la4, la5, la6]
                     refine tk_ (i := 104) (v := .bool false) rfl (Or.inl ⟨by kernel_rfl, fun w' hw' => by clear hw'; go_simp⟩) hH ?_
                     simp only [Act.put, la1, la2, la3, la4, la5, la6]
                     refine tk_ (i := 105) (v := .bool false) rfl (Or.inl ⟨by kernel_rfl, fun w' _ => by kernel_rfl⟩) hH ?_
                     simp only [Act.put, la1, la2, la3, la4, la5, la6]
                     refine tk_ (i := 106) (v := .bool false) rfl (Or.inl ⟨by kernel_rfl, fun w' _ => by kernel_rfl⟩) hH ?_
                     simp only [Act.put, la1, la2, la3, la4, la5, la6]
                     refine tk_ (i := 107) (v := .pointer (some ⟨p, 0, none⟩)) rfl (Or.inl ⟨by kernel_rfl, fun w' _ => by kernel_rfl⟩) hH ?_
                     simp only [Act.put, la1, la2, la3, la4, la5, la6]
                     as_aux_lemma =>
                      refine tk_ (i := 109) (v := .pointer (some ⟨q, 0, none⟩)) rfl (Or.inl ⟨by kernel_rfl, fun w' _ => by kernel_rfl⟩) hH ?_
                      simp only [Act.put, la1, la2, la3, la4, la5, la6]
                      refine rd1 (i := 108) (by kernel_rfl) rfl (fun K hK => ?_)
                      rw [if_pos (by kernel_rfl)]
                      go_simp
                      go_at_call 21
                      refine (HPK.out _ hH).mono ?_
                      rintro e x7 ⟨rfl, hb7⟩
                      go_wp2_with fail
                      refine hK.out _ _ (Kp.call hb7 hH) (fun hH => ?_)
                      clear hK K
                      try simp only [Act.put, la1, la2, la3, la4, la5, la6]
                      refine rd1 (i := 110) (by kernel_rfl) rfl (fun K hK => ?_)
                      rw [if_pos (by kernel_rfl)]
                      go_simp
                      go_at_call 22
                      refine (HPR.out _ hH).mono ?_
                      rintro e x8 ⟨rfl, hb8⟩
                      go_wp2_with fail
                      refine hK.out _ _ (Kp.call hb8 hH) (fun hH => ?_)
                      clear hK K
                      try simp only [Act.put, la1, la2, la3, la4, la5, la6]
                      refine rd1 (i := 111) (by kernel_rfl) rfl (fun K hK => ?_)
                      rw [if_pos (by kernel_rfl)]
                      go_simp
                      refine hK.out _ _ (hH) (fun hH => ?_)
                      clear hK K
                      try simp only [Act.put, la1, la2, la3, la4, la5, la6]
                      refine rd1 (i := 112) (by kernel_rfl) rfl (fun K hK => ?_)
                      go_simp
                      refine hK.out _ _ (hH) (fun hH => ?_)
                      clear hK K
                      try simp only [Act.put, la1, la2, la3, la4, la5, la6]
                      refine wpAnyH_done (by kernel_rfl) ?_ _
                      try simp only [Act.put, la1, la2, la3, la4, la5, la6]
                      have hlt := HLT.out
                      have h60 := H60.out
                      go_wp2_with fail
                      exact ⟨⟨k + 1, S', by omega, by go_num, HWF.out, (HP2.out.below hH).1.sub (by simp)⟩, by simp [intOf]; omega⟩
        ·
         have hszi : (5000 : Int) < (X.body.size : Int) := by omega
         have h60 := H60.out
         go_wp2_with fail
         exact ⟨⟨k + 1, S, by omega, by go_num, hwf, HTR.out⟩, by simp [intOf]; omega⟩
       ·
        obtain rfl : k = nl := by omega
        have hi1 : ¬ (k : Int) < (k : Int) := by omega
        go_wp2_with fail
        go_ret
        have hfr := HTR.out.frame
        exact ⟨rfl, HB1.out.trans (hfr.mono HB1.out.size)⟩
end Go.Proofs.YtgednnjmcjhfmaaGreatDoor
