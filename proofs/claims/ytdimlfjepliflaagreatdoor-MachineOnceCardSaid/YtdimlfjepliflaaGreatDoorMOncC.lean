/-
  The walk of MachineOnce.
-/
import Derived.Test.YtdimlfjepliflaaGreatDoorMOcC
import Derived.Test.YtdimlfjepliflaaGreatDoorD23
import Derived.Deep.CutRange
import Derived.Deep.DeepCutAuto
import Derived.BigQuiet
import Derived.Deep.RegionHeld
namespace Go.Proofs.YtdimlfjepliflaaGreatDoor
open Go.RowKit
set_option maxRecDepth 10000

theorem ansInfo : (Tryz.prog.info? 33).map (fun i => (i.zero, i.size, i.bytes)) = some (some (.agg an0.cl.toArray), 6, 56) := by kernel_rfl
/-- a store of one cell -/
theorem wp_store_cL {P : Program} {o : Oper} {a : Act} {w : World} {K : Act → World → Prop} {Q : Exit → Act → World → Prop} (T : TypeId) (x y : Operand) (ho : o.op = .store T x y)
    (g i : Nat) (v : Value) (hx : a.eval x = .pointer (some ⟨g, i, none⟩)) (hy : a.eval y = v) {E : TypeId} {xs : List Value} (hrow : Row w g E xs) (hs : (P.info? T).map (·.size) = some 1) (hi : i < xs.length) (hone : v.oneCell' = true)
    (hK : ∀ w', Row w' g E (xs.set i v) → w.grownBy w' (some g) → K (a.put o.dst undef) w') : o.wp P a w K Q := by
  have h1 := run_storeCells_cells (P := P) g i [v] 0 w (fun j hj => by
    have : j = 0 := by simpa using hj
    subst this
    show (w.cell? ⟨g, i, none⟩).isSome = true
    rw [hrow.cell, List.getElem?_eq_getElem hi]; rfl) (fun j hj => hrow.frozen _) (fun u hu => by rw [List.mem_singleton.1 hu]; exact hone)
  have hc : v.cells = #[v] := by cases v <;> first | rfl | cases hone
  have hrun : (storeVar T ⟨g, i, none⟩ v).run P w = .ok () (w.setCell ⟨g, i, none⟩ v) := by
    obtain ⟨j, hj, hjs⟩ := Option.map_eq_some_iff.1 hs
    simp only [Nat.add_zero] at h1
    simp [storeVar, sizeOf, typeInfo, hj, hjs, hc, h1]
    rfl
  unfold Oper.wp execOp
  simp only [ho, hx, hy, Instr.storeAt, Instr.sureAddr, Sem.run_bind, Sem.run_pure, Result.andThen_ok, hrun]
  exact hK _ (hrow.set_ i v) ⟨rfl, rfl, rfl, by simp, fun k _ hr => heap_setCell_other w ⟨g, i, none⟩ k v (by intro e; exact hr (by rw [e]))⟩
theorem own_range {α : Type} {C : α → List Value} {w : World} {B e mm g n c : Nat} {l : List α} (h : w.ownsRow B e mm (.slice (some ⟨g, 0, none⟩) n c) n (rows C l)) (hC : ∀ x, (C x).length = mm) {k : Nat} (hk : k < l.length) : w.rangeAt g (k * mm) (C l[k]) := by
  obtain ⟨A, c', e1, _, hrd⟩ := own_rd h
  simp only [Value.slice.injEq, true_and] at e1
  obtain ⟨rfl, rfl⟩ := e1
  have := range_of hrd hC hk
  simpa using this
/-- the machine, a session, an entry, the answers told, apart -/
def OB (w1 : World) (p : Nat) (S : Ma) (G : List Nat) (bs bx : Nat) (X Y : List Value) (tv : Value) (m : Nat) (RT : List Value) (W : World) : Prop :=
  Sg w1 KP p S G W ∧ Row W bs 65 X ∧ Row W bx 31 Y ∧ W.ownsRow w1.heap.size 33 6 tv m RT ∧ bs ∈ G ∧ bx ∈ G ∧ ∀ g, tv.ownBlock = some g → g ∈ G
section
variable {w1 W W' : World} {p bs bx g : Nat} {S S' : Ma} {G : List Nat} {X Y : List Value} {tv : Value} {m : Nat} {RT : List Value} {P : Program} {f : FuncId} {args : Array Value} {v : Ending}
theorem OB.below (h : OB w1 p S G bs bx X Y tv m RT W) (hb : Below W.heap.size W W') : OB w1 p S G bs bx X Y tv m RT W' := by
  obtain ⟨h1, h2, h3, h4, h5⟩ := h
  exact ⟨h1.below hb, h2.below hb h2.lt, h3.below hb h3.lt, own_below h4 hb, h5⟩
theorem OB.add (h : OB w1 p S G bs bx X Y tv m RT W) (hb : Below W.heap.size W W') (hg : W.heap.size ≤ g) (hlt : g < W'.heap.size) : OB w1 p S (g :: G) bs bx X Y tv m RT W' := by
  obtain ⟨h1, h2, h3, h4, h5, h6, h7⟩ := h
  exact ⟨h1.add hb hg hlt, h2.below hb h2.lt, h3.below hb h3.lt, own_below h4 hb, List.mem_cons_of_mem _ h5, List.mem_cons_of_mem _ h6, fun b hb => List.mem_cons_of_mem _ (h7 b hb)⟩
theorem OB.call (h : OB w1 p S G bs bx X Y tv m RT W) (H : ∀ fp, Hm KP p S fp W → Calls P f args W fun e w' => e = v ∧ Hmw KP p W fp S' w') : Calls P f args W fun e w' => e = v ∧ OB w1 p S' G bs bx X Y tv m RT w' ∧ Kf G W w' := by
  obtain ⟨h1, h2, h3, h4, h5, h6, h7⟩ := h
  exact (h1.callF H).mono fun e w' hh => ⟨hh.1, ⟨hh.2.1, hh.2.2.row h2 h5, hh.2.2.row h3 h6, hh.2.2.own h4 h7, h5, h6, h7⟩, hh.2.2⟩
theorem OB.write (h : OB w1 p S G bs bx X Y tv m RT W) (hw : W.grownBy W' (some g)) (hg : g ∈ G) (h0 : w1.heap.size ≤ g) (hs : g ≠ bs) (hx : g ≠ bx) (ht : tv.ownBlock ≠ some g) : OB w1 p S G bs bx X Y tv m RT W' := by
  obtain ⟨h1, h2, h3, h4, h5, h6, h7⟩ := h
  exact ⟨h1.write hw hg h0, h2.grown hw (fun e => hs (Option.some.inj e).symm), h3.grown hw (fun e => hx (Option.some.inj e).symm), own_grown h4 hw ht, h5, h6, h7⟩
end
/-! ### the law's own word session -/
set_option maxHeartbeats 4000000 in
theorem mse_any (p : Nat) (S : Ma) (fp : List Nat) (cl : Int) (w : World) (hle : S.w.T.length ≤ 3) (h : Hm KP p S fp w) : Calls Tryz.prog 27 #[.pointer (some ⟨p, 0, none⟩), .int .i64 cl] w (VE w (.tuple #[.agg (look S.w.T cl).cells.toArray, .bool (decide (pl S.w.T cl < S.w.T.length))])) := by
  have HSE := hid (fun W (hW : Below w.heap.size w W) => mses_any p S fp W (h.below hW))
  generalize S.w.T = l at *
  have HZ5 := hid ssSize
  have HB0 := hid ((Below.refl w.heap.size w).alloc (Nat.le_refl _) (.cells #[.int .i64 0, .int .i64 0, .int .i64 0, .int .i64 0, .string ⟨#[]⟩] 65))
  have HR0 := hid (show Row (w.alloc (.cells #[.int .i64 0, .int .i64 0, .int .i64 0, .int .i64 0, .string ⟨#[]⟩] 65)) w.heap.size 65 ss0.cells from Row.new _ _ _)
  obtain ⟨n, hn⟩ : ∃ n, n = l.length := ⟨_, rfl⟩
  have HSE2 : Hid (∀ W, Below w.heap.size w W → Calls Tryz.prog 20 #[.pointer (some ⟨p, 0, none⟩)] W fun e w' => ∃ A c, e = .returned (.slice A n c) ∧ Rd w' w'.heap.size A (rows Ss.cells l) ∧ Below W.heap.size W w') := hid fun W hW => (HSE.out W hW).mono fun e w' hh => by
    obtain ⟨A, c, e1, _, h2, h3, -⟩ := hh
    rw [← hn] at e1
    exact ⟨A, c, e1, h2, h3⟩
  have HN := hid hn
  rw [← hn] at hle
  clear h HSE hn
  go_enter Tryz.func27, Tryz.ntmps27
  go_wp2_with (go_at_call 20; refine (HSE2.out _ HB0.out).mono ?_; rintro e w2 ⟨A, c, rfl, hr2, hx⟩; have HB2 := hid (HB0.out.trans (hx.mono HB0.out.size)); have HR2 := hid hr2; have HT2 := hid (HR0.out.below hx HR0.out.lt); clear hx hr2)
  go_loopw [7] (fun iv wr => ∃ k : Nat, k ≤ n ∧ k ≤ pl l cl ∧ iv = .int .i64 (k : Int) ∧ Below w2.heap.size w2 wr) (fun iv _ => n - (intOf iv).toNat)
  case atStart => exact ⟨0, by omega, by omega, rfl, Below.refl _ _⟩
  case round =>
    obtain ⟨k, hk, hkp, rfl, hbe⟩ := hrel
    have HBE := hid hbe
    clear hbe
    by_cases hlt : k < n
    · have hkl : k < l.length := by rw [← HN.out]; exact hlt
      obtain ⟨ga, o, rfl⟩ := shape_of HR2.out Ss.len (by decide) (by omega)
      have hrg := range_of (HR2.out.below HBE.out (Nat.le_refl _)) Ss.len hkl
      have hcc := hrg 0 _ rfl
      rw [Nat.add_zero] at hcc
      have HRG := hid hrg
      have hi0 : (0 : Int) ≤ (k : Int) := by omega
      have hi1 : (k : Int) < (n : Int) := by omega
      by_cases hc : l[k].c = cl
      · have hpl := pl_this hkp hkl hc
        have HLK : Hid ((look l cl).cells = l[k].cells ∧ decide (pl l cl < l.length) = true) := hid (by
          rw [look_here (by rw [hpl]; exact hkl), hpl, at_get hkl]
          exact ⟨rfl, decide_eq_true hkl⟩)
        have HC5 : Hid (l[k].cells.length = 5) := hid rfl
        have HC1 : Hid (l[k].cells.all (·.oneCell') = true) := hid (Ss.one _)
        have heq : (l[k].c == cl) = true := by simp [hc]
        have HRT := hid (HT2.out.below HBE.out HT2.out.lt)
        generalize l[k].c = xc at *
        generalize l[k].cells = X at *
        clear hrg hpl hkp hc
        go_wp2_with (first
          | (refine wpList_load_mid rfl 65 (.tmp 25) rfl ga (o + k * 5) rfl X _ HRG.out Tryz.underlying65 rfl (by rw [HC5.out]; exact HZ5.out) ?_)
          | (refine wpl_store_st rfl (.tmp 4) (.tmp 26) rfl HZ5.out w.heap.size ss0.cells X rfl rfl HRT.out ?_ (hid rfl) (hid HC5.out) (hid HC1.out); intro w5 hr5 hg5))
        refine bodyPost_ret (v := .tuple #[.agg X.toArray, .bool true])
          (results_cell1 rfl _ _ w.heap.size 65 X.toArray (0, 0) _ (.bool true) rfl rfl hr5.arr' Tryz.underlying65 rfl (by rw [List.size_toArray, HC5.out]; exact HZ5.out)) rfl ⟨by rw [HLK.out.1, HLK.out.2], ?_⟩
        have hb := HB2.out.trans (HBE.out.mono HB2.out.size)
        exact hb.trans (below_grown hg5 (Nat.le_refl _) hb.size)
      · have hne : (l[k].c == cl) = false := beq_eq_false_iff_ne.2 hc
        have hkp1 : k + 1 ≤ pl l cl := by
          rcases Nat.lt_or_ge k (pl l cl) with h1 | h1
          · exact h1
          · have e : k = pl l cl := by omega
            subst e
            exact absurd (pl_here hkl) hc
        generalize l[k].c = xc at *
        clear hrg hc HRG
        go_wp2_with fail
        exact ⟨⟨k + 1, by omega, hkp1, by go_num, HBE.out⟩, by simp [intOf]; omega⟩
    · have hi1 : ¬ (k : Int) < (n : Int) := by omega
      have hno : ¬ pl l cl < l.length := by rw [← HN.out]; omega
      have HLK : Hid ((look l cl).cells = ss0.cells ∧ decide (pl l cl < l.length) = false) := hid ⟨by unfold look; rw [if_neg hno], decide_eq_false hno⟩
      have HRT := hid (HT2.out.below HBE.out HT2.out.lt)
      clear hno
      go_wp2_with (refine wpl_store_st rfl (.tmp 4) (.tmp 27) rfl HZ5.out w.heap.size ss0.cells ss0.cells rfl rfl HRT.out ?_ (hid rfl) (hid rfl) (hid rfl); intro w5 hr5 hg5)
      refine bodyPost_ret (v := .tuple #[.agg ss0.cells.toArray, .bool false])
        (results_cell1 rfl _ _ w.heap.size 65 ss0.cells.toArray (0, 0) _ (.bool false) rfl rfl hr5.arr' Tryz.underlying65 rfl HZ5.out) rfl ⟨by rw [HLK.out.1, HLK.out.2], ?_⟩
      have hb := HB2.out.trans (HBE.out.mono HB2.out.size)
      exact hb.trans (below_grown hg5 (Nat.le_refl _) hb.size)
set_option maxHeartbeats 32000000 in
theorem monce_law (A : Option Addr) (n c : Nat) (XS : List En) (x1 : Int) (w : World) (hf : Fd w) (hn : n = XS.length) (_hc : n ≤ c) (hm : n ≤ 9223372036854775807) (hR : Rd w w.heap.size A (rows En.cl XS)) (hX : ∀ X ∈ XS, X.good) : Calls Tryz.prog 4 #[.slice A n c, .int .i64 x1] w (Yes w) := by
  have HAW := hid (fun W hW => mawake_any W hW)
  have HPU := hid (fun W (hW : Below w.heap.size w W) => put_law A XS n c W (hf.below hW hf.1) ((hR.below hW (Nat.le_refl _)).more hW.size) hn hm hX)
  have HNW := hid (fun W => mnew_any W)
  have HF := hid hf
  have HZE := hid esize
  have HZ := hid asize
  have HZM := hid msize
  obtain ⟨hpg, hp60⟩ := put_good XS hX
  generalize put XS = L at *
  obtain ⟨nl, hnl⟩ : ∃ nl, nl = L.length := ⟨_, rfl⟩
  have HPU2 : Hid (∀ W, Below w.heap.size w W → Calls Tryz.prog 9 #[.slice A n c] W fun e w' => ∃ A1 c1, e = .returned (.slice A1 nl c1) ∧ nl ≤ c1 ∧ Rd w' w'.heap.size A1 (rows En.cl L) ∧ Below W.heap.size W w') := hid fun W hW => (HPU.out W hW).mono fun e w' hh => by
    obtain ⟨A1, c1, e1, h1, h2, h3, -⟩ := hh
    rw [← hnl] at e1 h1
    exact ⟨A1, c1, e1, h1, h2, h3⟩
  rw [← hnl] at hp60
  have HNL := hid hnl
  have HPG := hid hpg
  have HPA := hid (fun k (hk : k ≤ L.length) => playA_wf L hpg k hk)
  have HPS := hid (fun k (hk : k < L.length) => playA_succ L k hk)
  have HP0 := hid (playA_zero L)
  clear hf hn hR hX hpg hnl HPU
  obtain ⟨i0, hi, hz0, hz1, hz2⟩ := info_parts entInfo
  obtain ⟨j0, hj, hy0, hy1, hy2⟩ := info_parts ansInfo
  have HZS := hid ssSize
  have HON := hid (fun k (hk : k ≤ nl) (h6 : k ≤ 60) => onc_all L HPG.out k (by rw [← HNL.out]; exact hk) h6)
  have HOC := hid (fun k (hk : k < L.length) => oncS_succ L k hk)
  have HNEWS := hid (fun (W : World) (Y : List Value) => show ∀ j u, Y[j]? = some u → (W.alloc (.cells Y.toArray 31)).cell? ((⟨W.heap.size, 0, none⟩ : Addr).add j) = some u from fun j u hu => by have := World.news_of_block (heap_alloc_new W (.cells Y.toArray 31)) j u (by simpa using hu); exact this)
  have HNEWA := hid (fun (W : World) (Y : List Value) => show ∀ j u, Y[j]? = some u → (W.alloc (.cells Y.toArray 33)).cell? ((⟨W.heap.size, 0, none⟩ : Addr).add j) = some u from fun j u hu => by have := World.news_of_block (heap_alloc_new W (.cells Y.toArray 33)) j u (by simpa using hu); exact this)
  go_enter Tryz.func4, Tryz.ntmps4
  go_wp2_with (first
    | (go_at_call 8; refine (HAW.out _ HF.out).mono ?_; rintro e wa ⟨rfl, hx⟩; have HBA := hid hx; clear hx)
    | (go_at_call 9; refine (HPU2.out _ HBA.out).mono ?_; rintro e w1 ⟨A1, c1, rfl, hc1, hr1, hx⟩; have HB1 := hid (HBA.out.trans (hx.mono HBA.out.size)); have HR1 := hid hr1; clear hx hr1)
    | (go_at_call 10; refine (HNW.out _).mono ?_; rintro e w2 ⟨p, fp, rfl, hk, hfp, hx⟩; have HS := hid (Sg.mk' (w0 := w1) (Below.refl _ _) hk hfp hx); clear hk hfp hx))
  have HF1 := hid (HF.out.below HB1.out HF.out.1)
  go_loopw [6, 7, 8] (fun dv tv iv wr => ∃ (k : Nat) (s : Ma × List (En × An)) (m : Nat) (G : List Nat), k ≤ nl ∧ iv = .int .i64 (k : Int) ∧ Hid (s = oncS L k) ∧ Hid (m = s.2.length) ∧ Sg w1 KP p s.1 G wr ∧ wr.ownsRow w1.heap.size 31 9 dv m (rows En.cl (s.2.map Prod.fst)) ∧ wr.ownsRow w1.heap.size 33 6 tv m (rows An.cl (s.2.map Prod.snd)) ∧ Hid (∀ g, dv.ownBlock = some g → g ∈ G) ∧ Hid (∀ g, tv.ownBlock = some g → g ∈ G)) (fun _ _ iv _ => nl - (intOf iv).toNat)
  case atStart =>
    have h1 := HS.out.add ((Below.refl _ _).alloc (Nat.le_refl _) (.cells #[] 31)) (Nat.le_refl _) (by simp)
    have h2 := h1.add ((Below.refl _ _).alloc (Nat.le_refl _) (.cells #[] 33)) (Nat.le_refl _) (by simp)
    have hs := HS.out.frame.size
    have o1 := (own_empty (w := w2.alloc (.cells #[] 31)) (m := 9) (Row.new w2 31 #[]) hs).alloc (.cells #[] 33)
    have o2 := own_empty (w := (w2.alloc (.cells #[] 31)).alloc (.cells #[] 33)) (B := w1.heap.size) (m := 6) (Row.new (w2.alloc (.cells #[] 31)) 33 #[]) (by simp; omega)
    refine ⟨0, (ma0, []), 0, _, by omega, rfl, hid rfl, hid rfl, h2, o1, by simpa [rows] using o2, hid ?_, hid ?_⟩
    · intro g hg; simp [Value.ownBlock] at hg; simp [hg]
    · intro g hg; simp [Value.ownBlock] at hg; simp [hg]
  case round =>
    obtain ⟨k, s, m, G, hk, rfl, HOS, HM, hsr, hod, hot, HGD, HGT⟩ := hrel
    have HSR := hid hsr
    have HOD := hid hod
    have HOT := hid hot
    clear hsr hod hot HS
    by_cases hlt : k < nl
    · have hkl : k < L.length := by rw [← HNL.out]; exact hlt
      have hone := HON.out k (by omega) (by omega)
      rw [← HOS.out] at hone
      have hmk : m ≤ k := by rw [HM.out]; exact hone.len
      have hsuc := HOC.out k hkl
      rw [← HOS.out] at hsuc
      unfold oncF at hsuc
      obtain ⟨ga, o, rfl⟩ := shape_of HR1.out En.cl_len (by decide) (by omega)
      have HRX := hid (fun W (hW : Below w1.heap.size w1 W) => range_of (HR1.out.below hW (Nat.le_refl _)) En.cl_len hkl)
      have HAP := hid (fun fp W hW hk => mapp_any p s.1 fp L[k] W (HPG.out _ (List.getElem_mem hkl)).1 hW hk)
      have HX9 := hid (En.cl_len L[k])
      have HXO := hid (L[k].cl_ones)
      have HZX : Hid ((Tryz.prog.info? 31).map (·.size) = some L[k].cl.toArray.size) := hid (ecells_size L[k])
      have HXO1 : Hid (∀ W, Below w1.heap.size w1 W → W.cell? ⟨ga, o + k * 9 + 1, none⟩ = some (.int .i64 L[k].opn)) := hid fun W hW => HRX.out W hW 1 _ rfl
      have HTK : Hid (Took s.1 L[k] ↔ (s.1.appE L[k] = 0 ∧ (s.1.appA L[k]).kind = 1 ∧ (s.1.appA L[k]).opn = L[k].opn)) := hid Iff.rfl
      obtain ⟨an, han⟩ : ∃ an, an = s.1.appA L[k] := ⟨_, rfl⟩
      obtain ⟨er, her⟩ : ∃ er, er = s.1.appE L[k] := ⟨_, rfl⟩
      obtain ⟨S1, hS1⟩ : ∃ S1, S1 = s.1.app L[k] := ⟨_, rfl⟩
      have HAP2 : Hid (∀ fp W, Fd W → Hm KP p s.1 fp W → Calls Tryz.prog 12 #[.pointer (some ⟨p, 0, none⟩), .agg L[k].cl.toArray] W fun x w' => x = .returned (.tuple #[.agg an.cl.toArray, .int .i64 er]) ∧ Hmw KP p W fp S1 w') := hid (by rw [han, her, hS1]; exact HAP.out)
      rw [← han, ← her] at HTK
      rw [← han, ← hS1] at hsuc
      have hi0 : (0 : Int) ≤ (k : Int) := by omega
      have hi1 : (k : Int) < (nl : Int) := by omega
      generalize L[k] = x at *
      have HEQ := hid hsuc
      obtain ⟨ak, acl, asn, arq, aop, ab⟩ := an
      simp only at HTK
      clear HAP han her hS1 hsuc hone
      have HW1 := hid (fun (W : World) (hW : Below wr.heap.size wr W) => show Below w1.heap.size w1 W from HSR.out.frame.trans (hW.mono HSR.out.frame.size))
      go_wp2_with (first
        | (refine wpList_load_mid rfl 31 (.tmp 35) rfl ga (o + k * 9) rfl x.cl _ (HRX.out _ HSR.out.frame) Tryz.underlying31 rfl HZX.out ?_)
        | (go_at_call 12; refine (HSR.out.callF (fun fp hk => HAP2.out fp _ (HF1.out.below HSR.out.frame HF1.out.1) hk)).mono ?_; rintro e w4 ⟨rfl, hs4, hkf⟩; have HS4 := hid hs4; have HOD4 := hid (hkf.own HOD.out HGD.out); have HOT4 := hid (hkf.own HOT.out HGT.out); clear hs4 hkf)
        | (refine wpl_store_st rfl (.tmp 9) (.tmp 38) rfl HZ.out w4.heap.size an0.cells.toList [.int .i64 ak, .int .i64 acl, .int .i64 asn, .int .i64 arq, .int .i64 aop, .string ab] rfl rfl (Row.new _ _ _) ?_ (hid rfl) (hid rfl) (hid rfl); intro W5 hr5 hg5; have HRA := hid hr5; have HB5 := hid (((Below.refl w4.heap.size w4).alloc (Nat.le_refl _) (.cells an0.cells 33)).trans (below_grown hg5 (Nat.le_refl _) (by simp))); clear hr5 hg5))
      have HS5 := hid (HS4.out.below HB5.out)
      have HOD5 := hid (own_below HOD4.out HB5.out)
      have HOT5 := hid (own_below HOT4.out HB5.out)
      have HND := hid (fun g hg => (HOD4.out.lt g hg).2)
      have HNT := hid (fun g hg => (HOT4.out.lt g hg).2)
      replace HXO1 : Hid (∀ W, Below W5.heap.size W5 W → W.cell? ⟨ga, o + k * 9 + 1, none⟩ = some (.int .i64 x.opn)) := hid fun W hW => HXO1.out W (HS5.out.frame.trans (hW.mono HS5.out.frame.size))
      clear HS4 HOD4 HOT4
      by_cases hT : er = 0 ∧ ak = 1 ∧ aop = x.opn
      · rw [if_pos (HTK.out.2 hT)] at HEQ
        obtain ⟨rfl, rfl, hao⟩ := hT
        generalize x.opn = xo at *
        subst hao
        obtain ⟨s1, hs1⟩ : ∃ s1 : Ma × List (En × An), s1 = (S1, s.2 ++ [(x, ⟨1, acl, asn, arq, aop, ab⟩)]) := ⟨_, rfl⟩
        have HE1 : Hid (s1 = oncS L (k + 1)) := hid (by rw [hs1, HEQ.out])
        have HF0 : Hid (s1.1 = S1) := hid (by rw [hs1])
        have HLN : Hid (m + 1 = s1.2.length) := hid (by rw [hs1, List.length_append, ← HM.out]; rfl)
        have HRW1 : Hid (rows En.cl (s1.2.map Prod.fst) = rows En.cl (s.2.map Prod.fst) ++ x.cl) := hid (by rw [hs1, List.map_append, rows_app]; simp [rows1])
        have HRW2 : Hid (rows An.cl (s1.2.map Prod.snd) = rows An.cl (s.2.map Prod.snd) ++ [.int .i64 1, .int .i64 acl, .int .i64 asn, .int .i64 arq, .int .i64 aop, .string ab]) := hid (by rw [hs1, List.map_append, rows_app]; simp [rows]; rfl)
        clear hs1
        have NEWS := HNEWS.out
        have NEWA := HNEWA.out
        try simp only [Act.put]
        refine wp_region_held_drew (S := fun W => Below W5.heap.size W5 W) (by kernel_rfl) ((Below.refl _ _).drew) (fun hH => ?_)
        refine wpAnyH_take (i := 0) (v := .int .i64 0) rfl (by kernel_rfl) (by kernel_rfl) (by kernel_rfl) (fun _ _ _ h => h) (Or.inl ⟨by kernel_rfl, fun w' hw' => by clear hw'; go_simp⟩) hH ?_
        simp only [Act.put]
        refine wpAnyH_take (i := 1) (v := .bool true) rfl (by kernel_rfl) (by kernel_rfl) (by kernel_rfl) (fun _ _ _ h => h) (Or.inl ⟨by kernel_rfl, fun w' hw' => by clear hw'; go_simp⟩) hH ?_
        simp only [Act.put]
        refine wpAnyH_take (i := 2) (v := .bool true) rfl (by kernel_rfl) (by kernel_rfl) (by kernel_rfl) (fun _ _ _ h => h) (Or.inl ⟨by kernel_rfl, fun w' hw' => by clear hw'; go_simp⟩) hH ?_
        simp only [Act.put]
        refine wpAnyH_take (i := 3) (v := .pointer (some ⟨w4.heap.size, 0, none⟩)) rfl (by kernel_rfl) (by kernel_rfl) (by kernel_rfl) (fun _ _ _ h => h) (Or.inl ⟨by kernel_rfl, fun w' hw' => by clear hw'; go_simp⟩) hH ?_
        simp only [Act.put]
        refine wpAnyH_take (i := 4) (v := .int .i64 1) rfl (by kernel_rfl) (by kernel_rfl) (by kernel_rfl) (fun _ _ _ h => h) (Or.inl ⟨by kernel_rfl, fun w' hw' => by have h := (HRA.out.below hw' HRA.out.lt).at_ 0 _ rfl; clear hw'; go_simp⟩) hH ?_
        simp only [Act.put]
        refine wpAnyH_take (i := 5) (v := .bool true) rfl (by kernel_rfl) (by kernel_rfl) (by kernel_rfl) (fun _ _ _ h => h) (Or.inl ⟨by kernel_rfl, fun w' hw' => by clear hw'; go_simp⟩) hH ?_
        simp only [Act.put]
        refine wpAnyH_take (i := 6) (v := .bool true) rfl (by kernel_rfl) (by kernel_rfl) (by kernel_rfl) (fun _ _ _ h => h) (Or.inl ⟨by kernel_rfl, fun w' hw' => by clear hw'; go_simp⟩) hH ?_
        simp only [Act.put]
        refine wpAnyH_take (i := 7) (v := .bool true) rfl (by kernel_rfl) (by kernel_rfl) (by kernel_rfl) (fun _ _ _ h => h) (Or.inl ⟨by kernel_rfl, fun w' hw' => by clear hw'; go_simp⟩) hH ?_
        simp only [Act.put]
        refine wpAnyH_take (i := 8) (v := .pointer (some ⟨w4.heap.size, 4, none⟩)) rfl (by kernel_rfl) (by kernel_rfl) (by kernel_rfl) (fun _ _ _ h => h) (Or.inl ⟨by kernel_rfl, fun w' hw' => by clear hw'; go_simp⟩) hH ?_
        simp only [Act.put]
        refine wpAnyH_take (i := 9) (v := .int .i64 aop) rfl (by kernel_rfl) (by kernel_rfl) (by kernel_rfl) (fun _ _ _ h => h) (Or.inl ⟨by kernel_rfl, fun w' hw' => by have h := (HRA.out.below hw' HRA.out.lt).at_ 4 _ rfl; clear hw'; go_simp⟩) hH ?_
        simp only [Act.put]
        refine wpAnyH_take (i := 10) (v := .slice (some ⟨ga, o, none⟩) nl c1) rfl (by kernel_rfl) (by kernel_rfl) (by kernel_rfl) (fun _ _ _ h => h) (Or.inl ⟨by kernel_rfl, fun w' hw' => by clear hw'; go_simp⟩) hH ?_
        simp only [Act.put]
        refine wpAnyH_take (i := 11) (v := .int .i64 (k : Int)) rfl (by kernel_rfl) (by kernel_rfl) (by kernel_rfl) (fun _ _ _ h => h) (Or.inl ⟨by kernel_rfl, fun w' hw' => by clear hw'; go_simp⟩) hH ?_
        simp only [Act.put]
        refine wpAnyH_take (i := 12) (v := .pointer (some ⟨ga, o + k * 9, none⟩)) rfl (by kernel_rfl) (by kernel_rfl) (by kernel_rfl) (fun _ _ _ h => h) (Or.inl ⟨by kernel_rfl, fun w' hw' => by clear hw'; go_simp⟩) hH ?_
        simp only [Act.put]
        refine wpAnyH_take (i := 13) (v := .pointer (some ⟨ga, o + k * 9 + 1, none⟩)) rfl (by kernel_rfl) (by kernel_rfl) (by kernel_rfl) (fun _ _ _ h => h) (Or.inl ⟨by kernel_rfl, fun w' hw' => by clear hw'; go_simp⟩) hH ?_
        simp only [Act.put]
        refine wpAnyH_take (i := 14) (v := .int .i64 aop) rfl (by kernel_rfl) (by kernel_rfl) (by kernel_rfl) (fun _ _ _ h => h) (Or.inl ⟨by kernel_rfl, fun w' hw' => by have h := HXO1.out _ hw'; clear hw'; go_simp⟩) hH ?_
        simp only [Act.put]
        refine wpAnyH_take (i := 15) (v := .bool true) rfl (by kernel_rfl) (by kernel_rfl) (by kernel_rfl) (fun _ _ _ h => h) (Or.inl ⟨by kernel_rfl, fun w' hw' => by clear hw'; go_simp⟩) hH ?_
        simp only [Act.put]
        refine wpAnyH_ready (rs := [16]) (by kernel_rfl) (by simp) ?_
        refine AllReadyH.cons rfl (fun K hK => ?_) AllReadyH.nil
        rw [if_pos (by kernel_rfl)]
        go_simp
        refine hK.out _ _ hH (fun hH => ?_)
        clear hK K
        try simp only [Act.put]
        refine wpAnyH_done (by kernel_rfl) ?_ _
        try simp only [Act.put]
        go_wp2_with (first
          | (refine wpList_load_mid rfl 31 (.tmp 60) rfl ga (o + k * 9) rfl x.cl _ (HRX.out _ (HS5.out.frame.trans (hH.mono HS5.out.frame.size))) Tryz.underlying31 rfl HZX.out ?_)
          | (refine wpl_slice1 rfl 22 31 (.tmp 61) rfl i0 _ 9 Tryz.underlying22 hi hz0 hz1 (by decide) (by decide) x.cl rfl HX9.out ?_)
          | (refine wpList_append_lies _ rfl (.tmp 57) (.tmp 62) 22 rfl w1.heap.size 31 i0 _ 9 80 Tryz.underlying22 hi hz0 hz1 hz2 rfl (by decide) _ m _ rfl ((own_below HOD5.out hH).alloc _) ⟨W5.drew.heap.size, 0, none⟩ 1 1 x.cl rfl HX9.out (NEWS _ x.cl) HXO.out (by decide) (le_maxLen (by omega)) (by omega) (by have := HS5.out.frame.size; simp; omega) (W5.drew.heap.size + 1) (by simp) ?_; intro gz cap wz hoz hgz hatz hltz; have HOZ := hid hoz; have HSZ := hid (((HS5.out.below hH).alloc (.cells x.cl.toArray 31)).append (fun g hg => ⟨HGD.out g hg, (HOD5.out.lt g hg).1⟩) hgz (hatz.imp id (fun q => by rw [q]; simp)) hltz); have HOTZ := hid (own_grown2 ((own_below HOT5.out hH).alloc (.cells x.cl.toArray 31)) hgz (fun g hg => own_apart HOD5.out HOT5.out (by decide) g hg)); have HRAZ := hid (((HRA.out.below hH HRA.out.lt).alloc (.cells x.cl.toArray 31)).grown hgz (fun q => by have := HND.out _ q.symm; omega)); have HATZ := hid hatz; have HLZ := hid hltz; have HGZ := hid hgz.size; clear hoz hgz hatz hltz)
          | (refine wpList_load_row rfl 33 (.tmp 9) rfl w4.heap.size rfl 33 ([.int .i64 1, .int .i64 acl, .int .i64 asn, .int .i64 arq, .int .i64 aop, .string ab] : List Value).toArray (0, 0) _ HRAZ.out.arr' Tryz.underlying33 rfl HZ.out ?_)
          | (refine wpl_slice1 rfl 62 33 (.tmp 65) rfl j0 _ 6 Tryz.underlying62 hj hy0 hy1 (by decide) (by decide) [.int .i64 1, .int .i64 acl, .int .i64 asn, .int .i64 arq, .int .i64 aop, .string ab] rfl rfl ?_)
          | (refine wpList_append_lies _ rfl (.tmp 64) (.tmp 66) 62 rfl w1.heap.size 33 j0 _ 6 56 Tryz.underlying62 hj hy0 hy1 hy2 rfl (by decide) _ m _ rfl (HOTZ.out.alloc _) ⟨wz.heap.size, 0, none⟩ 1 1 [.int .i64 1, .int .i64 acl, .int .i64 asn, .int .i64 arq, .int .i64 aop, .string ab] rfl rfl (NEWA _ [.int .i64 1, .int .i64 acl, .int .i64 asn, .int .i64 arq, .int .i64 aop, .string ab]) (An.cl_ones ⟨1, acl, asn, arq, aop, ab⟩) (by decide) (le_maxLen (by omega)) (by omega) (by have := HSZ.out.frame.size; simp; omega) (wz.heap.size + 1) (by simp) ?_; intro gy cay wy hoy hgy haty hlty; have HOY := hid hoy; have HSY := hid ((HSZ.out.alloc (.cells ([.int .i64 1, .int .i64 acl, .int .i64 asn, .int .i64 arq, .int .i64 aop, .string ab] : List Value).toArray 33)).append (fun g hg => ⟨List.mem_cons_of_mem _ (HGT.out g hg), (HOT5.out.lt g hg).1⟩) hgy (haty.imp id (fun q => by rw [q]; simp)) hlty); have HODY := hid (own_grown2 (HOZ.out.alloc (.cells ([.int .i64 1, .int .i64 acl, .int .i64 asn, .int .i64 arq, .int .i64 aop, .string ab] : List Value).toArray 33)) hgy (fun g hg => own_apart HOTZ.out HOZ.out (by decide) g hg)); clear hoy hgy haty hlty))
        exact ⟨⟨k + 1, s1, m + 1, gy :: gz :: G, by omega, by go_num, hid HE1.out, hid HLN.out, by rw [HF0.out]; exact HSY.out, by rw [HRW1.out]; exact HODY.out, by rw [HRW2.out]; exact HOY.out, hid (by intro g hg; simp [Value.ownBlock] at hg; simp [hg]), hid (by intro g hg; simp [Value.ownBlock] at hg; simp [hg])⟩, by simp [intOf]; omega⟩
      · rw [if_neg (fun q => hT (HTK.out.1 q))] at HEQ
        have HE1 : Hid ((S1, s.2) = oncS L (k + 1)) := hid HEQ.out.symm
        generalize x.opn = xo at *
        clear HEQ HTK
        by_cases h0 : er = 0
        · subst h0
          by_cases h1 : ak = 1
          · subst h1
            have h2 : (aop == xo) = false := beq_eq_false_iff_ne.2 (fun q => hT ⟨rfl, rfl, q⟩)
            try simp only [Act.put]
            refine wp_region_held_drew (S := fun W => Below W5.heap.size W5 W) (by kernel_rfl) ((Below.refl _ _).drew) (fun hH => ?_)
            refine wpAnyH_take (i := 0) (v := .int .i64 0) rfl (by kernel_rfl) (by kernel_rfl) (by kernel_rfl) (fun _ _ _ h => h) (Or.inl ⟨by kernel_rfl, fun w' hw' => by clear hw'; go_simp⟩) hH ?_
            simp only [Act.put]
            refine wpAnyH_take (i := 1) (v := .bool true) rfl (by kernel_rfl) (by kernel_rfl) (by kernel_rfl) (fun _ _ _ h => h) (Or.inl ⟨by kernel_rfl, fun w' hw' => by clear hw'; go_simp⟩) hH ?_
            simp only [Act.put]
            refine wpAnyH_take (i := 2) (v := .bool true) rfl (by kernel_rfl) (by kernel_rfl) (by kernel_rfl) (fun _ _ _ h => h) (Or.inl ⟨by kernel_rfl, fun w' hw' => by clear hw'; go_simp⟩) hH ?_
            simp only [Act.put]
            refine wpAnyH_take (i := 3) (v := .pointer (some ⟨w4.heap.size, 0, none⟩)) rfl (by kernel_rfl) (by kernel_rfl) (by kernel_rfl) (fun _ _ _ h => h) (Or.inl ⟨by kernel_rfl, fun w' hw' => by clear hw'; go_simp⟩) hH ?_
            simp only [Act.put]
            refine wpAnyH_take (i := 4) (v := .int .i64 1) rfl (by kernel_rfl) (by kernel_rfl) (by kernel_rfl) (fun _ _ _ h => h) (Or.inl ⟨by kernel_rfl, fun w' hw' => by have h := (HRA.out.below hw' HRA.out.lt).at_ 0 _ rfl; clear hw'; go_simp⟩) hH ?_
            simp only [Act.put]
            refine wpAnyH_take (i := 5) (v := .bool true) rfl (by kernel_rfl) (by kernel_rfl) (by kernel_rfl) (fun _ _ _ h => h) (Or.inl ⟨by kernel_rfl, fun w' hw' => by clear hw'; go_simp⟩) hH ?_
            simp only [Act.put]
            refine wpAnyH_take (i := 6) (v := .bool true) rfl (by kernel_rfl) (by kernel_rfl) (by kernel_rfl) (fun _ _ _ h => h) (Or.inl ⟨by kernel_rfl, fun w' hw' => by clear hw'; go_simp⟩) hH ?_
            simp only [Act.put]
            refine wpAnyH_take (i := 7) (v := .bool true) rfl (by kernel_rfl) (by kernel_rfl) (by kernel_rfl) (fun _ _ _ h => h) (Or.inl ⟨by kernel_rfl, fun w' hw' => by clear hw'; go_simp⟩) hH ?_
            simp only [Act.put]
            refine wpAnyH_take (i := 8) (v := .pointer (some ⟨w4.heap.size, 4, none⟩)) rfl (by kernel_rfl) (by kernel_rfl) (by kernel_rfl) (fun _ _ _ h => h) (Or.inl ⟨by kernel_rfl, fun w' hw' => by clear hw'; go_simp⟩) hH ?_
            simp only [Act.put]
            refine wpAnyH_take (i := 9) (v := .int .i64 aop) rfl (by kernel_rfl) (by kernel_rfl) (by kernel_rfl) (fun _ _ _ h => h) (Or.inl ⟨by kernel_rfl, fun w' hw' => by have h := (HRA.out.below hw' HRA.out.lt).at_ 4 _ rfl; clear hw'; go_simp⟩) hH ?_
            simp only [Act.put]
            refine wpAnyH_take (i := 10) (v := .slice (some ⟨ga, o, none⟩) nl c1) rfl (by kernel_rfl) (by kernel_rfl) (by kernel_rfl) (fun _ _ _ h => h) (Or.inl ⟨by kernel_rfl, fun w' hw' => by clear hw'; go_simp⟩) hH ?_
            simp only [Act.put]
            refine wpAnyH_take (i := 11) (v := .int .i64 (k : Int)) rfl (by kernel_rfl) (by kernel_rfl) (by kernel_rfl) (fun _ _ _ h => h) (Or.inl ⟨by kernel_rfl, fun w' hw' => by clear hw'; go_simp⟩) hH ?_
            simp only [Act.put]
            refine wpAnyH_take (i := 12) (v := .pointer (some ⟨ga, o + k * 9, none⟩)) rfl (by kernel_rfl) (by kernel_rfl) (by kernel_rfl) (fun _ _ _ h => h) (Or.inl ⟨by kernel_rfl, fun w' hw' => by clear hw'; go_simp⟩) hH ?_
            simp only [Act.put]
            refine wpAnyH_take (i := 13) (v := .pointer (some ⟨ga, o + k * 9 + 1, none⟩)) rfl (by kernel_rfl) (by kernel_rfl) (by kernel_rfl) (fun _ _ _ h => h) (Or.inl ⟨by kernel_rfl, fun w' hw' => by clear hw'; go_simp⟩) hH ?_
            simp only [Act.put]
            refine wpAnyH_take (i := 14) (v := .int .i64 xo) rfl (by kernel_rfl) (by kernel_rfl) (by kernel_rfl) (fun _ _ _ h => h) (Or.inl ⟨by kernel_rfl, fun w' hw' => by have h := HXO1.out _ hw'; clear hw'; go_simp⟩) hH ?_
            simp only [Act.put]
            refine wpAnyH_take (i := 15) (v := .bool false) rfl (by kernel_rfl) (by kernel_rfl) (by kernel_rfl) (fun _ _ _ h => h) (Or.inl ⟨by kernel_rfl, fun w' hw' => by clear hw'; go_simp⟩) hH ?_
            simp only [Act.put]
            refine wpAnyH_ready (rs := [16]) (by kernel_rfl) (by simp) ?_
            refine AllReadyH.cons rfl (fun K hK => ?_) AllReadyH.nil
            rw [if_pos (by kernel_rfl)]
            go_simp
            refine hK.out _ _ hH (fun hH => ?_)
            clear hK K
            try simp only [Act.put]
            refine wpAnyH_done (by kernel_rfl) ?_ _
            try simp only [Act.put]
            go_wp2_with fail
            exact ⟨⟨k + 1, (S1, s.2), m, G, by omega, by go_num, hid HE1.out, hid HM.out, HS5.out.below hH, own_below HOD5.out hH, own_below HOT5.out hH, hid HGD.out, hid HGT.out⟩, by simp [intOf]; omega⟩
          · have h2 : (ak == 1) = false := beq_eq_false_iff_ne.2 h1
            try simp only [Act.put]
            refine wp_region_held_drew (S := fun W => Below W5.heap.size W5 W) (by kernel_rfl) ((Below.refl _ _).drew) (fun hH => ?_)
            refine wpAnyH_take (i := 0) (v := .int .i64 0) rfl (by kernel_rfl) (by kernel_rfl) (by kernel_rfl) (fun _ _ _ h => h) (Or.inl ⟨by kernel_rfl, fun w' hw' => by clear hw'; go_simp⟩) hH ?_
            simp only [Act.put]
            refine wpAnyH_take (i := 1) (v := .bool true) rfl (by kernel_rfl) (by kernel_rfl) (by kernel_rfl) (fun _ _ _ h => h) (Or.inl ⟨by kernel_rfl, fun w' hw' => by clear hw'; go_simp⟩) hH ?_
            simp only [Act.put]
            refine wpAnyH_take (i := 2) (v := .bool true) rfl (by kernel_rfl) (by kernel_rfl) (by kernel_rfl) (fun _ _ _ h => h) (Or.inl ⟨by kernel_rfl, fun w' hw' => by clear hw'; go_simp⟩) hH ?_
            simp only [Act.put]
            refine wpAnyH_take (i := 3) (v := .pointer (some ⟨w4.heap.size, 0, none⟩)) rfl (by kernel_rfl) (by kernel_rfl) (by kernel_rfl) (fun _ _ _ h => h) (Or.inl ⟨by kernel_rfl, fun w' hw' => by clear hw'; go_simp⟩) hH ?_
            simp only [Act.put]
            refine wpAnyH_take (i := 4) (v := .int .i64 ak) rfl (by kernel_rfl) (by kernel_rfl) (by kernel_rfl) (fun _ _ _ h => h) (Or.inl ⟨by kernel_rfl, fun w' hw' => by have h := (HRA.out.below hw' HRA.out.lt).at_ 0 _ rfl; clear hw'; go_simp⟩) hH ?_
            simp only [Act.put]
            refine wpAnyH_take (i := 5) (v := .bool false) rfl (by kernel_rfl) (by kernel_rfl) (by kernel_rfl) (fun _ _ _ h => h) (Or.inl ⟨by kernel_rfl, fun w' hw' => by clear hw'; go_simp⟩) hH ?_
            simp only [Act.put]
            refine wpAnyH_take (i := 6) (v := .bool false) rfl (by kernel_rfl) (by kernel_rfl) (by kernel_rfl) (fun _ _ _ h => h) (Or.inl ⟨by kernel_rfl, fun w' hw' => by clear hw'; go_simp⟩) hH ?_
            simp only [Act.put]
            refine wpAnyH_take (i := 7) (v := .bool false) rfl (by kernel_rfl) (by kernel_rfl) (by kernel_rfl) (fun _ _ _ h => h) (Or.inl ⟨by kernel_rfl, fun w' hw' => by clear hw'; go_simp⟩) hH ?_
            simp only [Act.put]
            refine wpAnyH_take (i := 8) (v := undef) rfl (by kernel_rfl) (by kernel_rfl) (by kernel_rfl) (fun _ _ _ h => h) (Or.inr ⟨by kernel_rfl, rfl⟩) hH ?_
            simp only [Act.put]
            refine wpAnyH_take (i := 9) (v := undef) rfl (by kernel_rfl) (by kernel_rfl) (by kernel_rfl) (fun _ _ _ h => h) (Or.inr ⟨by kernel_rfl, rfl⟩) hH ?_
            simp only [Act.put]
            refine wpAnyH_take (i := 10) (v := undef) rfl (by kernel_rfl) (by kernel_rfl) (by kernel_rfl) (fun _ _ _ h => h) (Or.inr ⟨by kernel_rfl, rfl⟩) hH ?_
            simp only [Act.put]
            refine wpAnyH_take (i := 11) (v := undef) rfl (by kernel_rfl) (by kernel_rfl) (by kernel_rfl) (fun _ _ _ h => h) (Or.inr ⟨by kernel_rfl, rfl⟩) hH ?_
            simp only [Act.put]
            refine wpAnyH_take (i := 12) (v := undef) rfl (by kernel_rfl) (by kernel_rfl) (by kernel_rfl) (fun _ _ _ h => h) (Or.inr ⟨by kernel_rfl, rfl⟩) hH ?_
            simp only [Act.put]
            refine wpAnyH_take (i := 13) (v := undef) rfl (by kernel_rfl) (by kernel_rfl) (by kernel_rfl) (fun _ _ _ h => h) (Or.inr ⟨by kernel_rfl, rfl⟩) hH ?_
            simp only [Act.put]
            refine wpAnyH_take (i := 14) (v := undef) rfl (by kernel_rfl) (by kernel_rfl) (by kernel_rfl) (fun _ _ _ h => h) (Or.inr ⟨by kernel_rfl, rfl⟩) hH ?_
            simp only [Act.put]
            refine wpAnyH_take (i := 15) (v := undef) rfl (by kernel_rfl) (by kernel_rfl) (by kernel_rfl) (fun _ _ _ h => h) (Or.inr ⟨by kernel_rfl, rfl⟩) hH ?_
            simp only [Act.put]
            refine wpAnyH_ready (rs := [16]) (by kernel_rfl) (by simp) ?_
            refine AllReadyH.cons rfl (fun K hK => ?_) AllReadyH.nil
            rw [if_pos (by kernel_rfl)]
            go_simp
            refine hK.out _ _ hH (fun hH => ?_)
            clear hK K
            try simp only [Act.put]
            refine wpAnyH_done (by kernel_rfl) ?_ _
            try simp only [Act.put]
            go_wp2_with fail
            exact ⟨⟨k + 1, (S1, s.2), m, G, by omega, by go_num, hid HE1.out, hid HM.out, HS5.out.below hH, own_below HOD5.out hH, own_below HOT5.out hH, hid HGD.out, hid HGT.out⟩, by simp [intOf]; omega⟩
        · have h2 : (er == 0) = false := beq_eq_false_iff_ne.2 h0
          try simp only [Act.put]
          refine wp_region_held_drew (S := fun W => Below W5.heap.size W5 W) (by kernel_rfl) ((Below.refl _ _).drew) (fun hH => ?_)
          refine wpAnyH_take (i := 0) (v := .int .i64 er) rfl (by kernel_rfl) (by kernel_rfl) (by kernel_rfl) (fun _ _ _ h => h) (Or.inl ⟨by kernel_rfl, fun w' hw' => by clear hw'; go_simp⟩) hH ?_
          simp only [Act.put]
          refine wpAnyH_take (i := 1) (v := .bool false) rfl (by kernel_rfl) (by kernel_rfl) (by kernel_rfl) (fun _ _ _ h => h) (Or.inl ⟨by kernel_rfl, fun w' hw' => by clear hw'; go_simp⟩) hH ?_
          simp only [Act.put]
          refine wpAnyH_take (i := 2) (v := .bool false) rfl (by kernel_rfl) (by kernel_rfl) (by kernel_rfl) (fun _ _ _ h => h) (Or.inl ⟨by kernel_rfl, fun w' hw' => by clear hw'; go_simp⟩) hH ?_
          simp only [Act.put]
          refine wpAnyH_take (i := 3) (v := undef) rfl (by kernel_rfl) (by kernel_rfl) (by kernel_rfl) (fun _ _ _ h => h) (Or.inr ⟨by kernel_rfl, rfl⟩) hH ?_
          simp only [Act.put]
          refine wpAnyH_take (i := 4) (v := undef) rfl (by kernel_rfl) (by kernel_rfl) (by kernel_rfl) (fun _ _ _ h => h) (Or.inr ⟨by kernel_rfl, rfl⟩) hH ?_
          simp only [Act.put]
          refine wpAnyH_take (i := 5) (v := undef) rfl (by kernel_rfl) (by kernel_rfl) (by kernel_rfl) (fun _ _ _ h => h) (Or.inr ⟨by kernel_rfl, rfl⟩) hH ?_
          simp only [Act.put]
          refine wpAnyH_take (i := 6) (v := .bool false) rfl (by kernel_rfl) (by kernel_rfl) (by kernel_rfl) (fun _ _ _ h => h) (Or.inl ⟨by kernel_rfl, fun w' hw' => by clear hw'; go_simp⟩) hH ?_
          simp only [Act.put]
          refine wpAnyH_take (i := 7) (v := .bool false) rfl (by kernel_rfl) (by kernel_rfl) (by kernel_rfl) (fun _ _ _ h => h) (Or.inl ⟨by kernel_rfl, fun w' hw' => by clear hw'; go_simp⟩) hH ?_
          simp only [Act.put]
          refine wpAnyH_take (i := 8) (v := undef) rfl (by kernel_rfl) (by kernel_rfl) (by kernel_rfl) (fun _ _ _ h => h) (Or.inr ⟨by kernel_rfl, rfl⟩) hH ?_
          simp only [Act.put]
          refine wpAnyH_take (i := 9) (v := undef) rfl (by kernel_rfl) (by kernel_rfl) (by kernel_rfl) (fun _ _ _ h => h) (Or.inr ⟨by kernel_rfl, rfl⟩) hH ?_
          simp only [Act.put]
          refine wpAnyH_take (i := 10) (v := undef) rfl (by kernel_rfl) (by kernel_rfl) (by kernel_rfl) (fun _ _ _ h => h) (Or.inr ⟨by kernel_rfl, rfl⟩) hH ?_
          simp only [Act.put]
          refine wpAnyH_take (i := 11) (v := undef) rfl (by kernel_rfl) (by kernel_rfl) (by kernel_rfl) (fun _ _ _ h => h) (Or.inr ⟨by kernel_rfl, rfl⟩) hH ?_
          simp only [Act.put]
          refine wpAnyH_take (i := 12) (v := undef) rfl (by kernel_rfl) (by kernel_rfl) (by kernel_rfl) (fun _ _ _ h => h) (Or.inr ⟨by kernel_rfl, rfl⟩) hH ?_
          simp only [Act.put]
          refine wpAnyH_take (i := 13) (v := undef) rfl (by kernel_rfl) (by kernel_rfl) (by kernel_rfl) (fun _ _ _ h => h) (Or.inr ⟨by kernel_rfl, rfl⟩) hH ?_
          simp only [Act.put]
          refine wpAnyH_take (i := 14) (v := undef) rfl (by kernel_rfl) (by kernel_rfl) (by kernel_rfl) (fun _ _ _ h => h) (Or.inr ⟨by kernel_rfl, rfl⟩) hH ?_
          simp only [Act.put]
          refine wpAnyH_take (i := 15) (v := undef) rfl (by kernel_rfl) (by kernel_rfl) (by kernel_rfl) (fun _ _ _ h => h) (Or.inr ⟨by kernel_rfl, rfl⟩) hH ?_
          simp only [Act.put]
          refine wpAnyH_ready (rs := [16]) (by kernel_rfl) (by simp) ?_
          refine AllReadyH.cons rfl (fun K hK => ?_) AllReadyH.nil
          rw [if_pos (by kernel_rfl)]
          go_simp
          refine hK.out _ _ hH (fun hH => ?_)
          clear hK K
          try simp only [Act.put]
          refine wpAnyH_done (by kernel_rfl) ?_ _
          try simp only [Act.put]
          go_wp2_with fail
          exact ⟨⟨k + 1, (S1, s.2), m, G, by omega, by go_num, hid HE1.out, hid HM.out, HS5.out.below hH, own_below HOD5.out hH, own_below HOT5.out hH, hid HGD.out, hid HGT.out⟩, by simp [intOf]; omega⟩
    · obtain rfl : k = nl := by omega
      have hone := HON.out k (by omega) (by omega)
      rw [← HOS.out] at hone
      have hm60 : m ≤ 60 := by rw [HM.out]; exact Nat.le_trans hone.len hp60
      have hi1 : ¬ (k : Int) < (k : Int) := by omega
      by_cases hm0 : m = 0
      · subst hm0
        obtain ⟨Ad, cd, rfl, -, -⟩ := own_rd HOD.out
        go_wp2_with fail
        go_ret
        exact ⟨rfl, HB1.out.trans (HSR.out.frame.mono HB1.out.size)⟩
      obtain ⟨gd, cd, rfl, hcd, hgd⟩ := own_some HOD.out (by omega)
      obtain ⟨gt, ct, rfl, hct, hgt⟩ := own_some HOT.out (by omega)
      have hkl := modO_lt x1 m (by omega)
      have HCA := mod_codeO x1 m (by omega) (by omega)
      have huw : IntKind.u64.wrap (m : Int) = (m : Int) := u64_smallO m (by omega)
      obtain ⟨kk, hkk⟩ : ∃ kk, kk = modO x1 m := ⟨_, rfl⟩
      rw [← hkk] at hkl HCA
      clear hkk
      have hkD : kk < s.2.length := by rw [← HM.out]; exact hkl
      have HRD : Hid (∀ W : World, ∀ B, W.ownsRow B 31 9 (.slice (some ⟨gd, 0, none⟩) m cd) m (rows En.cl (s.2.map Prod.fst)) → W.rangeAt gd (kk * 9) (s.2[kk]).1.cl) := hid fun W B ho => by
        have := own_range ho En.cl_len (k := kk) (by simpa using hkD)
        simpa using this
      have HRT : Hid (∀ W : World, ∀ B, W.ownsRow B 33 6 (.slice (some ⟨gt, 0, none⟩) m ct) m (rows An.cl (s.2.map Prod.snd)) → W.rangeAt gt (kk * 6) (s.2[kk]).2.cl) := hid fun W B ho => by
        have := own_range ho An.cl_len (k := kk) (by simpa using hkD)
        simpa using this
      have hmem : s.2[kk] ∈ s.2 := List.getElem_mem hkD
      have hmap := more_app hone (by omega) hmem
      have hdg := (hone.dn _ hmem).2
      have hwf := hone.wf
      have hopn := hone.opn
      have hmg := more_good hwf.m (by omega) hdg
      have HAQ := hid (fun fp W hW hk => mapp_any p s.1 fp (moreE s.1.m (s.2[kk]).1) W hmg.1 hW hk)
      rw [hmap.1] at HAQ
      have HNX0 := hid (fun W => next_any s.1.m (maxE s.1.m (s.2[kk]).1) W (Nat.le_trans hdg.2 (by omega)))
      rw [more_next hwf.m (by omega)] at HNX0
      have hapx := hmap.2
      clear hmem hmap hdg hmg
      generalize s.2[kk] = d at *
      obtain ⟨E, an⟩ := d
      obtain ⟨S, D⟩ := s
      obtain ⟨⟨mo, mv, ms⟩, M⟩ := S
      have hle3 : M.T.length ≤ 3 := hwf.w.t.le
      obtain ⟨⟨hmo0, hmo1⟩, ⟨hmv0, hmv1⟩, hms⟩ := hwf.m
      simp only at hmo0 hmo1 hmv0 hmv1 hms hopn
      obtain ⟨ev, eo, eu, ep, ec, es, eq, eop, eb⟩ := E
      obtain ⟨ak, acl, asn, arq, aop, ab⟩ := an
      obtain ⟨mx, hmx⟩ : ∃ mx, mx = max ev mv := ⟨_, rfl⟩
      have HMX : Hid (max ev mv = mx) := hid hmx.symm
      have HNX : Hid (∀ W, Calls Tryz.prog 28 #[.agg #[.int .i64 mo, .int .i64 mv, .int .u64 (ms : Int)], .agg ([.int .i64 mx, .int .i64 eo, .int .i64 eu, .int .u64 (ep : Int), .int .i64 ec, .int .i64 es, .int .i64 eq, .int .i64 eop, .string eb] : List Value).toArray] W (VE W (.agg ([.int .i64 mx, .int .i64 (mo + 1), .int .i64 mv, .int .u64 (ms : Int), .int .i64 ec, .int .i64 es, .int .i64 eq, .int .i64 eop, .string eb] : List Value).toArray))) := hid (by rw [hmx]; exact HNX0.out)
      have HMA : Hid (∀ fp W, Hm KP p ⟨⟨mo, mv, ms⟩, M⟩ fp W → Calls Tryz.prog 18 #[.pointer (some ⟨p, 0, none⟩)] W (VE W (.agg #[.int .i64 mo, .int .i64 mv, .int .u64 (ms : Int)]))) := hid fun fp W hk => mmark_any p _ fp W hk
      have HSEC : Hid (∀ fp W, Hm KP p ⟨⟨mo, mv, ms⟩, M⟩ fp W → Calls Tryz.prog 27 #[.pointer (some ⟨p, 0, none⟩), .int .i64 ec] W (VE W (.tuple #[.agg (look M.T ec).cells.toArray, .bool (decide (pl M.T ec < M.T.length))]))) := hid fun fp W hk => mse_any p _ fp ec W hle3 hk
      obtain ⟨nT, hnT⟩ : ∃ nT, nT = M.B.T.length := ⟨_, rfl⟩
      obtain ⟨nA, hnA⟩ : ∃ nA, nA = M.B.A.length := ⟨_, rfl⟩
      have HTR : Hid (∀ fp W, Hm KP p ⟨⟨mo, mv, ms⟩, M⟩ fp W → Calls Tryz.prog 24 #[.pointer (some ⟨p, 0, none⟩)] W fun e w' => ∃ A c, e = .returned (.slice A nT c) ∧ Below W.heap.size W w') := hid fun fp W hk => (mtra_any p _ fp W hk).mono fun e w' hh => by
        obtain ⟨A, c, e1, _, _, h3, -⟩ := hh
        exact ⟨A, c, by rw [hnT]; exact e1, h3⟩
      have HAC : Hid (∀ fp W, Hm KP p ⟨⟨mo, mv, ms⟩, M⟩ fp W → Calls Tryz.prog 22 #[.pointer (some ⟨p, 0, none⟩)] W fun e w' => ∃ A c, e = .returned (.slice A nA c) ∧ Below W.heap.size W w') := hid fun fp W hk => (macc_any p _ fp W hk).mono fun e w' hh => by
        obtain ⟨A, c, e1, _, _, h3, -⟩ := hh
        exact ⟨A, c, by rw [hnA]; exact e1, h3⟩
      obtain ⟨S2, hS2⟩ : ∃ S2, S2 = Ma.app ⟨⟨mo, mv, ms⟩, M⟩ (moreE ⟨mo, mv, ms⟩ ⟨ev, eo, eu, ep, ec, es, eq, eop, eb⟩) := ⟨_, rfl⟩
      obtain ⟨bn, hbn⟩ : ∃ bn, bn = Ma.appA ⟨⟨mo, mv, ms⟩, M⟩ (moreE ⟨mo, mv, ms⟩ ⟨ev, eo, eu, ep, ec, es, eq, eop, eb⟩) := ⟨_, rfl⟩
      have HAQ2 : Hid (∀ fp W, Fd W → Hm KP p ⟨⟨mo, mv, ms⟩, M⟩ fp W → Calls Tryz.prog 12 #[.pointer (some ⟨p, 0, none⟩), .agg ([.int .i64 mx, .int .i64 (mo + 1), .int .i64 mv, .int .u64 (ms : Int), .int .i64 ec, .int .i64 es, .int .i64 eq, .int .i64 eop, .string eb] : List Value).toArray] W fun x w' => x = .returned (.tuple #[.agg bn.cl.toArray, .int .i64 0]) ∧ Hmw KP p W fp S2 w') := hid (by rw [hS2, hbn, hmx]; exact HAQ.out)
      have HTR2 : Hid (S2.w.B = M.B → ∀ fp W, Hm KP p S2 fp W → Calls Tryz.prog 24 #[.pointer (some ⟨p, 0, none⟩)] W fun e w' => ∃ A c, e = .returned (.slice A nT c) ∧ Below W.heap.size W w') := hid fun hB fp W hk => (mtra_any p _ fp W hk).mono fun e w' hh => by
        obtain ⟨A, c, e1, _, _, h3, -⟩ := hh
        exact ⟨A, c, by rw [hnT, ← hB]; exact e1, h3⟩
      have HAC2 : Hid (S2.w.B = M.B → ∀ fp W, Hm KP p S2 fp W → Calls Tryz.prog 22 #[.pointer (some ⟨p, 0, none⟩)] W fun e w' => ∃ A c, e = .returned (.slice A nA c) ∧ Below W.heap.size W w') := hid fun hB fp W hk => (macc_any p _ fp W hk).mono fun e w' hh => by
        obtain ⟨A, c, e1, _, _, h3, -⟩ := hh
        exact ⟨A, c, by rw [hnA, ← hB]; exact e1, h3⟩
      have HAPX : Hid (pl M.T ec < M.T.length → (look M.T ec).s = asn → S2.w.B = M.B ∧ bn = if (look M.T ec).r = arq then ⟨ak, acl, asn, arq, aop, ab⟩ else an0) := hid fun h1 h2 => by
        rw [hS2, hbn]
        rw [look_here h1] at h2 ⊢
        exact hapx h1 h2
      obtain ⟨lk, hlk⟩ : ∃ lk, lk = look M.T ec := ⟨_, rfl⟩
      obtain ⟨ok, hok⟩ : ∃ ok, ok = decide (pl M.T ec < M.T.length) := ⟨_, rfl⟩
      have HOKT : Hid (ok = true → lk.s = asn → S2.w.B = M.B ∧ bn = if lk.r = arq then ⟨ak, acl, asn, arq, aop, ab⟩ else an0) := hid fun h1 h2 => by
        rw [hlk] at h2 ⊢
        exact HAPX.out (of_decide_eq_true (hok.symm.trans h1)) h2
      rw [← hlk, ← hok] at HSEC
      obtain ⟨xc, xs, xr, xo, xt⟩ := lk
      have hcc := HRD.out wr _ HOD.out 4 _ rfl
      have HHE : Hid ([.int .i64 ev, .int .i64 eo, .int .i64 eu, .int .u64 (ep : Int), .int .i64 ec, .int .i64 es, .int .i64 eq, .int .i64 eop, .string eb] = (⟨ev, eo, eu, ep, ec, es, eq, eop, eb⟩ : En).cl) := hid rfl
      clear HAQ HNX0 hapx hS2 hbn hnT hnA hlk hok HAPX hmx hone hwf hkD
      have hi2 : (0 : Int) ≤ (kk : Int) := by omega
      have hi3 : (kk : Int) < (m : Int) := by omega
      have hi4 : (0 : Int) < (m : Int) := by omega
      have hmn : ((m : Int) == 0) = false := by simp; omega
      have hgd1 := (HOD.out.lt gd hgd).1
      have hgt1 := (HOT.out.lt gt hgt).1
      have hgtw := (HOT.out.lt gt hgt).2
      have HGT2 := hid (HGT.out gt hgt)
      clear hgd hgt HGT HGD
      go_wp2_with (first
        | (go_at_call 27; refine (HSR.out.look (fun fp hk => HSEC.out fp _ hk)).mono ?_; rintro e w3 ⟨rfl, hx⟩; have HS3 := hid (HSR.out.below hx); have HD3 := hid (own_below HOD.out hx); have HT3 := hid (own_below HOT.out hx); have HW3 := hid hx.size; clear hx hcc)
        | (refine wpl_store_st rfl (.tmp 11) (.tmp 86) rfl HZS.out w3.heap.size ss0.cells [.int .i64 xc, .int .i64 xs, .int .i64 xr, .int .i64 xo, .string xt] rfl rfl (Row.new _ _ _) ?_ (hid rfl) (hid rfl) (hid rfl); intro w4 hr4 hg4; have HRS := hid hr4; have hb4 := ((Below.refl w3.heap.size w3).alloc (Nat.le_refl _) (.cells ss0.cells.toArray 65)).trans (below_grown hg4 (Nat.le_refl _) (by simp)); have HS4 := hid (HS3.out.add hb4 (Nat.le_refl _) hr4.lt); have HD4 := hid (own_below HD3.out hb4); have HT4 := hid (own_below HT3.out hb4); have HW4 := hid hr4.lt; clear hr4 hg4 hb4)
        | (go_at_call 24; refine (HS4.out.look (fun fp hk => HTR.out fp _ hk)).mono ?_; rintro e w5 ⟨A5, c5, rfl, hx⟩; have HS5 := hid (HS4.out.below hx); have HD5 := hid (own_below HD4.out hx); have HT5 := hid (own_below HT4.out hx); have HRS5 := hid (HRS.out.below hx HRS.out.lt); have HW5 := hid hx.size; clear hx)
        | (go_at_call 22; refine (HS5.out.look (fun fp hk => HAC.out fp _ hk)).mono ?_; rintro e w6 ⟨A6, c6, rfl, hx⟩; have HS6 := hid (HS5.out.below hx); have HD6 := hid (own_below HD5.out hx); have HT6 := hid (own_below HT5.out hx); have HRS6 := hid (HRS5.out.below hx HRS5.out.lt); have HW6 := hid hx.size; clear hx)
        | (refine wpList_load_mid rfl 31 (.tmp 96) rfl gd (kk * 9) rfl (⟨ev, eo, eu, ep, ec, es, eq, eop, eb⟩ : En).cl _ (HRD.out _ _ HD6.out) Tryz.underlying31 rfl HZE.out ?_)
        | (refine wpl_store_st rfl (.tmp 15) (.tmp 97) rfl HZE.out w6.heap.size en0.cl [.int .i64 ev, .int .i64 eo, .int .i64 eu, .int .u64 (ep : Int), .int .i64 ec, .int .i64 es, .int .i64 eq, .int .i64 eop, .string eb] rfl rfl (Row.new _ _ _) ?_ (hid rfl) (hid rfl) (hid rfl); intro w7 hr7 hg7; have hb7 := ((Below.refl w6.heap.size w6).alloc (Nat.le_refl _) (.cells en0.cl.toArray 31)).trans (below_grown hg7 (Nat.le_refl _) (by simp)); have HOB := hid (show OB w1 p ⟨⟨mo, mv, ms⟩, M⟩ (w6.heap.size :: w3.heap.size :: G) w3.heap.size w6.heap.size [.int .i64 xc, .int .i64 xs, .int .i64 xr, .int .i64 xo, .string xt] [.int .i64 ev, .int .i64 eo, .int .i64 eu, .int .u64 (ep : Int), .int .i64 ec, .int .i64 es, .int .i64 eq, .int .i64 eop, .string eb] (.slice (some ⟨gt, 0, none⟩) m ct) m (rows An.cl (D.map Prod.snd)) w7 from ⟨HS6.out.add hb7 (Nat.le_refl _) hr7.lt, HRS6.out.below hb7 HRS6.out.lt, hr7, own_below HT6.out hb7, by simp, by simp, fun b hb => by have e : gt = b := (by simpa [Value.ownBlock] using hb); rw [← e]; exact List.mem_cons_of_mem _ (List.mem_cons_of_mem _ HGT2.out)⟩); clear hr7 hg7 hb7))
      have hbs : Hid (w1.heap.size ≤ w3.heap.size ∧ gt < w3.heap.size ∧ w3.heap.size < w6.heap.size ∧ w1.heap.size ≤ gt) := hid (by
        have a1 := HSR.out.frame.size
        have a2 := HW3.out
        have a3 := HW4.out
        have a4 := HW5.out
        have a5 := HW6.out
        omega)
      clear HS3 HS4 HS5 HS6 HD3 HD4 HD5 HD6 HT3 HT4 HT5 HT6 HRS HRS5 HRS6 HW3 HW4 HW5 HW6 HTR HAC HSEC HOD HOT HSR HRD HHE
      generalize w3.heap.size = bs at *
      generalize w6.heap.size = bx at *
      try simp only [Act.put]
      go_cut [103] (fun _ wx => ∃ W1 : World, W1 = wx ∧ OB w1 p ⟨⟨mo, mv, ms⟩, M⟩ (bx :: bs :: G) bs bx [.int .i64 xc, .int .i64 xs, .int .i64 xr, .int .i64 xo, .string xt] [.int .i64 mx, .int .i64 eo, .int .i64 eu, .int .u64 (ep : Int), .int .i64 ec, .int .i64 es, .int .i64 eq, .int .i64 eop, .string eb] (.slice (some ⟨gt, 0, none⟩) m ct) m (rows An.cl (D.map Prod.snd)) W1)
      case first =>
        refine wp_region_held_drew (S := fun _ => True) (by kernel_rfl) trivial (fun hH => ?_)
        refine wpAnyH_take (i := 0) (v := .pointer (some ⟨bx, 0, none⟩)) rfl (by kernel_rfl) (by kernel_rfl) (by kernel_rfl) (fun _ _ _ h => h) (Or.inl ⟨by kernel_rfl, fun w' hw' => by clear hw'; go_simp⟩) hH ?_
        simp only [Act.put]
        refine wpAnyH_take (i := 2) (v := .pointer (some ⟨p, 0, none⟩)) rfl (by kernel_rfl) (by kernel_rfl) (by kernel_rfl) (fun _ _ _ h => h) (Or.inl ⟨by kernel_rfl, fun w' hw' => by clear hw'; go_simp⟩) hH ?_
        simp only [Act.put]
        refine wpAnyH_ready (rs := [1, 3]) (by kernel_rfl) (by simp) ?_
        refine AllReadyH.cons rfl (fun K hK => ?_) (AllReadyH.cons rfl (fun K hK => ?_) AllReadyH.nil)
        · rw [if_pos (by kernel_rfl)]
          have hld := HOB.out.2.2.1.at_ 0 _ rfl
          go_simp
          refine hK.out _ _ trivial (fun hH => ?_)
          clear hld
          clear hK K
          try simp only [Act.put]
          refine wpAnyH_ready (rs := [3]) (by kernel_rfl) (by simp) ?_
          refine AllReadyH.cons rfl (fun K hK => ?_) AllReadyH.nil
          rw [if_pos (by kernel_rfl)]
          go_simp
          go_at_call 18
          refine ((HOB.out.below (below_drewN (Below.refl _ _) 1)).1.look (fun fp hk => HMA.out fp _ hk)).mono ?_
          rintro e w8 ⟨rfl, hb8⟩
          replace HOB := hid ((HOB.out.below (below_drewN (Below.refl _ _) 1)).below hb8)
          clear hb8
          go_wp2_with fail
          refine hK.out _ _ trivial (fun hH => ?_)
          clear hK K
          try simp only [Act.put]
          refine wpAnyH_ready (rs := [4]) (by kernel_rfl) (by simp) ?_
          refine AllReadyH.cons rfl (fun K hK => ?_) AllReadyH.nil
          rw [if_pos (by kernel_rfl)]
          have h := run_field_mark mo mv ms w8
          go_simp
          refine hK.out _ _ trivial (fun hH => ?_)
          clear h
          clear hK K
          try simp only [Act.put]
          refine wpAnyH_ready (rs := [5]) (by kernel_rfl) (by simp) ?_
          refine AllReadyH.cons rfl (fun K hK => ?_) AllReadyH.nil
          rw [if_pos (by kernel_rfl)]
          have h := HMX.out
          go_simp
          refine hK.out _ _ trivial (fun hH => ?_)
          clear h
          clear hK K
          try simp only [Act.put]
          refine wpAnyH_ready (rs := [6]) (by kernel_rfl) (by simp) ?_
          refine AllReadyH.cons rfl (fun K hK => ?_) AllReadyH.nil
          rw [if_pos (by kernel_rfl)]
          go_simp
          refine hK.out _ _ trivial (fun hH => ?_)
          clear hK K
          try simp only [Act.put]
          refine wpAnyH_ready (rs := [7]) (by kernel_rfl) (by simp) ?_
          refine AllReadyH.cons rfl (fun K hK => ?_) AllReadyH.nil
          rw [if_pos (by kernel_rfl)]
          refine wp_store_cL 3 (.tmp 104) (.tmp 103) rfl bx 0 (.int .i64 mx) rfl rfl HOB.out.2.2.1 sizeInt (by simp) rfl (fun W8 hr8 hg8 => ?_)
          refine hK.out _ _ trivial (fun hH => ?_)
          clear hK K
          try simp only [Act.put]
          refine wpAnyH_done (by kernel_rfl) ?_ _
          try simp only [Act.put]
          go_wp2_with fail
          go_meet
          case rel =>
            obtain ⟨a1, a2, a3, a4, a5, a6, a7⟩ := HOB.out
            obtain ⟨q1, q2, q3, q4⟩ := hbs.out
            exact ⟨_, rfl, a1.write hg8 (by simp) (by omega), a2.grown hg8 (fun e => by have := Option.some.inj e; omega), hr8, own_grown a4 hg8 (fun e => by have : gt = bx := (by simpa [Value.ownBlock] using e); omega), a5, a6, a7⟩
        · rw [if_pos (by kernel_rfl)]
          go_simp
          go_at_call 18
          refine ((HOB.out.below (below_drewN (Below.refl _ _) 1)).1.look (fun fp hk => HMA.out fp _ hk)).mono ?_
          rintro e w8 ⟨rfl, hb8⟩
          replace HOB := hid ((HOB.out.below (below_drewN (Below.refl _ _) 1)).below hb8)
          clear hb8
          go_wp2_with fail
          refine hK.out _ _ trivial (fun hH => ?_)
          clear hK K
          try simp only [Act.put]
          refine wpAnyH_ready (rs := [1, 4]) (by kernel_rfl) (by simp) ?_
          refine AllReadyH.cons rfl (fun K hK => ?_) (AllReadyH.cons rfl (fun K hK => ?_) AllReadyH.nil)
          · rw [if_pos (by kernel_rfl)]
            have hld := HOB.out.2.2.1.at_ 0 _ rfl
            go_simp
            refine hK.out _ _ trivial (fun hH => ?_)
            clear hld
            clear hK K
            try simp only [Act.put]
            refine wpAnyH_ready (rs := [4]) (by kernel_rfl) (by simp) ?_
            refine AllReadyH.cons rfl (fun K hK => ?_) AllReadyH.nil
            rw [if_pos (by kernel_rfl)]
            have h := run_field_mark mo mv ms w8
            go_simp
            refine hK.out _ _ trivial (fun hH => ?_)
            clear h
            clear hK K
            try simp only [Act.put]
            refine wpAnyH_ready (rs := [5]) (by kernel_rfl) (by simp) ?_
            refine AllReadyH.cons rfl (fun K hK => ?_) AllReadyH.nil
            rw [if_pos (by kernel_rfl)]
            have h := HMX.out
            go_simp
            refine hK.out _ _ trivial (fun hH => ?_)
            clear h
            clear hK K
            try simp only [Act.put]
            refine wpAnyH_ready (rs := [6]) (by kernel_rfl) (by simp) ?_
            refine AllReadyH.cons rfl (fun K hK => ?_) AllReadyH.nil
            rw [if_pos (by kernel_rfl)]
            go_simp
            refine hK.out _ _ trivial (fun hH => ?_)
            clear hK K
            try simp only [Act.put]
            refine wpAnyH_ready (rs := [7]) (by kernel_rfl) (by simp) ?_
            refine AllReadyH.cons rfl (fun K hK => ?_) AllReadyH.nil
            rw [if_pos (by kernel_rfl)]
            refine wp_store_cL 3 (.tmp 104) (.tmp 103) rfl bx 0 (.int .i64 mx) rfl rfl HOB.out.2.2.1 sizeInt (by simp) rfl (fun W8 hr8 hg8 => ?_)
            refine hK.out _ _ trivial (fun hH => ?_)
            clear hK K
            try simp only [Act.put]
            refine wpAnyH_done (by kernel_rfl) ?_ _
            try simp only [Act.put]
            go_wp2_with fail
            go_meet
            case rel =>
              obtain ⟨a1, a2, a3, a4, a5, a6, a7⟩ := HOB.out
              obtain ⟨q1, q2, q3, q4⟩ := hbs.out
              exact ⟨_, rfl, a1.write hg8 (by simp) (by omega), a2.grown hg8 (fun e => by have := Option.some.inj e; omega), hr8, own_grown a4 hg8 (fun e => by have : gt = bx := (by simpa [Value.ownBlock] using e); omega), a5, a6, a7⟩
          · rw [if_pos (by kernel_rfl)]
            have h := run_field_mark mo mv ms w8
            go_simp
            refine hK.out _ _ trivial (fun hH => ?_)
            clear h
            clear hK K
            try simp only [Act.put]
            refine wpAnyH_ready (rs := [1]) (by kernel_rfl) (by simp) ?_
            refine AllReadyH.cons rfl (fun K hK => ?_) AllReadyH.nil
            rw [if_pos (by kernel_rfl)]
            have hld := HOB.out.2.2.1.at_ 0 _ rfl
            go_simp
            refine hK.out _ _ trivial (fun hH => ?_)
            clear hld
            clear hK K
            try simp only [Act.put]
            refine wpAnyH_ready (rs := [5]) (by kernel_rfl) (by simp) ?_
            refine AllReadyH.cons rfl (fun K hK => ?_) AllReadyH.nil
            rw [if_pos (by kernel_rfl)]
            have h := HMX.out
            go_simp
            refine hK.out _ _ trivial (fun hH => ?_)
            clear h
            clear hK K
            try simp only [Act.put]
            refine wpAnyH_ready (rs := [6]) (by kernel_rfl) (by simp) ?_
            refine AllReadyH.cons rfl (fun K hK => ?_) AllReadyH.nil
            rw [if_pos (by kernel_rfl)]
            go_simp
            refine hK.out _ _ trivial (fun hH => ?_)
            clear hK K
            try simp only [Act.put]
            refine wpAnyH_ready (rs := [7]) (by kernel_rfl) (by simp) ?_
            refine AllReadyH.cons rfl (fun K hK => ?_) AllReadyH.nil
            rw [if_pos (by kernel_rfl)]
            refine wp_store_cL 3 (.tmp 104) (.tmp 103) rfl bx 0 (.int .i64 mx) rfl rfl HOB.out.2.2.1 sizeInt (by simp) rfl (fun W8 hr8 hg8 => ?_)
            refine hK.out _ _ trivial (fun hH => ?_)
            clear hK K
            try simp only [Act.put]
            refine wpAnyH_done (by kernel_rfl) ?_ _
            try simp only [Act.put]
            go_wp2_with fail
            go_meet
            case rel =>
              obtain ⟨a1, a2, a3, a4, a5, a6, a7⟩ := HOB.out
              obtain ⟨q1, q2, q3, q4⟩ := hbs.out
              exact ⟨_, rfl, a1.write hg8 (by simp) (by omega), a2.grown hg8 (fun e => by have := Option.some.inj e; omega), hr8, own_grown a4 hg8 (fun e => by have : gt = bx := (by simpa [Value.ownBlock] using e); omega), a5, a6, a7⟩
      case rest =>
      obtain ⟨WX, rfl, hob⟩ := hcut
      replace HOB := hid hob
      clear hob
      go_wp2_with fail
      try simp only [Act.put]
      obtain ⟨bk, bc, bse, br, bo, bb⟩ := bn
      replace HAQ2 : Hid (∀ fp W, Fd W → Hm KP p ⟨⟨mo, mv, ms⟩, M⟩ fp W → Calls Tryz.prog 12 #[.pointer (some ⟨p, 0, none⟩), .agg ([.int .i64 mx, .int .i64 (mo + 1), .int .i64 mv, .int .u64 (ms : Int), .int .i64 ec, .int .i64 es, .int .i64 eq, .int .i64 eop, .string eb] : List Value).toArray] W fun x w' => x = .returned (.tuple #[.agg ([.int .i64 bk, .int .i64 bc, .int .i64 bse, .int .i64 br, .int .i64 bo, .string bb] : List Value).toArray, .int .i64 0]) ∧ Hmw KP p W fp S2 w') := hid HAQ2.out
      go_cut [16, 17] (fun v e wx => ∃ ba, ∃ W1 : World, W1 = wx ∧ v = .pointer (some ⟨ba, 0, none⟩) ∧ e = .int .i64 0 ∧ Row W1 ba 33 [.int .i64 bk, .int .i64 bc, .int .i64 bse, .int .i64 br, .int .i64 bo, .string bb] ∧ ∃ G', OB w1 p S2 G' bs bx [.int .i64 xc, .int .i64 xs, .int .i64 xr, .int .i64 xo, .string xt] [.int .i64 mx, .int .i64 eo, .int .i64 eu, .int .u64 (ep : Int), .int .i64 ec, .int .i64 es, .int .i64 eq, .int .i64 eop, .string eb] (.slice (some ⟨gt, 0, none⟩) m ct) m (rows An.cl (D.map Prod.snd)) W1)
      case first =>
        refine wp_region_held_drew (S := fun W => Row W bx 31 [.int .i64 mx, .int .i64 eo, .int .i64 eu, .int .u64 (ep : Int), .int .i64 ec, .int .i64 es, .int .i64 eq, .int .i64 eop, .string eb]) (by kernel_rfl) HOB.out.2.2.1.drew (fun hH => ?_)
        replace HOB := hid (HOB.out.below (below_drewN (Below.refl _ _) 1))
        refine wpAnyH_take (i := 0) (v := .pointer (some ⟨p, 0, none⟩)) rfl (by kernel_rfl) (by kernel_rfl) (by kernel_rfl) (fun _ _ _ h => h) (Or.inl ⟨by kernel_rfl, fun w' hw' => by clear hw'; go_simp⟩) hH ?_
        simp only [Act.put]
        refine wpAnyH_take (i := 1) (v := .pointer (some ⟨p, 0, none⟩)) rfl (by kernel_rfl) (by kernel_rfl) (by kernel_rfl) (fun _ _ _ h => h) (Or.inl ⟨by kernel_rfl, fun w' hw' => by clear hw'; go_simp⟩) hH ?_
        simp only [Act.put]
        refine wpAnyH_take (i := 3) (v := .agg ([.int .i64 mx, .int .i64 eo, .int .i64 eu, .int .u64 (ep : Int), .int .i64 ec, .int .i64 es, .int .i64 eq, .int .i64 eop, .string eb] : List Value).toArray) rfl (by kernel_rfl) (by kernel_rfl) (by kernel_rfl) (fun _ _ _ h => h) ?_ hH ?_
        · refine yieldsIf_load_mid ?_ 31 (.tmp 15) ?_ bx 0 ?_ [.int .i64 mx, .int .i64 eo, .int .i64 eu, .int .u64 (ep : Int), .int .i64 ec, .int .i64 es, .int .i64 eq, .int .i64 eop, .string eb] _ (fun W hW => Row.range0 hW) Tryz.underlying31 rfl HZE.out
          all_goals kernel_rfl
        simp only [Act.put]
        refine wpAnyH_ready (rs := [2, 9]) (by kernel_rfl) (by simp) ?_
        refine AllReadyH.cons rfl (fun K hK => ?_) (AllReadyH.cons rfl (fun K hK => ?_) AllReadyH.nil)
        · rw [if_pos (by kernel_rfl)]
          go_simp
          go_at_call 18
          refine (HOB.out.1.look (fun fp hk => HMA.out fp _ hk)).mono ?_
          rintro e wm ⟨rfl, hb⟩
          replace HOB := hid (HOB.out.below hb)
          clear hb
          go_wp2_with fail
          refine hK.out _ _ HOB.out.2.2.1 (fun hH => ?_)
          clear hK K
          try simp only [Act.put]
          refine wpAnyH_ready (rs := [4, 9]) (by kernel_rfl) (by simp) ?_
          refine AllReadyH.cons rfl (fun K hK => ?_) (AllReadyH.cons rfl (fun K hK => ?_) AllReadyH.nil)
          · rw [if_pos (by kernel_rfl)]
            go_simp
            go_at_call 28
            refine (HNX.out _).mono ?_
            rintro e wn ⟨rfl, hb⟩
            replace HOB := hid (HOB.out.below hb)
            clear hb
            go_wp2_with fail
            refine hK.out _ _ HOB.out.2.2.1 (fun hH => ?_)
            clear hK K
            try simp only [Act.put]
            refine wpAnyH_ready (rs := [5, 9]) (by kernel_rfl) (by simp) ?_
            refine AllReadyH.cons rfl (fun K hK => ?_) (AllReadyH.cons rfl (fun K hK => ?_) AllReadyH.nil)
            · rw [if_pos (by kernel_rfl)]
              go_simp
              go_at_call 12
              refine (HOB.out.call (fun fp hk => HAQ2.out fp _ (HF1.out.below HOB.out.1.frame HF1.out.1) hk)).mono ?_
              rintro e wp ⟨rfl, hb, hkf⟩
              replace HOB := hid hb
              clear hb hkf
              go_wp2_with fail
              refine hK.out _ _ HOB.out.2.2.1 (fun hH => ?_)
              clear hK K
              try simp only [Act.put]
              refine wpAnyH_take (i := 6) (v := .tuple #[.agg ([.int .i64 bk, .int .i64 bc, .int .i64 bse, .int .i64 br, .int .i64 bo, .string bb] : List Value).toArray, .int .i64 0]) rfl (by kernel_rfl) (by kernel_rfl) (by kernel_rfl) (fun _ _ _ h => h) (Or.inl ⟨by kernel_rfl, fun w' hw' => by clear hw'; go_simp⟩) hH ?_
              simp only [Act.put]
              refine wpAnyH_take (i := 7) (v := .agg ([.int .i64 bk, .int .i64 bc, .int .i64 bse, .int .i64 br, .int .i64 bo, .string bb] : List Value).toArray) rfl (by kernel_rfl) (by kernel_rfl) (by kernel_rfl) (fun _ _ _ h => h) (Or.inl ⟨by kernel_rfl, fun w' hw' => by clear hw'; go_simp⟩) hH ?_
              simp only [Act.put]
              refine wpAnyH_take (i := 8) (v := .int .i64 0) rfl (by kernel_rfl) (by kernel_rfl) (by kernel_rfl) (fun _ _ _ h => h) (Or.inl ⟨by kernel_rfl, fun w' hw' => by clear hw'; go_simp⟩) hH ?_
              simp only [Act.put]
              refine wpAnyH_ready (rs := [9]) (by kernel_rfl) (by simp) ?_
              refine AllReadyH.cons rfl (fun K hK => ?_) AllReadyH.nil
              rw [if_pos (by kernel_rfl)]
              go_simp
              have HBA := hid (show Row ((wp).alloc (.cells #[.int .i64 0, .int .i64 0, .int .i64 0, .int .i64 0, .int .i64 0, .string ⟨#[]⟩] 33)) (wp).heap.size 33 an0.cl from Row.new (wp) 33 #[.int .i64 0, .int .i64 0, .int .i64 0, .int .i64 0, .int .i64 0, .string ⟨#[]⟩])
              have HLB := hid (show bx < (wp).heap.size from hH.lt)
              replace HOB := hid (HOB.out.add ((Below.refl _ _).alloc (Nat.le_refl _) (.cells #[.int .i64 0, .int .i64 0, .int .i64 0, .int .i64 0, .int .i64 0, .string ⟨#[]⟩] 33)) (Nat.le_refl _) (by simp))
              refine hK.out _ _ HOB.out.2.2.1 (fun hH => ?_)
              clear hK K
              try simp only [Act.put]
              refine wpAnyH_ready (rs := [10]) (by kernel_rfl) (by simp) ?_
              refine AllReadyH.cons rfl (fun K hK => ?_) AllReadyH.nil
              rw [if_pos (by kernel_rfl)]
              refine wp_store_stL (.tmp 16) (.tmp 112) rfl HZ.out _ an0.cl [.int .i64 bk, .int .i64 bc, .int .i64 bse, .int .i64 br, .int .i64 bo, .string bb] rfl rfl HBA.out rfl rfl rfl (fun W9 hr9 hg9 => ?_)
              have q1 := hbs.out
              have q2 := HLB.out
              try simp only [World.size_drew] at q2
              replace HOB := hid (HOB.out.write hg9 (by simp) (by omega) (by omega) (by omega) (fun e => by have e2 : gt = _ := Option.some.inj e; omega))
              clear q1 q2
              refine hK.out _ _ HOB.out.2.2.1 (fun hH => ?_)
              clear hK K
              try simp only [Act.put]
              refine wpAnyH_ready (rs := [11]) (by kernel_rfl) (by simp) ?_
              refine AllReadyH.cons rfl (fun K hK => ?_) AllReadyH.nil
              rw [if_pos (by kernel_rfl)]
              go_simp
              refine hK.out _ _ hH (fun hH => ?_)
              clear hK K
              try simp only [Act.put]
              refine wpAnyH_done (by kernel_rfl) ?_ _
              try simp only [Act.put]
              go_wp2_with fail
              go_meet
              case rel => exact ⟨_, _, rfl, rfl, rfl, hr9, _, HOB.out⟩
            · rw [if_pos (by kernel_rfl)]
              go_simp
              have HBA := hid (show Row ((wn).alloc (.cells #[.int .i64 0, .int .i64 0, .int .i64 0, .int .i64 0, .int .i64 0, .string ⟨#[]⟩] 33)) (wn).heap.size 33 an0.cl from Row.new (wn) 33 #[.int .i64 0, .int .i64 0, .int .i64 0, .int .i64 0, .int .i64 0, .string ⟨#[]⟩])
              have HLB := hid (show bx < (wn).heap.size from hH.lt)
              replace HOB := hid (HOB.out.add ((Below.refl _ _).alloc (Nat.le_refl _) (.cells #[.int .i64 0, .int .i64 0, .int .i64 0, .int .i64 0, .int .i64 0, .string ⟨#[]⟩] 33)) (Nat.le_refl _) (by simp))
              refine hK.out _ _ HOB.out.2.2.1 (fun hH => ?_)
              clear hK K
              try simp only [Act.put]
              refine wpAnyH_ready (rs := [5]) (by kernel_rfl) (by simp) ?_
              refine AllReadyH.cons rfl (fun K hK => ?_) AllReadyH.nil
              rw [if_pos (by kernel_rfl)]
              go_simp
              go_at_call 12
              refine (HOB.out.call (fun fp hk => HAQ2.out fp _ (HF1.out.below HOB.out.1.frame HF1.out.1) hk)).mono ?_
              rintro e wp ⟨rfl, hb, hkf⟩
              replace HOB := hid hb
              replace HBA := hid (hkf.row HBA.out (by simp))
              clear hb hkf
              go_wp2_with fail
              refine hK.out _ _ HOB.out.2.2.1 (fun hH => ?_)
              clear hK K
              try simp only [Act.put]
              refine wpAnyH_take (i := 6) (v := .tuple #[.agg ([.int .i64 bk, .int .i64 bc, .int .i64 bse, .int .i64 br, .int .i64 bo, .string bb] : List Value).toArray, .int .i64 0]) rfl (by kernel_rfl) (by kernel_rfl) (by kernel_rfl) (fun _ _ _ h => h) (Or.inl ⟨by kernel_rfl, fun w' hw' => by clear hw'; go_simp⟩) hH ?_
              simp only [Act.put]
              refine wpAnyH_take (i := 7) (v := .agg ([.int .i64 bk, .int .i64 bc, .int .i64 bse, .int .i64 br, .int .i64 bo, .string bb] : List Value).toArray) rfl (by kernel_rfl) (by kernel_rfl) (by kernel_rfl) (fun _ _ _ h => h) (Or.inl ⟨by kernel_rfl, fun w' hw' => by clear hw'; go_simp⟩) hH ?_
              simp only [Act.put]
              refine wpAnyH_take (i := 8) (v := .int .i64 0) rfl (by kernel_rfl) (by kernel_rfl) (by kernel_rfl) (fun _ _ _ h => h) (Or.inl ⟨by kernel_rfl, fun w' hw' => by clear hw'; go_simp⟩) hH ?_
              simp only [Act.put]
              refine wpAnyH_ready (rs := [10]) (by kernel_rfl) (by simp) ?_
              refine AllReadyH.cons rfl (fun K hK => ?_) AllReadyH.nil
              rw [if_pos (by kernel_rfl)]
              refine wp_store_stL (.tmp 16) (.tmp 112) rfl HZ.out _ an0.cl [.int .i64 bk, .int .i64 bc, .int .i64 bse, .int .i64 br, .int .i64 bo, .string bb] rfl rfl HBA.out rfl rfl rfl (fun W9 hr9 hg9 => ?_)
              have q1 := hbs.out
              have q2 := HLB.out
              try simp only [World.size_drew] at q2
              replace HOB := hid (HOB.out.write hg9 (by simp) (by omega) (by omega) (by omega) (fun e => by have e2 : gt = _ := Option.some.inj e; omega))
              clear q1 q2
              refine hK.out _ _ HOB.out.2.2.1 (fun hH => ?_)
              clear hK K
              try simp only [Act.put]
              refine wpAnyH_ready (rs := [11]) (by kernel_rfl) (by simp) ?_
              refine AllReadyH.cons rfl (fun K hK => ?_) AllReadyH.nil
              rw [if_pos (by kernel_rfl)]
              go_simp
              refine hK.out _ _ hH (fun hH => ?_)
              clear hK K
              try simp only [Act.put]
              refine wpAnyH_done (by kernel_rfl) ?_ _
              try simp only [Act.put]
              go_wp2_with fail
              go_meet
              case rel => exact ⟨_, _, rfl, rfl, rfl, hr9, _, HOB.out⟩
          · rw [if_pos (by kernel_rfl)]
            go_simp
            have HBA := hid (show Row ((wm).alloc (.cells #[.int .i64 0, .int .i64 0, .int .i64 0, .int .i64 0, .int .i64 0, .string ⟨#[]⟩] 33)) (wm).heap.size 33 an0.cl from Row.new (wm) 33 #[.int .i64 0, .int .i64 0, .int .i64 0, .int .i64 0, .int .i64 0, .string ⟨#[]⟩])
            have HLB := hid (show bx < (wm).heap.size from hH.lt)
            replace HOB := hid (HOB.out.add ((Below.refl _ _).alloc (Nat.le_refl _) (.cells #[.int .i64 0, .int .i64 0, .int .i64 0, .int .i64 0, .int .i64 0, .string ⟨#[]⟩] 33)) (Nat.le_refl _) (by simp))
            refine hK.out _ _ HOB.out.2.2.1 (fun hH => ?_)
            clear hK K
            try simp only [Act.put]
            refine wpAnyH_ready (rs := [4]) (by kernel_rfl) (by simp) ?_
            refine AllReadyH.cons rfl (fun K hK => ?_) AllReadyH.nil
            rw [if_pos (by kernel_rfl)]
            go_simp
            go_at_call 28
            refine (HNX.out _).mono ?_
            rintro e wn ⟨rfl, hb⟩
            replace HOB := hid (HOB.out.below hb)
            replace HBA := hid (HBA.out.below hb HBA.out.lt)
            clear hb
            go_wp2_with fail
            refine hK.out _ _ HOB.out.2.2.1 (fun hH => ?_)
            clear hK K
            try simp only [Act.put]
            refine wpAnyH_ready (rs := [5]) (by kernel_rfl) (by simp) ?_
            refine AllReadyH.cons rfl (fun K hK => ?_) AllReadyH.nil
            rw [if_pos (by kernel_rfl)]
            go_simp
            go_at_call 12
            refine (HOB.out.call (fun fp hk => HAQ2.out fp _ (HF1.out.below HOB.out.1.frame HF1.out.1) hk)).mono ?_
            rintro e wp ⟨rfl, hb, hkf⟩
            replace HOB := hid hb
            replace HBA := hid (hkf.row HBA.out (by simp))
            clear hb hkf
            go_wp2_with fail
            refine hK.out _ _ HOB.out.2.2.1 (fun hH => ?_)
            clear hK K
            try simp only [Act.put]
            refine wpAnyH_take (i := 6) (v := .tuple #[.agg ([.int .i64 bk, .int .i64 bc, .int .i64 bse, .int .i64 br, .int .i64 bo, .string bb] : List Value).toArray, .int .i64 0]) rfl (by kernel_rfl) (by kernel_rfl) (by kernel_rfl) (fun _ _ _ h => h) (Or.inl ⟨by kernel_rfl, fun w' hw' => by clear hw'; go_simp⟩) hH ?_
            simp only [Act.put]
            refine wpAnyH_take (i := 7) (v := .agg ([.int .i64 bk, .int .i64 bc, .int .i64 bse, .int .i64 br, .int .i64 bo, .string bb] : List Value).toArray) rfl (by kernel_rfl) (by kernel_rfl) (by kernel_rfl) (fun _ _ _ h => h) (Or.inl ⟨by kernel_rfl, fun w' hw' => by clear hw'; go_simp⟩) hH ?_
            simp only [Act.put]
            refine wpAnyH_take (i := 8) (v := .int .i64 0) rfl (by kernel_rfl) (by kernel_rfl) (by kernel_rfl) (fun _ _ _ h => h) (Or.inl ⟨by kernel_rfl, fun w' hw' => by clear hw'; go_simp⟩) hH ?_
            simp only [Act.put]
            refine wpAnyH_ready (rs := [10]) (by kernel_rfl) (by simp) ?_
            refine AllReadyH.cons rfl (fun K hK => ?_) AllReadyH.nil
            rw [if_pos (by kernel_rfl)]
            refine wp_store_stL (.tmp 16) (.tmp 112) rfl HZ.out _ an0.cl [.int .i64 bk, .int .i64 bc, .int .i64 bse, .int .i64 br, .int .i64 bo, .string bb] rfl rfl HBA.out rfl rfl rfl (fun W9 hr9 hg9 => ?_)
            have q1 := hbs.out
            have q2 := HLB.out
            try simp only [World.size_drew] at q2
            replace HOB := hid (HOB.out.write hg9 (by simp) (by omega) (by omega) (by omega) (fun e => by have e2 : gt = _ := Option.some.inj e; omega))
            clear q1 q2
            refine hK.out _ _ HOB.out.2.2.1 (fun hH => ?_)
            clear hK K
            try simp only [Act.put]
            refine wpAnyH_ready (rs := [11]) (by kernel_rfl) (by simp) ?_
            refine AllReadyH.cons rfl (fun K hK => ?_) AllReadyH.nil
            rw [if_pos (by kernel_rfl)]
            go_simp
            refine hK.out _ _ hH (fun hH => ?_)
            clear hK K
            try simp only [Act.put]
            refine wpAnyH_done (by kernel_rfl) ?_ _
            try simp only [Act.put]
            go_wp2_with fail
            go_meet
            case rel => exact ⟨_, _, rfl, rfl, rfl, hr9, _, HOB.out⟩
        · rw [if_pos (by kernel_rfl)]
          go_simp
          have HBA := hid (show Row ((WX.drew).alloc (.cells #[.int .i64 0, .int .i64 0, .int .i64 0, .int .i64 0, .int .i64 0, .string ⟨#[]⟩] 33)) (WX.drew).heap.size 33 an0.cl from Row.new (WX.drew) 33 #[.int .i64 0, .int .i64 0, .int .i64 0, .int .i64 0, .int .i64 0, .string ⟨#[]⟩])
          have HLB := hid (show bx < (WX.drew).heap.size from hH.lt)
          replace HOB := hid (HOB.out.add ((Below.refl _ _).alloc (Nat.le_refl _) (.cells #[.int .i64 0, .int .i64 0, .int .i64 0, .int .i64 0, .int .i64 0, .string ⟨#[]⟩] 33)) (Nat.le_refl _) (by simp))
          refine hK.out _ _ HOB.out.2.2.1 (fun hH => ?_)
          clear hK K
          try simp only [Act.put]
          refine wpAnyH_ready (rs := [2]) (by kernel_rfl) (by simp) ?_
          refine AllReadyH.cons rfl (fun K hK => ?_) AllReadyH.nil
          rw [if_pos (by kernel_rfl)]
          go_simp
          go_at_call 18
          refine (HOB.out.1.look (fun fp hk => HMA.out fp _ hk)).mono ?_
          rintro e wm ⟨rfl, hb⟩
          replace HOB := hid (HOB.out.below hb)
          replace HBA := hid (HBA.out.below hb HBA.out.lt)
          clear hb
          go_wp2_with fail
          refine hK.out _ _ HOB.out.2.2.1 (fun hH => ?_)
          clear hK K
          try simp only [Act.put]
          refine wpAnyH_ready (rs := [4]) (by kernel_rfl) (by simp) ?_
          refine AllReadyH.cons rfl (fun K hK => ?_) AllReadyH.nil
          rw [if_pos (by kernel_rfl)]
          go_simp
          go_at_call 28
          refine (HNX.out _).mono ?_
          rintro e wn ⟨rfl, hb⟩
          replace HOB := hid (HOB.out.below hb)
          replace HBA := hid (HBA.out.below hb HBA.out.lt)
          clear hb
          go_wp2_with fail
          refine hK.out _ _ HOB.out.2.2.1 (fun hH => ?_)
          clear hK K
          try simp only [Act.put]
          refine wpAnyH_ready (rs := [5]) (by kernel_rfl) (by simp) ?_
          refine AllReadyH.cons rfl (fun K hK => ?_) AllReadyH.nil
          rw [if_pos (by kernel_rfl)]
          go_simp
          go_at_call 12
          refine (HOB.out.call (fun fp hk => HAQ2.out fp _ (HF1.out.below HOB.out.1.frame HF1.out.1) hk)).mono ?_
          rintro e wp ⟨rfl, hb, hkf⟩
          replace HOB := hid hb
          replace HBA := hid (hkf.row HBA.out (by simp))
          clear hb hkf
          go_wp2_with fail
          refine hK.out _ _ HOB.out.2.2.1 (fun hH => ?_)
          clear hK K
          try simp only [Act.put]
          refine wpAnyH_take (i := 6) (v := .tuple #[.agg ([.int .i64 bk, .int .i64 bc, .int .i64 bse, .int .i64 br, .int .i64 bo, .string bb] : List Value).toArray, .int .i64 0]) rfl (by kernel_rfl) (by kernel_rfl) (by kernel_rfl) (fun _ _ _ h => h) (Or.inl ⟨by kernel_rfl, fun w' hw' => by clear hw'; go_simp⟩) hH ?_
          simp only [Act.put]
          refine wpAnyH_take (i := 7) (v := .agg ([.int .i64 bk, .int .i64 bc, .int .i64 bse, .int .i64 br, .int .i64 bo, .string bb] : List Value).toArray) rfl (by kernel_rfl) (by kernel_rfl) (by kernel_rfl) (fun _ _ _ h => h) (Or.inl ⟨by kernel_rfl, fun w' hw' => by clear hw'; go_simp⟩) hH ?_
          simp only [Act.put]
          refine wpAnyH_take (i := 8) (v := .int .i64 0) rfl (by kernel_rfl) (by kernel_rfl) (by kernel_rfl) (fun _ _ _ h => h) (Or.inl ⟨by kernel_rfl, fun w' hw' => by clear hw'; go_simp⟩) hH ?_
          simp only [Act.put]
          refine wpAnyH_ready (rs := [10]) (by kernel_rfl) (by simp) ?_
          refine AllReadyH.cons rfl (fun K hK => ?_) AllReadyH.nil
          rw [if_pos (by kernel_rfl)]
          refine wp_store_stL (.tmp 16) (.tmp 112) rfl HZ.out _ an0.cl [.int .i64 bk, .int .i64 bc, .int .i64 bse, .int .i64 br, .int .i64 bo, .string bb] rfl rfl HBA.out rfl rfl rfl (fun W9 hr9 hg9 => ?_)
          have q1 := hbs.out
          have q2 := HLB.out
          try simp only [World.size_drew] at q2
          replace HOB := hid (HOB.out.write hg9 (by simp) (by omega) (by omega) (by omega) (fun e => by have e2 : gt = _ := Option.some.inj e; omega))
          clear q1 q2
          refine hK.out _ _ HOB.out.2.2.1 (fun hH => ?_)
          clear hK K
          try simp only [Act.put]
          refine wpAnyH_ready (rs := [11]) (by kernel_rfl) (by simp) ?_
          refine AllReadyH.cons rfl (fun K hK => ?_) AllReadyH.nil
          rw [if_pos (by kernel_rfl)]
          go_simp
          refine hK.out _ _ hH (fun hH => ?_)
          clear hK K
          try simp only [Act.put]
          refine wpAnyH_done (by kernel_rfl) ?_ _
          try simp only [Act.put]
          go_wp2_with fail
          go_meet
          case rel => exact ⟨_, _, rfl, rfl, rfl, hr9, _, HOB.out⟩
      case rest =>
      obtain ⟨ba, WY, rfl, rfl, rfl, hra, G', hob⟩ := hcut
      have HRA := hid hra
      replace HOB := hid hob
      clear hob hra
      have HTC := hid (fun W (hW : Below WY.heap.size WY W) => HRT.out W _ (HOB.out.below hW).2.2.2.1)
      have HSC := hid (fun W (hW : Below WY.heap.size WY W) => (HOB.out.below hW).2.1)
      have HFIN := hid (fun W (hW : Below WY.heap.size WY W) => show Below w.heap.size w W from HB1.out.trans ((HOB.out.below hW).1.frame.mono HB1.out.size))
      go_wp2_with fail
      try simp only [Act.put]
      cases ok with
      | false =>
        refine wp_region_held_drew (S := fun W => Below WY.heap.size WY W) (by kernel_rfl) ((Below.refl _ _).drew) (fun hH => ?_)
        refine wpAnyH_take (i := 0) (v := .bool false) rfl (by kernel_rfl) (by kernel_rfl) (by kernel_rfl) (fun _ _ _ h => h) (Or.inl ⟨by kernel_rfl, fun w' hw' => by clear hw'; go_simp⟩) hH ?_
        simp only [Act.put]
        refine wpAnyH_take (i := 1) (v := .bool true) rfl (by kernel_rfl) (by kernel_rfl) (by kernel_rfl) (fun _ _ _ h => h) (Or.inl ⟨by kernel_rfl, fun w' hw' => by clear hw'; go_simp⟩) hH ?_
        simp only [Act.put]
        refine wpAnyH_take (i := 2) (v := .bool true) rfl (by kernel_rfl) (by kernel_rfl) (by kernel_rfl) (fun _ _ _ h => h) (Or.inl ⟨by kernel_rfl, fun w' hw' => by clear hw'; go_simp⟩) hH ?_
        simp only [Act.put]
        refine wpAnyH_take (i := 3) (v := undef) rfl (by kernel_rfl) (by kernel_rfl) (by kernel_rfl) (fun _ _ _ h => h) (Or.inr ⟨by kernel_rfl, rfl⟩) hH ?_
        simp only [Act.put]
        refine wpAnyH_take (i := 4) (v := undef) rfl (by kernel_rfl) (by kernel_rfl) (by kernel_rfl) (fun _ _ _ h => h) (Or.inr ⟨by kernel_rfl, rfl⟩) hH ?_
        simp only [Act.put]
        refine wpAnyH_take (i := 5) (v := undef) rfl (by kernel_rfl) (by kernel_rfl) (by kernel_rfl) (fun _ _ _ h => h) (Or.inr ⟨by kernel_rfl, rfl⟩) hH ?_
        simp only [Act.put]
        refine wpAnyH_take (i := 6) (v := undef) rfl (by kernel_rfl) (by kernel_rfl) (by kernel_rfl) (fun _ _ _ h => h) (Or.inr ⟨by kernel_rfl, rfl⟩) hH ?_
        simp only [Act.put]
        refine wpAnyH_take (i := 7) (v := undef) rfl (by kernel_rfl) (by kernel_rfl) (by kernel_rfl) (fun _ _ _ h => h) (Or.inr ⟨by kernel_rfl, rfl⟩) hH ?_
        simp only [Act.put]
        refine wpAnyH_take (i := 8) (v := undef) rfl (by kernel_rfl) (by kernel_rfl) (by kernel_rfl) (fun _ _ _ h => h) (Or.inr ⟨by kernel_rfl, rfl⟩) hH ?_
        simp only [Act.put]
        refine wpAnyH_take (i := 9) (v := undef) rfl (by kernel_rfl) (by kernel_rfl) (by kernel_rfl) (fun _ _ _ h => h) (Or.inr ⟨by kernel_rfl, rfl⟩) hH ?_
        simp only [Act.put]
        refine wpAnyH_take (i := 10) (v := undef) rfl (by kernel_rfl) (by kernel_rfl) (by kernel_rfl) (fun _ _ _ h => h) (Or.inr ⟨by kernel_rfl, rfl⟩) hH ?_
        simp only [Act.put]
        refine wpAnyH_ready (rs := [11]) (by kernel_rfl) (by simp) ?_
        refine AllReadyH.cons rfl (fun K hK => ?_) AllReadyH.nil
        rw [if_pos (by kernel_rfl)]
        go_simp
        refine hK.out _ _ hH (fun hH => ?_)
        clear hK K
        try simp only [Act.put]
        refine wpAnyH_done (by kernel_rfl) ?_ _
        try simp only [Act.put]
        go_wp2_with fail
        go_ret
        exact ⟨rfl, HFIN.out _ hH⟩
      | true =>
        by_cases hsn : xs = asn
        · obtain ⟨hBB, hbn⟩ := HOKT.out rfl hsn
          subst hsn
          have hcmp : (xs != xs) = false := by simp
          refine wp_region_held_drew (S := fun W => Below WY.heap.size WY W) (by kernel_rfl) ((Below.refl _ _).drew) (fun hH => ?_)
          refine wpAnyH_take (i := 0) (v := .bool true) rfl (by kernel_rfl) (by kernel_rfl) (by kernel_rfl) (fun _ _ _ h => h) (Or.inl ⟨by kernel_rfl, fun w' hw' => by clear hw'; go_simp⟩) hH ?_
          simp only [Act.put]
          refine wpAnyH_take (i := 1) (v := .bool false) rfl (by kernel_rfl) (by kernel_rfl) (by kernel_rfl) (fun _ _ _ h => h) (Or.inl ⟨by kernel_rfl, fun w' hw' => by clear hw'; go_simp⟩) hH ?_
          simp only [Act.put]
          refine wpAnyH_take (i := 2) (v := .bool false) rfl (by kernel_rfl) (by kernel_rfl) (by kernel_rfl) (fun _ _ _ h => h) (Or.inl ⟨by kernel_rfl, fun w' hw' => by clear hw'; go_simp⟩) hH ?_
          simp only [Act.put]
          refine wpAnyH_take (i := 3) (v := .pointer (some ⟨bs, 1, none⟩)) rfl (by kernel_rfl) (by kernel_rfl) (by kernel_rfl) (fun _ _ _ h => h) (Or.inl ⟨by kernel_rfl, fun w' hw' => by clear hw'; go_simp⟩) hH ?_
          simp only [Act.put]
          refine wpAnyH_take (i := 4) (v := .int .i64 xs) rfl (by kernel_rfl) (by kernel_rfl) (by kernel_rfl) (fun _ _ _ h => h) (Or.inl ⟨by kernel_rfl, fun w' hw' => by have h := (HSC.out _ hw').at_ 1 _ rfl; clear hw'; go_simp⟩) hH ?_
          simp only [Act.put]
          refine wpAnyH_take (i := 5) (v := .slice (some ⟨gt, 0, none⟩) m ct) rfl (by kernel_rfl) (by kernel_rfl) (by kernel_rfl) (fun _ _ _ h => h) (Or.inl ⟨by kernel_rfl, fun w' hw' => by clear hw'; go_simp⟩) hH ?_
          simp only [Act.put]
          refine wpAnyH_take (i := 6) (v := .int .i64 (kk : Int)) rfl (by kernel_rfl) (by kernel_rfl) (by kernel_rfl) (fun _ _ _ h => h) (Or.inl ⟨by kernel_rfl, fun w' hw' => by clear hw'; go_simp⟩) hH ?_
          simp only [Act.put]
          refine wpAnyH_take (i := 7) (v := .pointer (some ⟨gt, kk * 6, none⟩)) rfl (by kernel_rfl) (by kernel_rfl) (by kernel_rfl) (fun _ _ _ h => h) (Or.inl ⟨by kernel_rfl, fun w' hw' => by clear hw'; go_simp⟩) hH ?_
          simp only [Act.put]
          refine wpAnyH_take (i := 8) (v := .pointer (some ⟨gt, kk * 6 + 2, none⟩)) rfl (by kernel_rfl) (by kernel_rfl) (by kernel_rfl) (fun _ _ _ h => h) (Or.inl ⟨by kernel_rfl, fun w' hw' => by clear hw'; go_simp⟩) hH ?_
          simp only [Act.put]
          refine wpAnyH_take (i := 9) (v := .int .i64 xs) rfl (by kernel_rfl) (by kernel_rfl) (by kernel_rfl) (fun _ _ _ h => h) (Or.inl ⟨by kernel_rfl, fun w' hw' => by have h := HTC.out _ hw' 2 _ rfl; clear hw'; go_simp⟩) hH ?_
          simp only [Act.put]
          refine wpAnyH_take (i := 10) (v := .bool false) rfl (by kernel_rfl) (by kernel_rfl) (by kernel_rfl) (fun _ _ _ h => h) (Or.inl ⟨by kernel_rfl, fun w' hw' => by clear hw'; go_simp⟩) hH ?_
          simp only [Act.put]
          refine wpAnyH_ready (rs := [11]) (by kernel_rfl) (by simp) ?_
          refine AllReadyH.cons rfl (fun K hK => ?_) AllReadyH.nil
          rw [if_pos (by kernel_rfl)]
          go_simp
          refine hK.out _ _ hH (fun hH => ?_)
          clear hK K
          try simp only [Act.put]
          refine wpAnyH_done (by kernel_rfl) ?_ _
          try simp only [Act.put]
          have HT2 := hid (HTR2.out hBB)
          have HA2 := hid (HAC2.out hBB)
          clear hBB HTR2 HAC2 hcmp HOKT
          go_wp2_with (first
            | (go_at_call 24; refine ((HOB.out.below hH).1.look (fun fp hk => HT2.out fp _ hk)).mono ?_; rintro e w8 ⟨A8, c8, rfl, hx⟩; have hH8 := hH.trans (Below.mono hx hH.size); clear hx)
            | (go_at_call 22; refine ((HOB.out.below hH8).1.look (fun fp hk => HA2.out fp _ hk)).mono ?_; rintro e w9 ⟨A9, c9, rfl, hx⟩; have hH9 := hH8.trans (Below.mono hx hH8.size); clear hx))
          try simp only [Act.put]
          have HH9 := hid hH9
          clear hH hH8 hH9
          by_cases hrq : xr = arq
          · rw [if_pos hrq] at hbn
            simp only [An.mk.injEq] at hbn
            obtain ⟨rfl, rfl, rfl, rfl, rfl, rfl⟩ := hbn
            subst hrq
            refine wp_region_held_drew (S := fun W => Below w9.heap.size w9 W) (by kernel_rfl) ((Below.refl _ _).drew) (fun hH => ?_)
            refine wpAnyH_take (i := 0) (v := .pointer (some ⟨bs, 2, none⟩)) rfl (by kernel_rfl) (by kernel_rfl) (by kernel_rfl) (fun _ _ _ h => h) (Or.inl ⟨by kernel_rfl, fun w' hw' => by clear hw'; go_simp⟩) hH ?_
            simp only [Act.put]
            refine wpAnyH_take (i := 1) (v := .int .i64 xr) rfl (by kernel_rfl) (by kernel_rfl) (by kernel_rfl) (fun _ _ _ h => h) (Or.inl ⟨by kernel_rfl, fun w' hw' => by have h := (HSC.out _ (HH9.out.trans (Below.mono hw' HH9.out.size))).at_ 2 _ rfl; clear hw'; go_simp⟩) hH ?_
            simp only [Act.put]
            refine wpAnyH_take (i := 2) (v := .slice (some ⟨gt, 0, none⟩) m ct) rfl (by kernel_rfl) (by kernel_rfl) (by kernel_rfl) (fun _ _ _ h => h) (Or.inl ⟨by kernel_rfl, fun w' hw' => by clear hw'; go_simp⟩) hH ?_
            simp only [Act.put]
            refine wpAnyH_take (i := 3) (v := .int .i64 (kk : Int)) rfl (by kernel_rfl) (by kernel_rfl) (by kernel_rfl) (fun _ _ _ h => h) (Or.inl ⟨by kernel_rfl, fun w' hw' => by clear hw'; go_simp⟩) hH ?_
            simp only [Act.put]
            refine wpAnyH_take (i := 4) (v := .pointer (some ⟨gt, kk * 6, none⟩)) rfl (by kernel_rfl) (by kernel_rfl) (by kernel_rfl) (fun _ _ _ h => h) (Or.inl ⟨by kernel_rfl, fun w' hw' => by clear hw'; go_simp⟩) hH ?_
            simp only [Act.put]
            refine wpAnyH_take (i := 5) (v := .pointer (some ⟨gt, kk * 6 + 3, none⟩)) rfl (by kernel_rfl) (by kernel_rfl) (by kernel_rfl) (fun _ _ _ h => h) (Or.inl ⟨by kernel_rfl, fun w' hw' => by clear hw'; go_simp⟩) hH ?_
            simp only [Act.put]
            refine wpAnyH_take (i := 6) (v := .int .i64 xr) rfl (by kernel_rfl) (by kernel_rfl) (by kernel_rfl) (fun _ _ _ h => h) (Or.inl ⟨by kernel_rfl, fun w' hw' => by have h := HTC.out _ (HH9.out.trans (Below.mono hw' HH9.out.size)) 3 _ rfl; clear hw'; go_simp⟩) hH ?_
            simp only [Act.put]
            refine wpAnyH_ready (rs := [7]) (by kernel_rfl) (by simp) ?_
            refine AllReadyH.cons rfl (fun K hK => ?_) AllReadyH.nil
            rw [if_pos (by kernel_rfl)]
            go_simp
            refine hK.out _ _ hH (fun hH => ?_)
            clear hK K
            try simp only [Act.put]
            refine wpAnyH_done (by kernel_rfl) ?_ _
            try simp only [Act.put]
            have HG27 := hid hH
            clear hH
            go_wp2_with fail
            try simp only [Act.put]
            refine wp_region_held_drew (S := fun W => Below w9.drew.heap.size w9.drew W) (by kernel_rfl) ((Below.refl _ _).drew) (fun hH => ?_)
            refine wpAnyH_take (i := 0) (v := .agg ([.int .i64 bk, .int .i64 bc, .int .i64 bse, .int .i64 xr, .int .i64 bo, .string bb] : List Value).toArray) rfl (by kernel_rfl) (by kernel_rfl) (by kernel_rfl) (fun _ _ _ h => h) ?_ hH ?_
            · refine yieldsIf_load_mid ?_ 33 (.tmp 16) ?_ ba 0 ?_ [.int .i64 bk, .int .i64 bc, .int .i64 bse, .int .i64 xr, .int .i64 bo, .string bb] _ (fun W hW => Row.range0 (HRA.out.below (HH9.out.trans (Below.mono (HG27.out.trans (Below.mono hW HG27.out.size)) HH9.out.size)) HRA.out.lt)) Tryz.underlying33 rfl HZ.out
              all_goals kernel_rfl
            simp only [Act.put]
            refine wpAnyH_take (i := 1) (v := .slice (some ⟨gt, 0, none⟩) m ct) rfl (by kernel_rfl) (by kernel_rfl) (by kernel_rfl) (fun _ _ _ h => h) (Or.inl ⟨by kernel_rfl, fun w' hw' => by clear hw'; go_simp⟩) hH ?_
            simp only [Act.put]
            refine wpAnyH_take (i := 2) (v := .int .i64 (kk : Int)) rfl (by kernel_rfl) (by kernel_rfl) (by kernel_rfl) (fun _ _ _ h => h) (Or.inl ⟨by kernel_rfl, fun w' hw' => by clear hw'; go_simp⟩) hH ?_
            simp only [Act.put]
            refine wpAnyH_take (i := 3) (v := .pointer (some ⟨gt, kk * 6, none⟩)) rfl (by kernel_rfl) (by kernel_rfl) (by kernel_rfl) (fun _ _ _ h => h) (Or.inl ⟨by kernel_rfl, fun w' hw' => by clear hw'; go_simp⟩) hH ?_
            simp only [Act.put]
            refine wpAnyH_take (i := 4) (v := .agg ([.int .i64 bk, .int .i64 bc, .int .i64 bse, .int .i64 xr, .int .i64 bo, .string bb] : List Value).toArray) rfl (by kernel_rfl) (by kernel_rfl) (by kernel_rfl) (fun _ _ _ h => h) ?_ hH ?_
            · refine yieldsIf_load_mid ?_ 33 (.tmp 153) ?_ gt (kk * 6) ?_ [.int .i64 bk, .int .i64 bc, .int .i64 bse, .int .i64 xr, .int .i64 bo, .string bb] _ (fun W hW => HTC.out W (HH9.out.trans (Below.mono (HG27.out.trans (Below.mono hW HG27.out.size)) HH9.out.size))) Tryz.underlying33 rfl HZ.out
              all_goals kernel_rfl
            simp only [Act.put]
            refine wpAnyH_take (i := 5) (v := .bool true) rfl (by kernel_rfl) (by kernel_rfl) (by kernel_rfl) (fun _ _ _ h => h) ?_ hH ?_
            · refine yields_eqa ?_ (⟨bk, bc, bse, xr, bo, bb⟩ : An) (.tmp 150) (.tmp 154) 33 ?_ ?_ ?_
              all_goals kernel_rfl
            simp only [Act.put]
            refine wpAnyH_ready (rs := [6]) (by kernel_rfl) (by simp) ?_
            refine AllReadyH.cons rfl (fun K hK => ?_) AllReadyH.nil
            rw [if_pos (by kernel_rfl)]
            go_simp
            refine hK.out _ _ hH (fun hH => ?_)
            clear hK K
            try simp only [Act.put]
            refine wpAnyH_done (by kernel_rfl) ?_ _
            try simp only [Act.put]
            go_wp2_with fail
            go_ret
            exact ⟨rfl, HFIN.out _ (HH9.out.trans (Below.mono (HG27.out.trans (Below.mono hH HG27.out.size)) HH9.out.size))⟩
          · rw [if_neg hrq] at hbn
            simp only [an0, An.mk.injEq] at hbn
            obtain ⟨rfl, rfl, rfl, rfl, rfl, rfl⟩ := hbn
            have hrq2 : (xr == arq) = false := beq_eq_false_iff_ne.2 hrq
            refine wp_region_held_drew (S := fun W => Below w9.heap.size w9 W) (by kernel_rfl) ((Below.refl _ _).drew) (fun hH => ?_)
            refine wpAnyH_take (i := 0) (v := .pointer (some ⟨bs, 2, none⟩)) rfl (by kernel_rfl) (by kernel_rfl) (by kernel_rfl) (fun _ _ _ h => h) (Or.inl ⟨by kernel_rfl, fun w' hw' => by clear hw'; go_simp⟩) hH ?_
            simp only [Act.put]
            refine wpAnyH_take (i := 1) (v := .int .i64 xr) rfl (by kernel_rfl) (by kernel_rfl) (by kernel_rfl) (fun _ _ _ h => h) (Or.inl ⟨by kernel_rfl, fun w' hw' => by have h := (HSC.out _ (HH9.out.trans (Below.mono hw' HH9.out.size))).at_ 2 _ rfl; clear hw'; go_simp⟩) hH ?_
            simp only [Act.put]
            refine wpAnyH_take (i := 2) (v := .slice (some ⟨gt, 0, none⟩) m ct) rfl (by kernel_rfl) (by kernel_rfl) (by kernel_rfl) (fun _ _ _ h => h) (Or.inl ⟨by kernel_rfl, fun w' hw' => by clear hw'; go_simp⟩) hH ?_
            simp only [Act.put]
            refine wpAnyH_take (i := 3) (v := .int .i64 (kk : Int)) rfl (by kernel_rfl) (by kernel_rfl) (by kernel_rfl) (fun _ _ _ h => h) (Or.inl ⟨by kernel_rfl, fun w' hw' => by clear hw'; go_simp⟩) hH ?_
            simp only [Act.put]
            refine wpAnyH_take (i := 4) (v := .pointer (some ⟨gt, kk * 6, none⟩)) rfl (by kernel_rfl) (by kernel_rfl) (by kernel_rfl) (fun _ _ _ h => h) (Or.inl ⟨by kernel_rfl, fun w' hw' => by clear hw'; go_simp⟩) hH ?_
            simp only [Act.put]
            refine wpAnyH_take (i := 5) (v := .pointer (some ⟨gt, kk * 6 + 3, none⟩)) rfl (by kernel_rfl) (by kernel_rfl) (by kernel_rfl) (fun _ _ _ h => h) (Or.inl ⟨by kernel_rfl, fun w' hw' => by clear hw'; go_simp⟩) hH ?_
            simp only [Act.put]
            refine wpAnyH_take (i := 6) (v := .int .i64 arq) rfl (by kernel_rfl) (by kernel_rfl) (by kernel_rfl) (fun _ _ _ h => h) (Or.inl ⟨by kernel_rfl, fun w' hw' => by have h := HTC.out _ (HH9.out.trans (Below.mono hw' HH9.out.size)) 3 _ rfl; clear hw'; go_simp⟩) hH ?_
            simp only [Act.put]
            refine wpAnyH_ready (rs := [7]) (by kernel_rfl) (by simp) ?_
            refine AllReadyH.cons rfl (fun K hK => ?_) AllReadyH.nil
            rw [if_pos (by kernel_rfl)]
            go_simp
            refine hK.out _ _ hH (fun hH => ?_)
            clear hK K
            try simp only [Act.put]
            refine wpAnyH_done (by kernel_rfl) ?_ _
            try simp only [Act.put]
            have HRAE := hid ((HRA.out.below HH9.out HRA.out.lt).below hH (HRA.out.below HH9.out HRA.out.lt).lt)
            go_wp2_with (first
              | (refine wpList_load_row rfl 33 (.tmp 16) rfl ba rfl 33 an0.cells (0, 0) _ HRAE.out.arr Tryz.underlying33 rfl HZ.out ?_)
              | (refine wpl_eqa (by kernel_rfl) an0 (.tmp 156) (.tmp 157) 33 rfl rfl rfl ?_))
            go_ret
            exact ⟨rfl, HFIN.out _ (HH9.out.trans (Below.mono hH HH9.out.size))⟩
        · have hcmp : (xs != asn) = true := by simp [hsn]
          refine wp_region_held_drew (S := fun W => Below WY.heap.size WY W) (by kernel_rfl) ((Below.refl _ _).drew) (fun hH => ?_)
          refine wpAnyH_take (i := 0) (v := .bool true) rfl (by kernel_rfl) (by kernel_rfl) (by kernel_rfl) (fun _ _ _ h => h) (Or.inl ⟨by kernel_rfl, fun w' hw' => by clear hw'; go_simp⟩) hH ?_
          simp only [Act.put]
          refine wpAnyH_take (i := 1) (v := .bool false) rfl (by kernel_rfl) (by kernel_rfl) (by kernel_rfl) (fun _ _ _ h => h) (Or.inl ⟨by kernel_rfl, fun w' hw' => by clear hw'; go_simp⟩) hH ?_
          simp only [Act.put]
          refine wpAnyH_take (i := 2) (v := .bool false) rfl (by kernel_rfl) (by kernel_rfl) (by kernel_rfl) (fun _ _ _ h => h) (Or.inl ⟨by kernel_rfl, fun w' hw' => by clear hw'; go_simp⟩) hH ?_
          simp only [Act.put]
          refine wpAnyH_take (i := 3) (v := .pointer (some ⟨bs, 1, none⟩)) rfl (by kernel_rfl) (by kernel_rfl) (by kernel_rfl) (fun _ _ _ h => h) (Or.inl ⟨by kernel_rfl, fun w' hw' => by clear hw'; go_simp⟩) hH ?_
          simp only [Act.put]
          refine wpAnyH_take (i := 4) (v := .int .i64 xs) rfl (by kernel_rfl) (by kernel_rfl) (by kernel_rfl) (fun _ _ _ h => h) (Or.inl ⟨by kernel_rfl, fun w' hw' => by have h := (HSC.out _ hw').at_ 1 _ rfl; clear hw'; go_simp⟩) hH ?_
          simp only [Act.put]
          refine wpAnyH_take (i := 5) (v := .slice (some ⟨gt, 0, none⟩) m ct) rfl (by kernel_rfl) (by kernel_rfl) (by kernel_rfl) (fun _ _ _ h => h) (Or.inl ⟨by kernel_rfl, fun w' hw' => by clear hw'; go_simp⟩) hH ?_
          simp only [Act.put]
          refine wpAnyH_take (i := 6) (v := .int .i64 (kk : Int)) rfl (by kernel_rfl) (by kernel_rfl) (by kernel_rfl) (fun _ _ _ h => h) (Or.inl ⟨by kernel_rfl, fun w' hw' => by clear hw'; go_simp⟩) hH ?_
          simp only [Act.put]
          refine wpAnyH_take (i := 7) (v := .pointer (some ⟨gt, kk * 6, none⟩)) rfl (by kernel_rfl) (by kernel_rfl) (by kernel_rfl) (fun _ _ _ h => h) (Or.inl ⟨by kernel_rfl, fun w' hw' => by clear hw'; go_simp⟩) hH ?_
          simp only [Act.put]
          refine wpAnyH_take (i := 8) (v := .pointer (some ⟨gt, kk * 6 + 2, none⟩)) rfl (by kernel_rfl) (by kernel_rfl) (by kernel_rfl) (fun _ _ _ h => h) (Or.inl ⟨by kernel_rfl, fun w' hw' => by clear hw'; go_simp⟩) hH ?_
          simp only [Act.put]
          refine wpAnyH_take (i := 9) (v := .int .i64 asn) rfl (by kernel_rfl) (by kernel_rfl) (by kernel_rfl) (fun _ _ _ h => h) (Or.inl ⟨by kernel_rfl, fun w' hw' => by have h := HTC.out _ hw' 2 _ rfl; clear hw'; go_simp⟩) hH ?_
          simp only [Act.put]
          refine wpAnyH_take (i := 10) (v := .bool true) rfl (by kernel_rfl) (by kernel_rfl) (by kernel_rfl) (fun _ _ _ h => h) (Or.inl ⟨by kernel_rfl, fun w' hw' => by clear hw'; go_simp⟩) hH ?_
          simp only [Act.put]
          refine wpAnyH_ready (rs := [11]) (by kernel_rfl) (by simp) ?_
          refine AllReadyH.cons rfl (fun K hK => ?_) AllReadyH.nil
          rw [if_pos (by kernel_rfl)]
          go_simp
          refine hK.out _ _ hH (fun hH => ?_)
          clear hK K
          try simp only [Act.put]
          refine wpAnyH_done (by kernel_rfl) ?_ _
          try simp only [Act.put]
          go_wp2_with fail
          go_ret
          exact ⟨rfl, HFIN.out _ hH⟩
end Go.Proofs.YtdimlfjepliflaaGreatDoor
