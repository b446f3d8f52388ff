/-
  The answer's own disk: Start.
-/
import Derived.Test.YtdkgpjmehdpliaaRefF
import Derived.Deep.RegionHeld3
namespace Go.Proofs.Ytdkgpjmehdpliaa
open Go.RowKit

theorem mix_take (s : Sec) (b : List UInt8) (c : Nat) : (takeS s b c).lasts = mixS b s.lasts c := rfl
theorem mix_l (a b : List UInt8) (c : Nat) (w : World) (ha : a.length = 384) (hb : b.length = 384) (hc : c ≤ 384) : Calls Try.prog 28 #[.string ⟨a.toArray⟩, .string ⟨b.toArray⟩, .int .i64 (c : Int)] w (NS w (mixS a b c)) := by
  have sz : ∀ l : List UInt8, (⟨l.toArray⟩ : ByteArray).size = l.length := fun l => by rw [← sb_len]; simp [sb]
  have H := mix_any ⟨a.toArray⟩ ⟨b.toArray⟩ c w (by rw [sz, ha]) (by rw [sz, hb]) hc
  rw [sb_str, sb_str] at H
  exact H
theorem RndR.fr {wr w3 : World} {gl gm cl cm : Nat} {S : Sp} {F : Nat → Nat} {k : Nat} (h : RndR wr gl gm cl cm S F k) (hf : Fr wr w3 []) : RndR w3 gl gm cl cm S F k := ⟨hf.own h.la (by simp), hf.own h.ma (by simp)⟩
/-- what is there behind the call of Mix -/
theorem mix_facts {wr w3 : World} {q gl gm cl cm pl : Nat} {S : Sp} {F : Nat → Nat} {k : Nat} {v0 v1 v2 : Value} (hrd : RndR wr gl gm cl cm S F k) (hf : Fr wr.drew w3 [])
    (d0 : wr.cell? ⟨q, 0, none⟩ = some v0) (d1 : wr.cell? ⟨q, 1, none⟩ = some v1) (l1 : wr.cell? ⟨gl, pl, none⟩ = some v2) (l2 : ∃ b, wr.cell? ⟨gm, pl, none⟩ = some b) :
    w3.cell? ⟨q, 0, none⟩ = some v0 ∧ w3.cell? ⟨q, 1, none⟩ = some v1 ∧ w3.cell? ⟨gl, pl, none⟩ = some v2 ∧ w3.frozen? ⟨gl, pl, none⟩ = false ∧ (∃ b, w3.cell? ⟨gm, pl, none⟩ = some b) ∧ w3.frozen? ⟨gm, pl, none⟩ = false ∧ RndR w3 gl gm cl cm S F k ∧ ∀ a v, wr.cell? a = some v → w3.cell? a = some v := by
  have hf' : Fr wr w3 [] := hf.undrew (n := 1)
  have cell : ∀ a v, wr.cell? a = some v → w3.cell? a = some v := fun a v h => (World.cell?_of_block (w := wr) (hf'.block a.block (World.block_lt_of_cell? wr _ h) (by simp))).trans h
  have hr3 := hrd.fr hf'
  obtain ⟨b, hb⟩ := l2
  exact ⟨cell _ _ d0, cell _ _ d1, cell _ _ l1, hr3.la.frozenAt pl, ⟨b, cell _ _ hb⟩, hr3.ma.frozenAt pl, hr3, cell⟩
theorem rstart_busy (q gl gm cl cm : Nat) (vw v : Value) (S : Sp) (picks : List Int) (w : World) (h : HasR w q gl gm cl cm vw S) (ho : S.on = true) :
    Calls Try.prog 36 #[dptr q, v] w (RE w q gl gm cl cm vw (S.start picks)) := by
  have e : S.start picks = (S, 10) := by unfold Sp.start; rw [if_pos ho]
  rw [e]
  have c3 := h.c3
  rw [ho] at c3
  have HH := hid h
  clear e ho h
  unfold dptr
  go_enter Try.func36, Try.ntmps36
  go_wp2_with fail
  go_ret
  exact RE.same HH.out

set_option maxRecDepth 10000 in
set_option maxHeartbeats 2000000 in
theorem rstart_ok (q gl gm cl cm : Nat) (vw : Value) (S : Sp) (picks : List Int) (A : Option Addr) (cp D : Nat) (w : World) (h : HasR w q gl gm cl cm vw S) (ho : S.on = false) (hc : S.count ≤ 1048576)
    (hr : Rd w D A (ints picks)) (hp : ∀ x ∈ picks, x ≤ 9223372036854775807) (hpn : picks.length ≤ 9223372036854775807) (hA : picks ≠ [] → ∀ g o, A = some ⟨g, o, none⟩ → g ≠ gl ∧ g ≠ gm) :
    Calls Try.prog 36 #[dptr q, .slice A picks.length cp] w (RE w q gl gm cl cm vw (S.start picks)) := by
  rw [Sp.start_ok ho]
  have hway := h.wf.less
  have c3 := h.c3
  rw [ho] at c3
  have H1 := hid h
  have n1 := h.n1
  have n2 := h.n2
  have n3 := h.n3
  have n1' := Ne.symm h.n1
  have n2' := Ne.symm h.n2
  have n3' := Ne.symm h.n3
  have HRP := hid hr
  have HP := hid hp
  have HA := hid hA
  clear ho h hr hp hA
  unfold dptr at *
  go_enter Try.func36, Try.ntmps36
  go_wp2_with fail
  go_loopw [5] (fun i wr => ∃ k : Nat, k ≤ S.way.length ∧ i = .int .i64 k ∧ RndR wr gl gm cl cm S (pickOf picks) k ∧ Fr w wr [gl, gm]) (fun i _ => S.way.length - (intOf i).toNat)
  case atStart => exact ⟨0, by omega, rfl, ⟨H1.out.la, H1.out.ma⟩, Fr.refl _ _⟩
  case round =>
    obtain ⟨k, hk, rfl, hrd, hfr⟩ := hrel
    have hdk := hfr.row H1.out.disk (by simp; exact ⟨n1, n2⟩)
    have d0 := hdk.at_ 0 _ rfl
    have d1 := hdk.at_ 1 _ rfl
    have d2 := hdk.at_ 2 _ rfl
    have d3 := hdk.at_ 3 _ rfl
    have f2 := hdk.frozen 2
    have f3 := hdk.frozen 3
    by_cases hlt : k < S.way.length
    · obtain ⟨g, c', hv'⟩ := H1.out.wyShape (by omega)
      have hgb : vw.ownBlock = some g := by rw [hv']; rfl
      have hgl : g ≠ gl := fun e => H1.out.n5 (by rw [hgb, e])
      have hgm : g ≠ gm := fun e => H1.out.n6 (by rw [hgb, e])
      have hlg := Ne.symm hgl
      obtain ⟨x1, x2⟩ := H1.out.wc k hlt g c' hv'
      have hgw := hfr.block g (World.block_lt_of_cell? _ _ x1) (by simp; exact ⟨hgl, hgm⟩)
      have w1c : wr.cell? ⟨g, k * 2, none⟩ = some (.int .i64 (S.way[k].place : Int)) := (World.cell?_of_block (w := w) (a := ⟨g, k * 2, none⟩) hgw).trans x1
      have w2c : wr.cell? ⟨g, k * 2 + 1, none⟩ = some (str S.way[k].bytes) := (World.cell?_of_block (w := w) (a := ⟨g, k * 2 + 1, none⟩) hgw).trans x2
      rw [hv'] at d2
      have hpl := (H1.out.wf.way _ (List.getElem_mem hlt)).1
      have hpi : ((S.way[k].place : Nat) : Int) < (S.secs.length : Int) := by omega
      have hki : (k : Int) < (S.way.length : Int) := by omega
      have hi : S.way[k].place < (sett (pickOf picks) (S.way.take k) S.secs).length := by rw [sett_length]; exact hpl
      obtain ⟨l1, l2⟩ := hrd.lc _ hi
      have hby := (H1.out.wf.way _ (List.getElem_mem hlt)).2
      have hts : (sett (pickOf picks) (S.way.take k) S.secs)[S.way[k].place].lasts.length = 384 := sett_wf _ (pickOf_le picks) _ _ H1.out.wf.len (fun x hx => (H1.out.wf.way x (List.mem_of_mem_take hx)).2) _ (List.getElem_mem hi)
      have HNX := hid (fun wq hq => RndR.next (wr := wq) (gl := gl) (gm := gm) (cl := cl) (cm := cm) (S := S) (F := pickOf picks) (k := k) hq n3 hlt hi _ _ (mix_take _ _ _) rfl)
      have HNZ := hid (fun wq hq hm => RndR.next0 (wr := wq) (gl := gl) (gm := gm) (cl := cl) (cm := cm) (S := S) (F := pickOf picks) (k := k) hq n3 hlt hi _ (mix_take _ _ _) hm)
      simp only [takeS] at HNX HNZ
      obtain ⟨osec, hos⟩ : ∃ osec, (sett (pickOf picks) (S.way.take k) S.secs)[S.way[k].place] = osec := ⟨_, rfl⟩
      rw [hos] at l1 l2 hts HNX HNZ
      obtain ⟨pl, hpl2⟩ : ∃ pl, S.way[k].place = pl := ⟨_, rfl⟩
      obtain ⟨by_, hby2⟩ : ∃ b, S.way[k].bytes = b := ⟨_, rfl⟩
      obtain ⟨cc, hcc⟩ : ∃ cc, pickOf picks k = cc := ⟨_, rfl⟩
      have hcle : cc ≤ 384 := by rw [← hcc]; exact pickOf_le picks k
      rw [hcc] at HNX HNZ
      rw [hby2] at w2c hby HNX HNZ
      rw [hpl2] at l1 l2 w1c hpi HNX HNZ hpl
      have HRD := hid hrd
      have HFR := hid hfr
      have HCC := hid hcc
      clear hos hpl2 hby2 hcc hi hrd hgw x1 x2 hdk hv' hgb hfr
      by_cases hp0 : picks = []
      · subst hp0
        have hc0 : cc = 0 := by rw [← HCC.out]; rfl
        subst hc0
        unfold str at *
        go_wp2_with fail
        refine wp_region_held_drew (S := (fun w' => w'.cell? ⟨q, 0, none⟩ = some (.slice (some ⟨gl, 0, none⟩) S.secs.length cl) ∧ w'.cell? ⟨q, 2, none⟩ = some (.slice (some ⟨g, 0, none⟩) S.way.length c') ∧ w'.cell? ⟨g, k * 2 + 1, none⟩ = some (.string ⟨by_.toArray⟩))) (by kernel_rfl) ⟨d0, d2, w2c⟩ (fun hH => ?_)
        refine wpAnyH_take (i := 0) (v := .pointer (some ⟨q, 0, none⟩)) rfl (by kernel_rfl) (by kernel_rfl) (by kernel_rfl) (fun _ _ _ h => h) (Or.inl ⟨by rfl, fun w' hw' => by (try dsimp only at hw'); go_simp⟩) hH ?_
        simp only [Act.put]
        refine wpAnyH_take (i := 1) (v := .pointer (some ⟨q, 0, none⟩)) rfl (by kernel_rfl) (by kernel_rfl) (by kernel_rfl) (fun _ _ _ h => h) (Or.inl ⟨by rfl, fun w' hw' => by (try dsimp only at hw'); go_simp⟩) hH ?_
        simp only [Act.put]
        refine wpAnyH_take (i := 2) (v := .pointer (some ⟨q, 0, none⟩)) rfl (by kernel_rfl) (by kernel_rfl) (by kernel_rfl) (fun _ _ _ h => h) (Or.inl ⟨by rfl, fun w' hw' => by (try dsimp only at hw'); go_simp⟩) hH ?_
        simp only [Act.put]
        refine wpAnyH_take (i := 3) (v := .slice (some ⟨gl, 0, none⟩) S.secs.length cl) rfl (by kernel_rfl) (by kernel_rfl) (by kernel_rfl) (fun _ _ _ h => h) (Or.inl ⟨by rfl, fun w' hw' => by (try dsimp only at hw'); go_simp⟩) hH ?_
        simp only [Act.put]
        refine wpAnyH_take (i := 4) (v := .int .i64 (pl : Int)) rfl (by kernel_rfl) (by kernel_rfl) (by kernel_rfl) (fun _ _ _ h => h) (Or.inl ⟨by rfl, fun w' hw' => by (try dsimp only at hw'); go_simp⟩) hH ?_
        simp only [Act.put]
        refine wpAnyH_take (i := 5) (v := .pointer (some ⟨q, 0, none⟩)) rfl (by kernel_rfl) (by kernel_rfl) (by kernel_rfl) (fun _ _ _ h => h) (Or.inl ⟨by rfl, fun w' hw' => by (try dsimp only at hw'); go_simp⟩) hH ?_
        simp only [Act.put]
        refine wpAnyH_take (i := 6) (v := .pointer (some ⟨q, 0, none⟩)) rfl (by kernel_rfl) (by kernel_rfl) (by kernel_rfl) (fun _ _ _ h => h) (Or.inl ⟨by rfl, fun w' hw' => by (try dsimp only at hw'); go_simp⟩) hH ?_
        simp only [Act.put]
        refine wpAnyH_take (i := 7) (v := .pointer (some ⟨q, 2, none⟩)) rfl (by kernel_rfl) (by kernel_rfl) (by kernel_rfl) (fun _ _ _ h => h) (Or.inl ⟨by rfl, fun w' hw' => by (try dsimp only at hw'); go_simp⟩) hH ?_
        simp only [Act.put]
        refine wpAnyH_take (i := 8) (v := .slice (some ⟨g, 0, none⟩) S.way.length c') rfl (by kernel_rfl) (by kernel_rfl) (by kernel_rfl) (fun _ _ _ h => h) (Or.inl ⟨by rfl, fun w' hw' => by (try dsimp only at hw'); go_simp⟩) hH ?_
        simp only [Act.put]
        refine wpAnyH_take (i := 9) (v := .int .i64 (k : Int)) rfl (by kernel_rfl) (by kernel_rfl) (by kernel_rfl) (fun _ _ _ h => h) (Or.inl ⟨by rfl, fun w' hw' => by (try dsimp only at hw'); go_simp⟩) hH ?_
        simp only [Act.put]
        refine wpAnyH_take (i := 10) (v := .pointer (some ⟨g, k * 2, none⟩)) rfl (by kernel_rfl) (by kernel_rfl) (by kernel_rfl) (fun _ _ _ h => h) (Or.inl ⟨by rfl, fun w' hw' => by (try dsimp only at hw'); go_simp⟩) hH ?_
        simp only [Act.put]
        refine wpAnyH_take (i := 11) (v := .pointer (some ⟨g, k * 2 + 1, none⟩)) rfl (by kernel_rfl) (by kernel_rfl) (by kernel_rfl) (fun _ _ _ h => h) (Or.inl ⟨by rfl, fun w' hw' => by (try dsimp only at hw'); go_simp⟩) hH ?_
        simp only [Act.put]
        refine wpAnyH_take (i := 12) (v := .string ⟨by_.toArray⟩) rfl (by kernel_rfl) (by kernel_rfl) (by kernel_rfl) (fun _ _ _ h => h) (Or.inl ⟨by rfl, fun w' hw' => by (try dsimp only at hw'); go_simp⟩) hH ?_
        simp only [Act.put]
        refine wpAnyH_take (i := 13) (v := .pointer (some ⟨q, 0, none⟩)) rfl (by kernel_rfl) (by kernel_rfl) (by kernel_rfl) (fun _ _ _ h => h) (Or.inl ⟨by rfl, fun w' hw' => by (try dsimp only at hw'); go_simp⟩) hH ?_
        simp only [Act.put]
        refine wpAnyH_take (i := 14) (v := .pointer (some ⟨q, 0, none⟩)) rfl (by kernel_rfl) (by kernel_rfl) (by kernel_rfl) (fun _ _ _ h => h) (Or.inl ⟨by rfl, fun w' hw' => by (try dsimp only at hw'); go_simp⟩) hH ?_
        simp only [Act.put]
        refine wpAnyH_take (i := 15) (v := .pointer (some ⟨q, 0, none⟩)) rfl (by kernel_rfl) (by kernel_rfl) (by kernel_rfl) (fun _ _ _ h => h) (Or.inl ⟨by rfl, fun w' hw' => by (try dsimp only at hw'); go_simp⟩) hH ?_
        simp only [Act.put]
        refine wpAnyH_take (i := 16) (v := .slice (some ⟨gl, 0, none⟩) S.secs.length cl) rfl (by kernel_rfl) (by kernel_rfl) (by kernel_rfl) (fun _ _ _ h => h) (Or.inl ⟨by rfl, fun w' hw' => by (try dsimp only at hw'); go_simp⟩) hH ?_
        simp only [Act.put]
        refine wpAnyH_take (i := 17) (v := .int .i64 (pl : Int)) rfl (by kernel_rfl) (by kernel_rfl) (by kernel_rfl) (fun _ _ _ h => h) (Or.inl ⟨by rfl, fun w' hw' => by (try dsimp only at hw'); go_simp⟩) hH ?_
        simp only [Act.put]
        refine wpAnyH_take (i := 18) (v := .pointer (some ⟨gl, pl, none⟩)) rfl (by kernel_rfl) (by kernel_rfl) (by kernel_rfl) (fun _ _ _ h => h) (Or.inl ⟨by rfl, fun w' hw' => by (try dsimp only at hw'); go_simp⟩) hH ?_
        simp only [Act.put]
        refine wpAnyH_take (i := 20) (v := .int .i64 (0)) rfl (by kernel_rfl) (by kernel_rfl) (by kernel_rfl) (fun _ _ _ h => h) (Or.inl ⟨by rfl, fun w' hw' => by (try dsimp only at hw'); go_simp⟩) hH ?_
        simp only [Act.put]
        refine wpAnyH_ready (rs := [19]) (by kernel_rfl) (by simp) ?_
        refine AllReadyH.cons rfl (fun K hK => ?_) AllReadyH.nil
        go_simp
        refine hK.out _ _ hH (fun hH2 => ?_)
        clear hK K hH
        try simp only [Act.put]
        refine wpAnyH_ready (rs := [21]) (by kernel_rfl) (by simp) ?_
        refine AllReadyH.cons rfl (fun K hK => ?_) AllReadyH.nil
        go_simp
        go_at_call 28
        refine (mix_l by_ osec.lasts 0 _ hby hts (by decide)).mono ?_
        rintro e w3 ⟨rfl, hf3⟩
        obtain ⟨m0, m1, m2, m3, ⟨mb, m4⟩, m5, m6, m9⟩ := mix_facts HRD.out hf3 d0 d1 l1 ⟨_, l2⟩
        have m7 := m9 _ _ d2
        have m8 := m9 _ _ w2c
        have HR3 := hid m6
        have HF3 := hid hf3
        clear m6 hf3 m9
        unfold str
        go_wp2_with fail
        refine hK.out _ _ ⟨m0, m7, m8⟩ (fun hH3 => ?_)
        clear hK K hH2
        try simp only [Act.put]
        refine wpAnyH_take (i := 22) (v := .pointer (some ⟨gl, pl, none⟩)) rfl (by kernel_rfl) (by kernel_rfl) (by kernel_rfl) (fun _ _ _ h => h) (Or.inl ⟨by rfl, fun w' hw' => by (try dsimp only at hw'); go_simp⟩) hH3 ?_
        try simp only [Act.put]
        refine wpAnyH_ready (rs := [23]) (by kernel_rfl) (by simp) ?_
        refine AllReadyH.cons rfl (fun K hK => ?_) AllReadyH.nil
        go_simp
        refine hK.out _ _ ⟨(World.cell?_setCell_far _ _ _ _ n1').trans m0, (World.cell?_setCell_far _ _ _ _ n1').trans m7, (World.cell?_setCell_far _ _ _ _ hlg).trans m8⟩ (fun hH4 => ?_)
        clear hK K hH3
        try simp only [Act.put]
        refine wpAnyH_done (by kernel_rfl) ?_ _
        clear hH4
        go_wp2_with fail
        go_roundw
        case rel => (repeat apply Exists.intro); exact ⟨⟨k + 1, by omega, by go_num, HNZ.out _ HR3.out (by simp), (HFR.out.trans HF3.out.undrew (by simp)).setCell (p := ⟨gl, pl, none⟩) (by simp) _⟩, rfl⟩
        case measure => simp [intOf]; omega
      · have hn : 0 < picks.length := List.length_pos_iff.2 hp0
        have hm : k % picks.length < picks.length := Nat.mod_lt _ hn
        obtain ⟨pg, po, hpa, _, hpc⟩ := HRP.out.at_ (j := k % picks.length) (by rw [ints_len]; exact hm)
        obtain ⟨pn1, pn2⟩ := HA.out hp0 pg po hpa
        obtain ⟨x, hx⟩ : ∃ x, picks[k % picks.length] = x := ⟨_, rfl⟩
        have hx2 : x ≤ 9223372036854775807 := by rw [← hx]; exact HP.out _ (List.getElem_mem hm)
        have hpc2 : w.cell? ⟨pg, po + k % picks.length, none⟩ = some (.int .i64 x) := by
          rw [hpc]
          simp [ints, hx]
        have hpcw : wr.cell? ⟨pg, po + k % picks.length, none⟩ = some (.int .i64 x) := (World.cell?_of_block (w := w) (a := ⟨pg, po + k % picks.length, none⟩) (HFR.out.block pg (World.block_lt_of_cell? _ _ hpc2) (by simp; exact ⟨pn1, pn2⟩))).trans hpc2
        have hkx : keptS x = cc := by
          rw [← HCC.out]
          unfold pickOf
          rw [if_neg hp0]
          simp [hm, hx]
        subst hpa
        have g1 : ((picks.length : Int) == 0) = false := by simp; omega
        have g2 : ¬ picks.length = 0 := by omega
        have g0 : 0 < (picks.length : Int) := by omega
        have g3 : (k : Int) % (picks.length : Int) < (picks.length : Int) := Int.emod_lt_of_pos _ (by omega)
        have g4 : 0 ≤ (k : Int) % (picks.length : Int) := Int.emod_nonneg _ (by omega)
        have g5 : ((k : Int) % (picks.length : Int)).toNat = k % picks.length := by rw [← Int.natCast_emod]; rfl
        have g6 : (k : Int).tmod (picks.length : Int) = (k : Int) % (picks.length : Int) := Int.tmod_eq_emod_of_nonneg (by omega)
        clear hpc hpc2 hx hp0 pn1 pn2 hn
        unfold str at *
        by_cases hc0 : cc = 0
        · subst hc0
          go_wp2_with (go_at_call 27; refine (rkept_any x _ hx2).mono ?_; rintro e w4 ⟨rfl, rfl⟩)
          refine wp_region_held_drew (S := (fun w' => w'.cell? ⟨q, 0, none⟩ = some (.slice (some ⟨gl, 0, none⟩) S.secs.length cl) ∧ w'.cell? ⟨q, 2, none⟩ = some (.slice (some ⟨g, 0, none⟩) S.way.length c') ∧ w'.cell? ⟨g, k * 2 + 1, none⟩ = some (.string ⟨by_.toArray⟩))) (by kernel_rfl) ⟨d0, d2, w2c⟩ (fun hH => ?_)
          refine wpAnyH_take (i := 0) (v := .pointer (some ⟨q, 0, none⟩)) rfl (by kernel_rfl) (by kernel_rfl) (by kernel_rfl) (fun _ _ _ h => h) (Or.inl ⟨by rfl, fun w' hw' => by (try dsimp only at hw'); go_simp⟩) hH ?_
          simp only [Act.put]
          refine wpAnyH_take (i := 1) (v := .pointer (some ⟨q, 0, none⟩)) rfl (by kernel_rfl) (by kernel_rfl) (by kernel_rfl) (fun _ _ _ h => h) (Or.inl ⟨by rfl, fun w' hw' => by (try dsimp only at hw'); go_simp⟩) hH ?_
          simp only [Act.put]
          refine wpAnyH_take (i := 2) (v := .pointer (some ⟨q, 0, none⟩)) rfl (by kernel_rfl) (by kernel_rfl) (by kernel_rfl) (fun _ _ _ h => h) (Or.inl ⟨by rfl, fun w' hw' => by (try dsimp only at hw'); go_simp⟩) hH ?_
          simp only [Act.put]
          refine wpAnyH_take (i := 3) (v := .slice (some ⟨gl, 0, none⟩) S.secs.length cl) rfl (by kernel_rfl) (by kernel_rfl) (by kernel_rfl) (fun _ _ _ h => h) (Or.inl ⟨by rfl, fun w' hw' => by (try dsimp only at hw'); go_simp⟩) hH ?_
          simp only [Act.put]
          refine wpAnyH_take (i := 4) (v := .int .i64 (pl : Int)) rfl (by kernel_rfl) (by kernel_rfl) (by kernel_rfl) (fun _ _ _ h => h) (Or.inl ⟨by rfl, fun w' hw' => by (try dsimp only at hw'); go_simp⟩) hH ?_
          simp only [Act.put]
          refine wpAnyH_take (i := 5) (v := .pointer (some ⟨q, 0, none⟩)) rfl (by kernel_rfl) (by kernel_rfl) (by kernel_rfl) (fun _ _ _ h => h) (Or.inl ⟨by rfl, fun w' hw' => by (try dsimp only at hw'); go_simp⟩) hH ?_
          simp only [Act.put]
          refine wpAnyH_take (i := 6) (v := .pointer (some ⟨q, 0, none⟩)) rfl (by kernel_rfl) (by kernel_rfl) (by kernel_rfl) (fun _ _ _ h => h) (Or.inl ⟨by rfl, fun w' hw' => by (try dsimp only at hw'); go_simp⟩) hH ?_
          simp only [Act.put]
          refine wpAnyH_take (i := 7) (v := .pointer (some ⟨q, 2, none⟩)) rfl (by kernel_rfl) (by kernel_rfl) (by kernel_rfl) (fun _ _ _ h => h) (Or.inl ⟨by rfl, fun w' hw' => by (try dsimp only at hw'); go_simp⟩) hH ?_
          simp only [Act.put]
          refine wpAnyH_take (i := 8) (v := .slice (some ⟨g, 0, none⟩) S.way.length c') rfl (by kernel_rfl) (by kernel_rfl) (by kernel_rfl) (fun _ _ _ h => h) (Or.inl ⟨by rfl, fun w' hw' => by (try dsimp only at hw'); go_simp⟩) hH ?_
          simp only [Act.put]
          refine wpAnyH_take (i := 9) (v := .int .i64 (k : Int)) rfl (by kernel_rfl) (by kernel_rfl) (by kernel_rfl) (fun _ _ _ h => h) (Or.inl ⟨by rfl, fun w' hw' => by (try dsimp only at hw'); go_simp⟩) hH ?_
          simp only [Act.put]
          refine wpAnyH_take (i := 10) (v := .pointer (some ⟨g, k * 2, none⟩)) rfl (by kernel_rfl) (by kernel_rfl) (by kernel_rfl) (fun _ _ _ h => h) (Or.inl ⟨by rfl, fun w' hw' => by (try dsimp only at hw'); go_simp⟩) hH ?_
          simp only [Act.put]
          refine wpAnyH_take (i := 11) (v := .pointer (some ⟨g, k * 2 + 1, none⟩)) rfl (by kernel_rfl) (by kernel_rfl) (by kernel_rfl) (fun _ _ _ h => h) (Or.inl ⟨by rfl, fun w' hw' => by (try dsimp only at hw'); go_simp⟩) hH ?_
          simp only [Act.put]
          refine wpAnyH_take (i := 12) (v := .string ⟨by_.toArray⟩) rfl (by kernel_rfl) (by kernel_rfl) (by kernel_rfl) (fun _ _ _ h => h) (Or.inl ⟨by rfl, fun w' hw' => by (try dsimp only at hw'); go_simp⟩) hH ?_
          simp only [Act.put]
          refine wpAnyH_take (i := 13) (v := .pointer (some ⟨q, 0, none⟩)) rfl (by kernel_rfl) (by kernel_rfl) (by kernel_rfl) (fun _ _ _ h => h) (Or.inl ⟨by rfl, fun w' hw' => by (try dsimp only at hw'); go_simp⟩) hH ?_
          simp only [Act.put]
          refine wpAnyH_take (i := 14) (v := .pointer (some ⟨q, 0, none⟩)) rfl (by kernel_rfl) (by kernel_rfl) (by kernel_rfl) (fun _ _ _ h => h) (Or.inl ⟨by rfl, fun w' hw' => by (try dsimp only at hw'); go_simp⟩) hH ?_
          simp only [Act.put]
          refine wpAnyH_take (i := 15) (v := .pointer (some ⟨q, 0, none⟩)) rfl (by kernel_rfl) (by kernel_rfl) (by kernel_rfl) (fun _ _ _ h => h) (Or.inl ⟨by rfl, fun w' hw' => by (try dsimp only at hw'); go_simp⟩) hH ?_
          simp only [Act.put]
          refine wpAnyH_take (i := 16) (v := .slice (some ⟨gl, 0, none⟩) S.secs.length cl) rfl (by kernel_rfl) (by kernel_rfl) (by kernel_rfl) (fun _ _ _ h => h) (Or.inl ⟨by rfl, fun w' hw' => by (try dsimp only at hw'); go_simp⟩) hH ?_
          simp only [Act.put]
          refine wpAnyH_take (i := 17) (v := .int .i64 (pl : Int)) rfl (by kernel_rfl) (by kernel_rfl) (by kernel_rfl) (fun _ _ _ h => h) (Or.inl ⟨by rfl, fun w' hw' => by (try dsimp only at hw'); go_simp⟩) hH ?_
          simp only [Act.put]
          refine wpAnyH_take (i := 18) (v := .pointer (some ⟨gl, pl, none⟩)) rfl (by kernel_rfl) (by kernel_rfl) (by kernel_rfl) (fun _ _ _ h => h) (Or.inl ⟨by rfl, fun w' hw' => by (try dsimp only at hw'); go_simp⟩) hH ?_
          simp only [Act.put]
          refine wpAnyH_take (i := 20) (v := .int .i64 (0)) rfl (by kernel_rfl) (by kernel_rfl) (by kernel_rfl) (fun _ _ _ h => h) (Or.inl ⟨by rfl, fun w' hw' => by (try dsimp only at hw'); go_simp⟩) hH ?_
          simp only [Act.put]
          refine wpAnyH_ready (rs := [19]) (by kernel_rfl) (by simp) ?_
          refine AllReadyH.cons rfl (fun K hK => ?_) AllReadyH.nil
          go_simp
          refine hK.out _ _ hH (fun hH2 => ?_)
          clear hK K hH
          try simp only [Act.put]
          refine wpAnyH_ready (rs := [21]) (by kernel_rfl) (by simp) ?_
          refine AllReadyH.cons rfl (fun K hK => ?_) AllReadyH.nil
          go_simp
          go_at_call 28
          refine (mix_l by_ osec.lasts 0 _ hby hts (by decide)).mono ?_
          rintro e w3 ⟨rfl, hf3⟩
          obtain ⟨m0, m1, m2, m3, ⟨mb, m4⟩, m5, m6, m9⟩ := mix_facts HRD.out hf3 d0 d1 l1 ⟨_, l2⟩
          have m7 := m9 _ _ d2
          have m8 := m9 _ _ w2c
          have HR3 := hid m6
          have HF3 := hid hf3
          clear m6 hf3 m9
          unfold str
          go_wp2_with fail
          refine hK.out _ _ ⟨m0, m7, m8⟩ (fun hH3 => ?_)
          clear hK K hH2
          try simp only [Act.put]
          refine wpAnyH_take (i := 22) (v := .pointer (some ⟨gl, pl, none⟩)) rfl (by kernel_rfl) (by kernel_rfl) (by kernel_rfl) (fun _ _ _ h => h) (Or.inl ⟨by rfl, fun w' hw' => by (try dsimp only at hw'); go_simp⟩) hH3 ?_
          try simp only [Act.put]
          refine wpAnyH_ready (rs := [23]) (by kernel_rfl) (by simp) ?_
          refine AllReadyH.cons rfl (fun K hK => ?_) AllReadyH.nil
          go_simp
          refine hK.out _ _ ⟨(World.cell?_setCell_far _ _ _ _ n1').trans m0, (World.cell?_setCell_far _ _ _ _ n1').trans m7, (World.cell?_setCell_far _ _ _ _ hlg).trans m8⟩ (fun hH4 => ?_)
          clear hK K hH3
          try simp only [Act.put]
          refine wpAnyH_done (by kernel_rfl) ?_ _
          clear hH4
          go_wp2_with fail
          go_roundw
          case rel => exact ⟨k + 1, by omega, by go_num, HNZ.out _ HR3.out (by simp), (HFR.out.trans HF3.out.undrew (by simp)).setCell (p := ⟨gl, pl, none⟩) (by simp) _⟩
          case measure => simp [intOf]; omega
        · have hcp : 0 < (cc : Int) := by omega
          have hcd : (decide (cc < 384)) = decide ((cc : Int) < 384) := by rw [decide_eq_decide]; omega
          rw [if_neg hc0, hcd] at HNX
          clear hc0 hcd HNZ
          go_wp2_with (go_at_call 27; refine (rkept_any x _ hx2).mono ?_; rintro e w4 ⟨rfl, rfl⟩)
          refine wp_region_held_drew (S := (fun w' => w'.cell? ⟨q, 0, none⟩ = some (.slice (some ⟨gl, 0, none⟩) S.secs.length cl) ∧ w'.cell? ⟨q, 2, none⟩ = some (.slice (some ⟨g, 0, none⟩) S.way.length c') ∧ w'.cell? ⟨g, k * 2 + 1, none⟩ = some (.string ⟨by_.toArray⟩))) (by kernel_rfl) ⟨d0, d2, w2c⟩ (fun hH => ?_)
          refine wpAnyH_take (i := 0) (v := .pointer (some ⟨q, 0, none⟩)) rfl (by kernel_rfl) (by kernel_rfl) (by kernel_rfl) (fun _ _ _ h => h) (Or.inl ⟨by rfl, fun w' hw' => by (try dsimp only at hw'); go_simp⟩) hH ?_
          simp only [Act.put]
          refine wpAnyH_take (i := 1) (v := .pointer (some ⟨q, 0, none⟩)) rfl (by kernel_rfl) (by kernel_rfl) (by kernel_rfl) (fun _ _ _ h => h) (Or.inl ⟨by rfl, fun w' hw' => by (try dsimp only at hw'); go_simp⟩) hH ?_
          simp only [Act.put]
          refine wpAnyH_take (i := 2) (v := .pointer (some ⟨q, 0, none⟩)) rfl (by kernel_rfl) (by kernel_rfl) (by kernel_rfl) (fun _ _ _ h => h) (Or.inl ⟨by rfl, fun w' hw' => by (try dsimp only at hw'); go_simp⟩) hH ?_
          simp only [Act.put]
          refine wpAnyH_take (i := 3) (v := .slice (some ⟨gl, 0, none⟩) S.secs.length cl) rfl (by kernel_rfl) (by kernel_rfl) (by kernel_rfl) (fun _ _ _ h => h) (Or.inl ⟨by rfl, fun w' hw' => by (try dsimp only at hw'); go_simp⟩) hH ?_
          simp only [Act.put]
          refine wpAnyH_take (i := 4) (v := .int .i64 (pl : Int)) rfl (by kernel_rfl) (by kernel_rfl) (by kernel_rfl) (fun _ _ _ h => h) (Or.inl ⟨by rfl, fun w' hw' => by (try dsimp only at hw'); go_simp⟩) hH ?_
          simp only [Act.put]
          refine wpAnyH_take (i := 5) (v := .pointer (some ⟨q, 0, none⟩)) rfl (by kernel_rfl) (by kernel_rfl) (by kernel_rfl) (fun _ _ _ h => h) (Or.inl ⟨by rfl, fun w' hw' => by (try dsimp only at hw'); go_simp⟩) hH ?_
          simp only [Act.put]
          refine wpAnyH_take (i := 6) (v := .pointer (some ⟨q, 0, none⟩)) rfl (by kernel_rfl) (by kernel_rfl) (by kernel_rfl) (fun _ _ _ h => h) (Or.inl ⟨by rfl, fun w' hw' => by (try dsimp only at hw'); go_simp⟩) hH ?_
          simp only [Act.put]
          refine wpAnyH_take (i := 7) (v := .pointer (some ⟨q, 2, none⟩)) rfl (by kernel_rfl) (by kernel_rfl) (by kernel_rfl) (fun _ _ _ h => h) (Or.inl ⟨by rfl, fun w' hw' => by (try dsimp only at hw'); go_simp⟩) hH ?_
          simp only [Act.put]
          refine wpAnyH_take (i := 8) (v := .slice (some ⟨g, 0, none⟩) S.way.length c') rfl (by kernel_rfl) (by kernel_rfl) (by kernel_rfl) (fun _ _ _ h => h) (Or.inl ⟨by rfl, fun w' hw' => by (try dsimp only at hw'); go_simp⟩) hH ?_
          simp only [Act.put]
          refine wpAnyH_take (i := 9) (v := .int .i64 (k : Int)) rfl (by kernel_rfl) (by kernel_rfl) (by kernel_rfl) (fun _ _ _ h => h) (Or.inl ⟨by rfl, fun w' hw' => by (try dsimp only at hw'); go_simp⟩) hH ?_
          simp only [Act.put]
          refine wpAnyH_take (i := 10) (v := .pointer (some ⟨g, k * 2, none⟩)) rfl (by kernel_rfl) (by kernel_rfl) (by kernel_rfl) (fun _ _ _ h => h) (Or.inl ⟨by rfl, fun w' hw' => by (try dsimp only at hw'); go_simp⟩) hH ?_
          simp only [Act.put]
          refine wpAnyH_take (i := 11) (v := .pointer (some ⟨g, k * 2 + 1, none⟩)) rfl (by kernel_rfl) (by kernel_rfl) (by kernel_rfl) (fun _ _ _ h => h) (Or.inl ⟨by rfl, fun w' hw' => by (try dsimp only at hw'); go_simp⟩) hH ?_
          simp only [Act.put]
          refine wpAnyH_take (i := 12) (v := .string ⟨by_.toArray⟩) rfl (by kernel_rfl) (by kernel_rfl) (by kernel_rfl) (fun _ _ _ h => h) (Or.inl ⟨by rfl, fun w' hw' => by (try dsimp only at hw'); go_simp⟩) hH ?_
          simp only [Act.put]
          refine wpAnyH_take (i := 13) (v := .pointer (some ⟨q, 0, none⟩)) rfl (by kernel_rfl) (by kernel_rfl) (by kernel_rfl) (fun _ _ _ h => h) (Or.inl ⟨by rfl, fun w' hw' => by (try dsimp only at hw'); go_simp⟩) hH ?_
          simp only [Act.put]
          refine wpAnyH_take (i := 14) (v := .pointer (some ⟨q, 0, none⟩)) rfl (by kernel_rfl) (by kernel_rfl) (by kernel_rfl) (fun _ _ _ h => h) (Or.inl ⟨by rfl, fun w' hw' => by (try dsimp only at hw'); go_simp⟩) hH ?_
          simp only [Act.put]
          refine wpAnyH_take (i := 15) (v := .pointer (some ⟨q, 0, none⟩)) rfl (by kernel_rfl) (by kernel_rfl) (by kernel_rfl) (fun _ _ _ h => h) (Or.inl ⟨by rfl, fun w' hw' => by (try dsimp only at hw'); go_simp⟩) hH ?_
          simp only [Act.put]
          refine wpAnyH_take (i := 16) (v := .slice (some ⟨gl, 0, none⟩) S.secs.length cl) rfl (by kernel_rfl) (by kernel_rfl) (by kernel_rfl) (fun _ _ _ h => h) (Or.inl ⟨by rfl, fun w' hw' => by (try dsimp only at hw'); go_simp⟩) hH ?_
          simp only [Act.put]
          refine wpAnyH_take (i := 17) (v := .int .i64 (pl : Int)) rfl (by kernel_rfl) (by kernel_rfl) (by kernel_rfl) (fun _ _ _ h => h) (Or.inl ⟨by rfl, fun w' hw' => by (try dsimp only at hw'); go_simp⟩) hH ?_
          simp only [Act.put]
          refine wpAnyH_take (i := 18) (v := .pointer (some ⟨gl, pl, none⟩)) rfl (by kernel_rfl) (by kernel_rfl) (by kernel_rfl) (fun _ _ _ h => h) (Or.inl ⟨by rfl, fun w' hw' => by (try dsimp only at hw'); go_simp⟩) hH ?_
          simp only [Act.put]
          refine wpAnyH_take (i := 20) (v := .int .i64 ((cc : Int))) rfl (by kernel_rfl) (by kernel_rfl) (by kernel_rfl) (fun _ _ _ h => h) (Or.inl ⟨by rfl, fun w' hw' => by (try dsimp only at hw'); go_simp⟩) hH ?_
          simp only [Act.put]
          refine wpAnyH_ready (rs := [19]) (by kernel_rfl) (by simp) ?_
          refine AllReadyH.cons rfl (fun K hK => ?_) AllReadyH.nil
          go_simp
          refine hK.out _ _ hH (fun hH2 => ?_)
          clear hK K hH
          try simp only [Act.put]
          refine wpAnyH_ready (rs := [21]) (by kernel_rfl) (by simp) ?_
          refine AllReadyH.cons rfl (fun K hK => ?_) AllReadyH.nil
          go_simp
          go_at_call 28
          refine (mix_l by_ osec.lasts cc _ hby hts hcle).mono ?_
          rintro e w3 ⟨rfl, hf3⟩
          obtain ⟨m0, m1, m2, m3, ⟨mb, m4⟩, m5, m6, m9⟩ := mix_facts HRD.out hf3 d0 d1 l1 ⟨_, l2⟩
          have m7 := m9 _ _ d2
          have m8 := m9 _ _ w2c
          have HR3 := hid m6
          have HF3 := hid hf3
          clear m6 hf3 m9
          unfold str
          go_wp2_with fail
          refine hK.out _ _ ⟨m0, m7, m8⟩ (fun hH3 => ?_)
          clear hK K hH2
          try simp only [Act.put]
          refine wpAnyH_take (i := 22) (v := .pointer (some ⟨gl, pl, none⟩)) rfl (by kernel_rfl) (by kernel_rfl) (by kernel_rfl) (fun _ _ _ h => h) (Or.inl ⟨by rfl, fun w' hw' => by (try dsimp only at hw'); go_simp⟩) hH3 ?_
          try simp only [Act.put]
          refine wpAnyH_ready (rs := [23]) (by kernel_rfl) (by simp) ?_
          refine AllReadyH.cons rfl (fun K hK => ?_) AllReadyH.nil
          go_simp
          refine hK.out _ _ ⟨(World.cell?_setCell_far _ _ _ _ n1').trans m0, (World.cell?_setCell_far _ _ _ _ n1').trans m7, (World.cell?_setCell_far _ _ _ _ hlg).trans m8⟩ (fun hH4 => ?_)
          clear hK K hH3
          try simp only [Act.put]
          refine wpAnyH_done (by kernel_rfl) ?_ _
          clear hH4
          go_wp2_with fail
          go_roundw
          case rel => exact ⟨k + 1, by omega, by go_num, HNX.out _ HR3.out, ((HFR.out.trans HF3.out.undrew (by simp)).setCell (p := ⟨gl, pl, none⟩) (by simp) _).setCell (p := ⟨gm, pl, none⟩) (by simp) _⟩
          case measure => simp [intOf]; omega
    · obtain rfl : k = S.way.length := by omega
      have HE := hid (HasR.settled (F := pickOf picks) (pickOf_le picks) H1.out hfr hrd)
      obtain ⟨A', c, hv⟩ := vw_shape H1.out.wy
      rw [hv] at d2
      clear hrd hfr hv hdk
      have hs2 := HE.out.1
      have hfx : Fr (wr.setCell ⟨q, 2, none⟩ (.slice none 0 0)) ((wr.setCell ⟨q, 2, none⟩ (.slice none 0 0)).setCell ⟨q, 3, none⟩ (.bool false)) [q] := (Fr.refl _ [q]).setCell (p := ⟨q, 3, none⟩) (by simp) _
      have HX := hid (hs2.put (o2 := true) (l := S.left) (c := S.count) hfx (hs2.disk.set_ 3 _) H1.out.wf.left (by simp))
      have HFX := hid hfx
      clear hs2 hfx
      go_wp2_with fail
      go_ret
      exact ⟨.slice none 0 0, rfl, HX.out, HE.out.2.trans (HFX.out.mono (by simp [fpR])) (fun b hb _ => hb), fun g hg => by simp [Value.ownBlock] at hg⟩
end Go.Proofs.Ytdkgpjmehdpliaa
