/-
  The answer's own disk: Flush.
-/
import Derived.Test.YtdkgpjmehdpliaaRefR
import Derived.BigRegion
namespace Go.Proofs.Ytdkgpjmehdpliaa
open Go.RowKit

def laC (secs : List Sec) : List Value := secs.map (fun s => str s.lasts)
def maC (secs : List Sec) : List Value := secs.map (fun s => Value.bool s.marked)
/-- what stands behind k writes -/
structure RndR (wr : World) (gl gm cl cm : Nat) (S : Sp) (F : Nat → Nat) (k : Nat) : Prop where
  la : wr.ownsRow 0 9 1 (.slice (some ⟨gl, 0, none⟩) S.secs.length cl) S.secs.length (laC (sett F (S.way.take k) S.secs))
  ma : wr.ownsRow 0 4 1 (.slice (some ⟨gm, 0, none⟩) S.secs.length cm) S.secs.length (maC (sett F (S.way.take k) S.secs))
theorem RndR.lc {wr : World} {gl gm cl cm : Nat} {S : Sp} {F : Nat → Nat} {k : Nat} (h : RndR wr gl gm cl cm S F k) (i : Nat) (hi : i < (sett F (S.way.take k) S.secs).length) :
    wr.cell? ⟨gl, i, none⟩ = some (str (sett F (S.way.take k) S.secs)[i].lasts) ∧ wr.cell? ⟨gm, i, none⟩ = some (.bool (sett F (S.way.take k) S.secs)[i].marked) := by
  have hn : i < S.secs.length := by rw [sett_length] at hi; exact hi
  refine ⟨?_, ?_⟩
  · rw [h.la.cellAt i (by omega), laC, List.getElem?_map, List.getElem?_eq_getElem hi]; rfl
  · rw [h.ma.cellAt i (by omega), maC, List.getElem?_map, List.getElem?_eq_getElem hi]; rfl
/-- one write more, its mark stored too -/
theorem RndR.next {wr : World} {gl gm cl cm : Nat} {S : Sp} {F : Nat → Nat} {k : Nat} (h : RndR wr gl gm cl cm S F k) (hne : gl ≠ gm) (hk : k < S.way.length) (hi : S.way[k].place < (sett F (S.way.take k) S.secs).length) (l : List UInt8) (m : Bool)
    (hl : (takeS (sett F (S.way.take k) S.secs)[S.way[k].place] S.way[k].bytes (F k)).lasts = l) (hm : (takeS (sett F (S.way.take k) S.secs)[S.way[k].place] S.way[k].bytes (F k)).marked = m) :
    RndR ((wr.setCell ⟨gl, S.way[k].place, none⟩ (str l)).setCell ⟨gm, S.way[k].place, none⟩ (.bool m)) gl gm cl cm S F (k + 1) := by
  subst hl hm
  have s1 := (h.la.stored S.way[k].place (str (takeS (sett F (S.way.take k) S.secs)[S.way[k].place] S.way[k].bytes (F k)).lasts))
  have m1 := (Fr.setCell (Fr.refl wr [gl]) (p := ⟨gl, S.way[k].place, none⟩) (by simp) (str (takeS (sett F (S.way.take k) S.secs)[S.way[k].place] S.way[k].bytes (F k)).lasts)).own h.ma (fun g hg => by cases hg; simpa using Ne.symm hne)
  have m2 := (m1.stored S.way[k].place (.bool (takeS (sett F (S.way.take k) S.secs)[S.way[k].place] S.way[k].bytes (F k)).marked)).1
  have s2 := (Fr.setCell (Fr.refl (wr.setCell ⟨gl, S.way[k].place, none⟩ (str (takeS (sett F (S.way.take k) S.secs)[S.way[k].place] S.way[k].bytes (F k)).lasts)) [gm]) (p := ⟨gm, S.way[k].place, none⟩) (by simp) (.bool (takeS (sett F (S.way.take k) S.secs)[S.way[k].place] S.way[k].bytes (F k)).marked)).own s1.1 (fun g hg => by cases hg; simpa using hne)
  refine ⟨?_, ?_⟩
  · rw [sett_step F S.way S.secs k hk hi]
    have e : laC ((sett F (S.way.take k) S.secs).set S.way[k].place (takeS (sett F (S.way.take k) S.secs)[S.way[k].place] S.way[k].bytes (F k))) = (laC (sett F (S.way.take k) S.secs)).set S.way[k].place (str (takeS (sett F (S.way.take k) S.secs)[S.way[k].place] S.way[k].bytes (F k)).lasts) := by simp [laC, List.map_set]
    rw [e]
    exact s2
  · rw [sett_step F S.way S.secs k hk hi]
    have e : maC ((sett F (S.way.take k) S.secs).set S.way[k].place (takeS (sett F (S.way.take k) S.secs)[S.way[k].place] S.way[k].bytes (F k))) = (maC (sett F (S.way.take k) S.secs)).set S.way[k].place (.bool (takeS (sett F (S.way.take k) S.secs)[S.way[k].place] S.way[k].bytes (F k)).marked) := by simp [maC, List.map_set]
    rw [e]
    exact m2
/-- one write more, the mark as it was -/
theorem RndR.next0 {wr : World} {gl gm cl cm : Nat} {S : Sp} {F : Nat → Nat} {k : Nat} (h : RndR wr gl gm cl cm S F k) (hne : gl ≠ gm) (hk : k < S.way.length) (hi : S.way[k].place < (sett F (S.way.take k) S.secs).length) (l : List UInt8)
    (hl : (takeS (sett F (S.way.take k) S.secs)[S.way[k].place] S.way[k].bytes (F k)).lasts = l) (hm : (takeS (sett F (S.way.take k) S.secs)[S.way[k].place] S.way[k].bytes (F k)).marked = (sett F (S.way.take k) S.secs)[S.way[k].place].marked) :
    RndR (wr.setCell ⟨gl, S.way[k].place, none⟩ (str l)) gl gm cl cm S F (k + 1) := by
  subst hl
  have s1 := (h.la.stored S.way[k].place (str (takeS (sett F (S.way.take k) S.secs)[S.way[k].place] S.way[k].bytes (F k)).lasts))
  have m1 := (Fr.setCell (Fr.refl wr [gl]) (p := ⟨gl, S.way[k].place, none⟩) (by simp) (str (takeS (sett F (S.way.take k) S.secs)[S.way[k].place] S.way[k].bytes (F k)).lasts)).own h.ma (fun g hg => by cases hg; simpa using Ne.symm hne)
  refine ⟨?_, ?_⟩
  · rw [sett_step F S.way S.secs k hk hi]
    have e : laC ((sett F (S.way.take k) S.secs).set S.way[k].place (takeS (sett F (S.way.take k) S.secs)[S.way[k].place] S.way[k].bytes (F k))) = (laC (sett F (S.way.take k) S.secs)).set S.way[k].place (str (takeS (sett F (S.way.take k) S.secs)[S.way[k].place] S.way[k].bytes (F k)).lasts) := by simp [laC, List.map_set]
    rw [e]
    exact s1.1
  · rw [sett_step F S.way S.secs k hk hi]
    have e : maC ((sett F (S.way.take k) S.secs).set S.way[k].place (takeS (sett F (S.way.take k) S.secs)[S.way[k].place] S.way[k].bytes (F k))) = maC (sett F (S.way.take k) S.secs) := by
      apply List.ext_getElem?
      intro j
      simp only [maC, List.getElem?_map, List.getElem?_set]
      by_cases hj : S.way[k].place = j
      · subst hj
        simp only [hi, if_true, List.getElem?_eq_getElem hi, Option.map_some, hm]
      · simp [hj]
    rw [e]
    exact m1
theorem RndR.drewN {wr : World} {gl gm cl cm : Nat} {S : Sp} {F : Nat → Nat} {k : Nat} (h : RndR wr gl gm cl cm S F k) (n : Nat) : RndR (wr.drewN n) gl gm cl cm S F k := ⟨h.la, h.ma⟩
theorem RndR.drew {wr : World} {gl gm cl cm : Nat} {S : Sp} {F : Nat → Nat} {k : Nat} (h : RndR wr gl gm cl cm S F k) : RndR wr.drew gl gm cl cm S F k := ⟨h.la, h.ma⟩

/-- nothing is under way any more -/
theorem HasR.settled {w w1 : World} {q gl gm cl cm : Nat} {vw : Value} {S : Sp} {F : Nat → Nat} (hF : ∀ k, F k ≤ 384) (h : HasR w q gl gm cl cm vw S) (hf : Fr w w1 [gl, gm]) (hr : RndR w1 gl gm cl cm S F S.way.length) :
    HasR (w1.setCell ⟨q, 2, none⟩ (.slice none 0 0)) q gl gm cl cm (.slice none 0 0) { S with secs := sett F S.way S.secs, way := [] } ∧ Fr w (w1.setCell ⟨q, 2, none⟩ (.slice none 0 0)) (fpR q gl gm vw) := by
  have hd := (hf.row h.disk (by simp; exact ⟨h.n1, h.n2⟩)).set_ 2 (.slice none 0 0)
  have hf2 : Fr w1 (w1.setCell ⟨q, 2, none⟩ (.slice none 0 0)) [q] := (Fr.refl w1 [q]).setCell (p := ⟨q, 2, none⟩) (by simp) _
  have hla := hf2.own hr.la (fun g hg => by cases hg; simpa using Ne.symm h.n1)
  have hma := hf2.own hr.ma (fun g hg => by cases hg; simpa using Ne.symm h.n2)
  rw [List.take_length] at hla hma
  have e := sett_length F S.way S.secs
  refine ⟨⟨?_, ?_, ?_, World.ownsRow_nil _ _ _ _, h.n1, h.n2, h.n3, by simp [Value.ownBlock], by simp [Value.ownBlock], by simp [Value.ownBlock], ?_⟩, ?_⟩
  · simpa [e] using hd
  · simpa [e, laCells, laC] using hla
  · simpa [e, maCells, maC] using hma
  · exact ⟨sett_wf F hF S.way S.secs h.wf.len (fun x hx => (h.wf.way x hx).2), by simp, by simpa [sett_length] using h.wf.few, h.wf.left, by simp⟩
  · exact (hf.mono (fq := fpR q gl gm vw) (by simp [fpR])).setCell (p := ⟨q, 2, none⟩) (.inl (by simp [fpR])) _

set_option maxRecDepth 10000 in
set_option maxHeartbeats 1000000 in
theorem rflush_ok (q gl gm cl cm : Nat) (vw : Value) (S : Sp) (w : World) (h : HasR w q gl gm cl cm vw S) (ho : S.on = true) (hl : S.left ≠ 1) (hc : S.count ≤ 1048576) :
    Calls Try.prog 33 #[dptr q] w (RE w q gl gm cl cm vw S.flush) := by
  rw [Sp.flush_ok ho hl]
  have hway := h.wf.less
  have HG := rgoes_any q gl gm cl cm vw S w h (by omega)
  rw [Sp.goes_more ho hl, show ((0 : Int) == 0) = true from rfl] at HG
  have HGG := hid HG
  clear HG ho hl
  unfold dptr at *
  go_enter Try.func33, Try.ntmps33
  go_wp2_with (go_at_call 45; refine HGG.out.mono ?_; rintro e w1 ⟨rfl, h1, hf1⟩)
  obtain ⟨S1, hS1⟩ : ∃ S1 : Sp, ({ S with left := S.left - 1, count := S.count + 1 } : Sp) = S1 := ⟨_, rfl⟩
  have hw1 : S1.way = S.way := by rw [← hS1]
  have hfin : ({ S with left := S.left - 1, count := S.count + 1, secs := sett (fun _ => 384) S.way S.secs, way := [] } : Sp) = { S1 with secs := sett (fun _ => 384) S1.way S1.secs, way := [] } := by rw [← hS1]
  rw [hS1] at h1
  rw [← hw1] at hway
  have HFIN := hid hfin
  clear hS1 hfin hw1
  have H1 := hid h1
  have HF1 := hid hf1
  have n1 := h1.n1
  have n2 := h1.n2
  have n3 := h1.n3
  have n1' := Ne.symm h1.n1
  have n2' := Ne.symm h1.n2
  have n3' := Ne.symm h1.n3
  clear hf1 h
  go_loopw [3] (fun i wr => ∃ k : Nat, k ≤ S1.way.length ∧ i = .int .i64 k ∧ RndR wr gl gm cl cm S1 (fun _ => 384) k ∧ Fr w1 wr [gl, gm]) (fun i _ => S1.way.length - (intOf i).toNat)
  case atStart => exact ⟨0, by omega, rfl, ⟨h1.la, h1.ma⟩, Fr.refl _ _⟩
  case round =>
    obtain ⟨k, hk, rfl, hrd, hfr⟩ := hrel
    have hdk := hfr.row H1.out.disk (by simp; exact ⟨n1, n2⟩)
    have d0 := hdk.at_ 0 _ rfl
    have d1 := hdk.at_ 1 _ rfl
    have d2 := hdk.at_ 2 _ rfl
    have f2 := hdk.frozen 2
    by_cases hlt : k < S1.way.length
    · obtain ⟨g, c', hv'⟩ := H1.out.wyShape (by omega)
      have hgb : vw.ownBlock = some g := by rw [hv']; rfl
      have hgl : g ≠ gl := fun e => H1.out.n5 (by rw [hgb, e])
      have hgm : g ≠ gm := fun e => H1.out.n6 (by rw [hgb, e])
      have hwy := hfr.own H1.out.wy (fun b hb => by rw [hgb] at hb; cases hb; simp; exact ⟨hgl, hgm⟩)
      obtain ⟨x1, x2⟩ := H1.out.wc k hlt g c' hv'
      have hgw := hfr.block g (World.block_lt_of_cell? _ _ x1) (by simp; exact ⟨hgl, hgm⟩)
      have w1c : wr.cell? ⟨g, k * 2, none⟩ = some (.int .i64 (S1.way[k].place : Int)) := (World.cell?_of_block (w := w1) (a := ⟨g, k * 2, none⟩) hgw).trans x1
      have w2c : wr.cell? ⟨g, k * 2 + 1, none⟩ = some (str S1.way[k].bytes) := (World.cell?_of_block (w := w1) (a := ⟨g, k * 2 + 1, none⟩) hgw).trans x2
      rw [hv'] at d2
      have hpl := (H1.out.wf.way _ (List.getElem_mem hlt)).1
      have hpi : ((S1.way[k].place : Nat) : Int) < (S1.secs.length : Int) := by omega
      have hki : (k : Int) < (S1.way.length : Int) := by omega
      have hi : S1.way[k].place < (sett (fun _ => 384) (S1.way.take k) S1.secs).length := by rw [sett_length]; exact hpl
      obtain ⟨l1, l2⟩ := hrd.lc _ hi
      have lf := hrd.la.frozenAt S1.way[k].place
      have mf := hrd.ma.frozenAt S1.way[k].place
      have hby := (H1.out.wf.way _ (List.getElem_mem hlt)).2
      have hts : (sett (fun _ => 384) (S1.way.take k) S1.secs)[S1.way[k].place].lasts.length = 384 := sett_wf _ (fun _ => Nat.le_refl _) _ _ H1.out.wf.len (fun x hx => (H1.out.wf.way x (List.mem_of_mem_take hx)).2) _ (List.getElem_mem hi)
      have ht1 : (takeS (sett (fun _ => 384) (S1.way.take k) S1.secs)[S1.way[k].place] S1.way[k].bytes 384).lasts = S1.way[k].bytes := by
        simp only [takeS]
        rw [List.take_of_length_le (by omega), List.drop_eq_nil_of_le (by omega), List.append_nil]
      have HNX := hid ((hrd.next n3 hlt hi _ false ht1 (by simp [takeS])))
      have HFR := hid hfr
      obtain ⟨old, hold⟩ : ∃ old, str (sett (fun _ => 384) (S1.way.take k) S1.secs)[S1.way[k].place].lasts = .string old := ⟨_, rfl⟩
      obtain ⟨om, hom⟩ : ∃ om, (sett (fun _ => 384) (S1.way.take k) S1.secs)[S1.way[k].place].marked = om := ⟨_, rfl⟩
      obtain ⟨txt, htxt⟩ : ∃ txt, str S1.way[k].bytes = .string txt := ⟨_, rfl⟩
      obtain ⟨pl, hpl2⟩ : ∃ pl, S1.way[k].place = pl := ⟨_, rfl⟩
      rw [hold] at l1
      rw [hom] at l2
      rw [htxt] at w2c HNX
      rw [hpl2] at l1 l2 lf mf w1c hpi HNX
      clear hrd hwy hgw x1 x2 hdk hts ht1 hi hby hpl hv' hgb hold htxt hom
      go_wp2_with fail
      go_region
      go_wp2_with fail
      go_region
      go_wp2_with fail
      go_roundw
      case rel => exact ⟨k + 1, by omega, by go_num, HNX.out.drew.drew, ((HFR.out.setCell (p := ⟨gl, pl, none⟩) (by simp) _).setCell (p := ⟨gm, pl, none⟩) (by simp) _).drew.drew⟩
      case measure => simp [intOf]; omega
    · obtain rfl : k = S1.way.length := by omega
      have HE := hid (HasR.settled (F := fun _ => 384) (fun _ => Nat.le_refl _) H1.out hfr hrd)
      obtain ⟨A, c, hv⟩ := vw_shape H1.out.wy
      rw [hv] at d2
      clear hrd hfr hv hdk
      go_wp2_with fail
      go_ret
      rw [HFIN.out]
      exact ⟨.slice none 0 0, rfl, HE.out.1, (HF1.out.mono (by simp [fpR])).trans HE.out.2 (fun b hb _ => hb), fun g hg => by simp [Value.ownBlock] at hg⟩

theorem rflush_any (q gl gm cl cm : Nat) (vw : Value) (S : Sp) (w : World) (h : HasR w q gl gm cl cm vw S) (hc : S.count ≤ 1048576) :
    Calls Try.prog 33 #[dptr q] w (RE w q gl gm cl cm vw S.flush) := by
  rcases S.goes_cases with hg | ⟨ho, hl, _⟩
  · have e : S.flush = (S.goes.1, 6) := by unfold Sp.flush; rw [if_neg (by rw [hg]; decide), Sp.goes_six hg]
    rw [e]
    have HG := rgoes_any q gl gm cl cm vw S w h (by omega)
    rw [hg, show ((6 : Int) == 0) = false from rfl] at HG
    have HGG := hid HG
    clear HG hg e
    unfold dptr at *
    go_enter Try.func33, Try.ntmps33
    go_wp2_with (go_at_call 45; refine HGG.out.mono ?_; rintro e w1 ⟨rfl, h1, hf1⟩; have H1 := hid h1; have HF1 := hid hf1; clear h1 hf1)
    go_ret
    exact RE.one H1.out HF1.out
  · exact rflush_ok q gl gm cl cm vw S w h ho hl hc
end Go.Proofs.Ytdkgpjmehdpliaa
