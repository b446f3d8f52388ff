/-
  The answer's own disk: Rot.
-/
import Derived.Test.YtdkgpjmehdpliaaRefS
import Derived.BigRegion
namespace Go.Proofs.Ytdkgpjmehdpliaa
open Go.RowKit

theorem rot_text (b : List UInt8) (a : Nat) (y : UInt8) (ha : a < b.length) : (ByteArray.mk b.toArray).extract 0 a ++ ByteArray.mk #[y] ++ (ByteArray.mk b.toArray).extract (a + 1) b.length = ByteArray.mk (b.set a y).toArray := by
  apply ByteArray.ext
  apply Array.toList_inj.1
  simp only [ByteArray.data_append, ByteArray.data_extract, Array.toList_append, Array.toList_extract]
  rw [List.set_eq_take_append_cons_drop, if_pos ha]
  simp
  rw [List.take_of_length_le (by simp)]
theorem one_str (w : World) (x : UInt8) (m : Nat) (hm : m ≤ 255) :
    (convert 59 9 (.slice (some ⟨w.heap.size, 0, none⟩) 1 1)).run Try.prog (w.alloc (.cells #[.int .u8 (bits .xor .u8 (x.toNat : Int) (m : Int))] 5)).drew =
      .ok (.string ⟨#[x ^^^ UInt8.ofNat m]⟩) (w.alloc (.cells #[.int .u8 (bits .xor .u8 (x.toNat : Int) (m : Int))] 5)).drew := by
  refine run_str _ 59 5 Try.underlying59 Try.underlying5 9 Try.underlying9 (w.heap.size + 1) _ [x ^^^ UInt8.ofNat m] 1 1 rfl ?_
  intro _
  refine ⟨w.heap.size, 0, rfl, by omega, ?_⟩
  intro j u hu
  have h0 := Row.new w 5 #[.int .u8 (bits .xor .u8 (x.toNat : Int) (m : Int))]
  match j, hu with
  | 0, hu =>
    have e : Value.int .u8 (bits .xor .u8 (x.toNat : Int) (m : Int)) = bv (x ^^^ UInt8.ofNat m) := by rw [xor_byte x m hm]; rfl
    have hu' : bv (x ^^^ UInt8.ofNat m) = u := by simpa [bvs] using hu
    rw [← hu', ← e]
    exact h0.at_ 0 _ rfl
/-- behind the stores of a byte that is turned -/
theorem rrot_end {w w1 : World} {q gl gm cl cm : Nat} {vw : Value} {S : Sp} {k a m : Nat} (h : HasR w q gl gm cl cm vw S) (hf : Fr w w1 []) (hk : k < S.secs.length) (y : UInt8) (hy : y = S.secs[k].lasts.getD a 0 ^^^ UInt8.ofNat m) :
    let w2 := (w1.setCell ⟨gl, k, none⟩ (str (S.secs[k].lasts.set a y))).setCell ⟨gm, k, none⟩ (.bool true)
    HasR w2 q gl gm cl cm vw { S with secs := S.secs.modify k (fun s => turnS s a m) } ∧ Fr w w2 (fpR q gl gm vw) := by
  intro w2
  have h1 := h.fr hf (by simp)
  have hl := h.wf.len _ (List.getElem_mem hk)
  have e : S.secs.modify k (fun s => turnS s a m) = S.secs.set k ⟨S.secs[k].lasts.set a y, true⟩ := by
    apply List.ext_getElem?
    intro j
    rw [List.getElem?_modify, List.getElem?_set]
    by_cases hj : k = j
    · subst hj
      simp [hk, turnS, hy]
    · simp [hj]
  have fr2 : Fr w1 w2 [gl, gm] := ((Fr.refl w1 [gl, gm]).setCell (p := ⟨gl, k, none⟩) (by simp) _).setCell (p := ⟨gm, k, none⟩) (by simp) _
  have s1 := h1.la.stored k (str (S.secs[k].lasts.set a y))
  have m1 := (Fr.setCell (Fr.refl w1 [gl]) (p := ⟨gl, k, none⟩) (by simp) (str (S.secs[k].lasts.set a y))).own h1.ma (fun g hg => by cases hg; simpa using Ne.symm h1.n3)
  have m2 := (m1.stored k (.bool true)).1
  have s2 := (Fr.setCell (Fr.refl (w1.setCell ⟨gl, k, none⟩ (str (S.secs[k].lasts.set a y))) [gm]) (p := ⟨gm, k, none⟩) (by simp) (.bool true)).own s1.1 (fun g hg => by cases hg; simpa using h1.n3)
  rw [e]
  have el : laCells { S with secs := S.secs.set k ⟨S.secs[k].lasts.set a y, true⟩ } = (laCells S).set k (str (S.secs[k].lasts.set a y)) := by simp [laCells, List.map_set]
  have em : maCells { S with secs := S.secs.set k ⟨S.secs[k].lasts.set a y, true⟩ } = (maCells S).set k (.bool true) := by simp [maCells, List.map_set]
  refine ⟨⟨?_, ?_, ?_, fr2.own h1.wy (fun g hg => by simp; exact ⟨fun e => h1.n5 (by rw [hg, e]), fun e => h1.n6 (by rw [hg, e])⟩), h1.n1, h1.n2, h1.n3, h1.n4, h1.n5, h1.n6, ?_⟩, (hf.mono (fq := fpR q gl gm vw) (by simp)).trans fr2 (by simp [fpR])⟩
  · simpa using fr2.row h1.disk (by simp; exact ⟨h1.n1, h1.n2⟩)
  · rw [el]
    simpa using s2
  · rw [em]
    simpa using m2
  · refine ⟨set_wf S.secs h.wf.len k _ (by simpa using hl), ?_, by simpa using h.wf.few, h.wf.left, h.wf.less⟩
    intro z hz
    simpa using h.wf.way z hz

theorem rot_eq (S : Sp) (k a m : Nat) (hk : k < S.secs.length) (ha : a < 384) (hm : 1 ≤ m) (hm2 : m ≤ 255) :
    S.rot k a m = if newest S.way k ≠ 0 then (S, 10) else if S.secs[k].marked = true then (S, 7) else ({ S with secs := S.secs.modify k (fun s => turnS s a m) }, 0) := by
  unfold Sp.rot
  have hb : ¬ (¬ S.is (k : Int) ∨ (a : Int) < 0 ∨ 384 ≤ (a : Int) ∨ (m : Int) < 1 ∨ 255 < (m : Int)) := by
    rintro (h | h)
    · exact h ⟨by omega, by omega⟩
    · omega
  rw [if_neg hb]
  simp [hk]
theorem newest_no {way : List Wr} {k : Nat} (h : ∀ x ∈ way, x.place ≠ k) : newest way k = 0 := by
  rcases newest_get way k [] with ⟨h1, _, _⟩ | ⟨j, _, hj, h2, _⟩
  · exact h1
  · exact absurd h2 (h _ (List.getElem_mem hj))
theorem newest_is {way : List Wr} {k j : Nat} (hj : j < way.length) (h : way[j].place = k) : newest way k ≠ 0 := by
  rcases newest_get way k [] with ⟨_, _, h3⟩ | ⟨i, h1, _⟩
  · exact absurd h (h3 _ (List.getElem_mem hj))
  · omega

set_option maxRecDepth 10000 in
set_option maxHeartbeats 2000000 in
theorem rrot_in (q gl gm cl cm : Nat) (vw : Value) (S : Sp) (k a m : Nat) (w : World) (h : HasR w q gl gm cl cm vw S) (hk : k < S.secs.length) (ha : a < 384) (hm : 1 ≤ m) (hm2 : m ≤ 255) (hc : S.count ≤ 1048576) :
    Calls Try.prog 37 #[dptr q, .int .i64 (k : Int), .int .i64 (a : Int), .int .i64 (m : Int)] w (RE w q gl gm cl cm vw (S.rot k a m)) := by
  have c0 := h.c0
  have c1 := h.c1
  have c2 := h.c2
  have lc := h.lc k hk
  have mc := h.mc k hk
  have hway := h.wf.less
  have n1 := h.n1
  have n2 := h.n2
  have n3 := h.n3
  have n1' := Ne.symm h.n1
  have n2' := Ne.symm h.n2
  have n3' := Ne.symm h.n3
  have HE := hid (rot_eq S k a m hk ha hm hm2)
  obtain ⟨A, c, hv⟩ := vw_shape h.wy
  rw [hv] at c2
  have HV := hid hv
  have hki : (k : Int) < (S.secs.length : Int) := by omega
  have HIS := ris_any k q gl gm cl cm vw S w h
  rw [show decide (S.is k) = true from decide_eq_true ⟨by omega, by omega⟩] at HIS
  have HI := hid HIS
  have HH := hid h
  clear hv HIS h
  unfold dptr str at *
  go_enter Try.func37, Try.ntmps37
  go_wp2_with (go_at_call 20; refine HI.out.mono ?_; rintro e w1 ⟨rfl, rfl⟩)
  go_loop [9] (fun j => ∃ jj : Nat, jj ≤ S.way.length ∧ j = .int .i64 jj ∧ ∀ x ∈ S.way.take jj, x.place ≠ k) (fun j => S.way.length - (intOf j).toNat)
  case atStart => exact ⟨0, by omega, rfl, by simp⟩
  case round =>
    obtain ⟨j, hj, rfl, hno⟩ := hrel
    have HNO := hid hno
    clear hno
    by_cases hlt : j < S.way.length
    · obtain ⟨g, c', hv'⟩ := HH.out.wyShape (by omega)
      obtain ⟨w1, w2⟩ := HH.out.wc j hlt g c' hv'
      have hva := HV.out
      rw [hv'] at hva
      cases hva
      have hji : (j : Int) < (S.way.length : Int) := by omega
      unfold str at w2
      clear hv'
      by_cases hp : S.way[j].place = k
      · have hpb : (((S.way[j].place : Nat) : Int) == (k : Int)) = true := by simp [hp]
        have HP := hid hp
        clear hp
        go_wp2_with fail
        go_ret
        rw [HE.out, if_pos (newest_is hlt HP.out)]
        exact RE.same HH.out
      · have hpb : (((S.way[j].place : Nat) : Int) == (k : Int)) = false := by simp; omega
        have HP := hid hp
        clear hp
        go_wp2_with fail
        go_round
        case rel => exact ⟨j + 1, by omega, by go_num, by
          intro x hx
          rw [List.take_succ_eq_append_getElem hlt] at hx
          rcases List.mem_append.1 hx with hx | hx
          · exact HNO.out x hx
          · simp at hx; subst hx; exact HP.out⟩
        case measure => simp [intOf]; omega
    · obtain rfl : j = S.way.length := by omega
      cases hmk : S.secs[k].marked with
      | true =>
        rw [hmk] at mc
        have HM := hid hmk
        clear hmk
        go_wp2_with fail
        go_ret
        rw [HE.out, if_neg (by rw [newest_no (by simpa using HNO.out)]; simp), if_pos HM.out]
        exact RE.same HH.out
      | false =>
        rw [hmk] at mc
        have HM := hid hmk
        have hbl := HH.out.wf.len _ (List.getElem_mem hk)
        obtain ⟨b, hb⟩ : ∃ b, S.secs[k].lasts = b := ⟨_, rfl⟩
        rw [hb] at lc hbl
        have HB := hid hb
        have hb1 : a ≤ b.length := by omega
        have hb2 : a < b.length := by omega
        have hb3 : a + 1 ≤ b.length := by omega
        have hb4 : (a : Int) < (b.length : Int) := by omega
        have hb5 : (a : Int) + 1 ≤ (b.length : Int) := by omega
        have hx1 : ¬ (9223372036854775807 < a + 1) := by omega
        have hx2 : ¬ (9223372036854775807 < a + 1 + (b.length - (a + 1))) := by omega
        have hx3 : ¬ (9223372036854775807 < b.length) := by omega
        have hb6 : (0 : Int) ≤ (a : Int) + 1 := by omega
        have hw9 : IntKind.i64.wrap ((a : Int) + 1) = (a : Int) + 1 := IntWalk.i64_in _ (by omega)
        have hcv := one_str w ((ByteArray.mk b.toArray)[a]'(show a < b.toArray.size by simpa using hb2)) m hm2
        have hq : q < w.heap.size := HH.out.disk.lt
        have hw8 : IntKind.u8.wrap (m : Int) = (m : Int) := wrap8 m (by omega)
        have hrt := rot_text b a ((ByteArray.mk b.toArray)[a]'(show a < b.toArray.size by simpa using hb2) ^^^ UInt8.ofNat m) hb2
        have HBL := hid hbl
        clear hmk hb hbl
        go_wp2_with fail
        refine wp_region_held_drew (S := fun w' => w'.cell? ⟨q, 0, none⟩ = some (.slice (some ⟨gl, 0, none⟩) S.secs.length cl)) (by kernel_rfl) c0 (fun hH => ?_)
        refine wpAnyH_take (i := 0) (v := .pointer (some ⟨q, 0, none⟩)) rfl (by kernel_rfl) (by kernel_rfl) (by kernel_rfl) (fun _ _ _ h => h) (Or.inl ⟨by rfl, fun w' hw' => by (try dsimp only at hw'); go_simp⟩) hH ?_
        simp only [Act.put]
        refine wpAnyH_take (i := 1) (v := .pointer (some ⟨q, 0, none⟩)) rfl (by kernel_rfl) (by kernel_rfl) (by kernel_rfl) (fun _ _ _ h => h) (Or.inl ⟨by rfl, fun w' hw' => by (try dsimp only at hw'); go_simp⟩) hH ?_
        simp only [Act.put]
        refine wpAnyH_take (i := 2) (v := .pointer (some ⟨q, 0, none⟩)) rfl (by kernel_rfl) (by kernel_rfl) (by kernel_rfl) (fun _ _ _ h => h) (Or.inl ⟨by rfl, fun w' hw' => by (try dsimp only at hw'); go_simp⟩) hH ?_
        simp only [Act.put]
        refine wpAnyH_take (i := 3) (v := .slice (some ⟨gl, 0, none⟩) S.secs.length cl) rfl (by kernel_rfl) (by kernel_rfl) (by kernel_rfl) (fun _ _ _ h => h) (Or.inl ⟨by rfl, fun w' hw' => by (try dsimp only at hw'); go_simp⟩) hH ?_
        simp only [Act.put]
        refine wpAnyH_take (i := 4) (v := .int .i64 (k : Int)) rfl (by kernel_rfl) (by kernel_rfl) (by kernel_rfl) (fun _ _ _ h => h) (Or.inl ⟨by rfl, fun w' hw' => by (try dsimp only at hw'); go_simp⟩) hH ?_
        simp only [Act.put]
        refine wpAnyH_take (i := 5) (v := .string ⟨b.toArray⟩) rfl (by kernel_rfl) (by kernel_rfl) (by kernel_rfl) (fun _ _ _ h => h) (Or.inl ⟨by rfl, fun w' hw' => by (try dsimp only at hw'); go_simp⟩) hH ?_
        simp only [Act.put]
        refine wpAnyH_take (i := 6) (v := .int .i64 (a : Int)) rfl (by kernel_rfl) (by kernel_rfl) (by kernel_rfl) (fun _ _ _ h => h) (Or.inl ⟨by rfl, fun w' hw' => by (try dsimp only at hw'); go_simp⟩) hH ?_
        simp only [Act.put]
        refine wpAnyH_take (i := 7) (v := ?v7) rfl (by kernel_rfl) (by kernel_rfl) (by kernel_rfl) (fun _ _ _ h => h) (Or.inl ⟨by rfl, ?y7⟩) hH ?r7
        case y7 => intro w' hw'; go_simp; exact rfl
        simp only [Act.put]
        refine wpAnyH_take (i := 8) (v := .string ⟨b.toArray⟩) rfl (by kernel_rfl) (by kernel_rfl) (by kernel_rfl) (fun _ _ _ h => h) (Or.inl ⟨by rfl, fun w' hw' => by (try dsimp only at hw'); go_simp⟩) hH ?_
        simp only [Act.put]
        refine wpAnyH_take (i := 9) (v := .int .i64 (a : Int)) rfl (by kernel_rfl) (by kernel_rfl) (by kernel_rfl) (fun _ _ _ h => h) (Or.inl ⟨by rfl, fun w' hw' => by (try dsimp only at hw'); go_simp⟩) hH ?_
        simp only [Act.put]
        refine wpAnyH_take (i := 10) (v := ?v10) rfl (by kernel_rfl) (by kernel_rfl) (by kernel_rfl) (fun _ _ _ h => h) (Or.inl ⟨by rfl, ?y10⟩) hH ?r10
        case y10 => intro w' hw'; go_simp; exact rfl
        simp only [Act.put]
        refine wpAnyH_take (i := 11) (v := .int .i64 (m : Int)) rfl (by kernel_rfl) (by kernel_rfl) (by kernel_rfl) (fun _ _ _ h => h) (Or.inl ⟨by rfl, fun w' hw' => by (try dsimp only at hw'); go_simp⟩) hH ?_
        simp only [Act.put]
        refine wpAnyH_take (i := 12) (v := .int .u8 (m : Int)) rfl (by kernel_rfl) (by kernel_rfl) (by kernel_rfl) (fun _ _ _ h => h) (Or.inl ⟨by rfl, fun w' hw' => by (try dsimp only at hw'); go_simp⟩) hH ?_
        simp only [Act.put]
        refine wpAnyH_take (i := 13) (v := ?v13) rfl (by kernel_rfl) (by kernel_rfl) (by kernel_rfl) (fun _ _ _ h => h) (Or.inl ⟨by rfl, ?y13⟩) hH ?r13
        case y13 => intro w' hw'; go_simp; exact rfl
        simp only [Act.put]
        refine wpAnyH_take (i := 17) (v := .string ⟨b.toArray⟩) rfl (by kernel_rfl) (by kernel_rfl) (by kernel_rfl) (fun _ _ _ h => h) (Or.inl ⟨by rfl, fun w' hw' => by (try dsimp only at hw'); go_simp⟩) hH ?_
        simp only [Act.put]
        refine wpAnyH_take (i := 18) (v := .int .i64 (a : Int)) rfl (by kernel_rfl) (by kernel_rfl) (by kernel_rfl) (fun _ _ _ h => h) (Or.inl ⟨by rfl, fun w' hw' => by (try dsimp only at hw'); go_simp⟩) hH ?_
        simp only [Act.put]
        refine wpAnyH_take (i := 19) (v := .int .i64 ((a : Int) + 1)) rfl (by kernel_rfl) (by kernel_rfl) (by kernel_rfl) (fun _ _ _ h => h) (Or.inl ⟨by rfl, fun w' hw' => by (try dsimp only at hw'); go_simp⟩) hH ?_
        simp only [Act.put]
        refine wpAnyH_take (i := 20) (v := ?v20) rfl (by kernel_rfl) (by kernel_rfl) (by kernel_rfl) (fun _ _ _ h => h) (Or.inl ⟨by rfl, ?y20⟩) hH ?r20
        case y20 => intro w' hw'; go_simp; exact rfl
        simp only [Act.put]
        refine wpAnyH_ready (rs := [14]) (by kernel_rfl) (by simp) ?_
        refine AllReadyH.cons rfl (fun K hK => ?_) AllReadyH.nil
        go_simp
        refine hK.out _ _ ((World.cell?_alloc_lt _ _ _ hq).trans c0) (fun hH2 => ?_)
        clear hK K hH
        try simp only [Act.put]
        refine wpAnyH_ready (rs := [15]) (by kernel_rfl) (by simp) ?_
        refine AllReadyH.cons rfl (fun K hK => ?_) AllReadyH.nil
        go_simp
        refine hK.out _ _ ((World.cell?_alloc_lt _ _ _ hq).trans c0) (fun hH3 => ?_)
        clear hK K hH2
        try simp only [Act.put]
        generalize hW : (World.drew (w.alloc _)) = W at hH3 ⊢
        have hfW : Fr w W [] := by rw [← hW]; exact ((Fr.refl w []).alloc _).drew
        have hr3 := HH.out.fr hfW (by simp)
        have c1W := hr3.c1
        have lcW := hr3.lc k hk
        have mcW := hr3.mc k hk
        have flW := hr3.la.frozenAt k
        have fmW := hr3.ma.frozenAt k
        have HFW := hid hfW
        have HR3 := hid hr3
        clear hW hfW hr3
        refine wpAnyH_take (i := 16) (v := ?v16) rfl (by kernel_rfl) (by kernel_rfl) (by kernel_rfl) (fun _ _ _ h => h) (Or.inl ⟨by rfl, ?y16⟩) hH3 ?r16
        case y16 => intro w' hw'; go_simp; exact rfl
        simp only [Act.put]
        refine wpAnyH_take (i := 21) (v := .string ⟨(b.set a ((ByteArray.mk b.toArray)[a]'(show a < b.toArray.size by simpa using hb2) ^^^ UInt8.ofNat m)).toArray⟩) rfl (by kernel_rfl) (by kernel_rfl) (by kernel_rfl) (fun _ _ _ h => h) (Or.inl ⟨by rfl, fun w' hw' => by go_simp⟩) hH3 ?_
        simp only [Act.put]
        refine wpAnyH_take (i := 22) (v := .pointer (some ⟨gl, k, none⟩)) rfl (by kernel_rfl) (by kernel_rfl) (by kernel_rfl) (fun _ _ _ h => h) (Or.inl ⟨by rfl, fun w' hw' => by go_simp⟩) hH3 ?_
        simp only [Act.put]
        refine wpAnyH_ready (rs := [23]) (by kernel_rfl) (by simp) ?_
        refine AllReadyH.cons rfl (fun K hK => ?_) AllReadyH.nil
        go_simp
        refine hK.out _ _ ((World.cell?_setCell_far _ _ _ _ n1').trans HR3.out.c0) (fun hH4 => ?_)
        clear hK K hH3
        try simp only [Act.put]
        refine wpAnyH_done (by kernel_rfl) ?_ _
        clear hH4
        go_wp2_with fail
        go_ret
        have hy : (ByteArray.mk b.toArray)[a]'(show a < b.toArray.size by simpa using hb2) ^^^ UInt8.ofNat m = S.secs[k].lasts.getD a 0 ^^^ UInt8.ofNat m := by
          rw [HB.out]
          show b.toArray[a] ^^^ _ = _
          simp [hb2]
        have E := rrot_end HH.out HFW.out hk _ hy
        rw [HB.out] at E
        rw [HE.out, if_neg (by rw [newest_no (by simpa using HNO.out)]; simp), if_neg (by rw [HM.out]; simp)]
        exact ⟨vw, rfl, E.1, E.2, fun _ hg => .inl hg⟩
/-- Rot refuses -/
theorem rrot_bad (q gl gm cl cm : Nat) (vw : Value) (S : Sp) (i a m : Int) (w : World) (h : HasR w q gl gm cl cm vw S) (hb : rotBad S i a m) :
    Calls Try.prog 37 #[dptr q, .int .i64 i, .int .i64 a, .int .i64 m] w (RE w q gl gm cl cm vw (S, 1)) := by
  have HH := hid h
  have HIS := ris_any i q gl gm cl cm vw S w h
  clear h
  by_cases hi : S.is i
  · have hq : (decide (a < 0) || decide (383 < a) || decide (m < 1) || decide (255 < m)) = true := by
      rcases hb with hb | hb | hb | hb | hb
      · exact absurd hi hb
      · simp [hb]
      · have : 383 < a := by omega
        simp [this]
      · simp [hb]
      · simp [hb]
    rw [decide_eq_true hi] at HIS
    have HI := hid HIS
    clear hb hi HIS
    unfold dptr at *
    go_enter Try.func37, Try.ntmps37
    go_wp2_with (go_at_call 20; refine HI.out.mono ?_; rintro e w1 ⟨rfl, rfl⟩)
    all_goals (go_ret; exact RE.same HH.out)
  · rw [decide_eq_false hi] at HIS
    have HI := hid HIS
    clear hb hi HIS
    unfold dptr at *
    go_enter Try.func37, Try.ntmps37
    go_wp2_with (go_at_call 20; refine HI.out.mono ?_; rintro e w1 ⟨rfl, rfl⟩)
    go_ret
    exact RE.same HH.out
theorem rrot_any (q gl gm cl cm : Nat) (vw : Value) (S : Sp) (i a m : Int) (w : World) (h : HasR w q gl gm cl cm vw S) (hc : S.count ≤ 1048576) :
    Calls Try.prog 37 #[dptr q, .int .i64 i, .int .i64 a, .int .i64 m] w (RE w q gl gm cl cm vw (S.rot i a m)) := by
  by_cases hb : rotBad S i a m
  · have e : S.rot i a m = (S, 1) := by unfold Sp.rot; exact if_pos hb
    rw [e]
    exact rrot_bad q gl gm cl cm vw S i a m w h hb
  · have hi : S.is i := Classical.byContradiction fun h => hb (.inl h)
    have hb2 : 0 ≤ a ∧ a < 384 ∧ 1 ≤ m ∧ m ≤ 255 := by
      unfold rotBad at hb
      omega
    obtain ⟨b1, b2, b3, b4⟩ := hb2
    obtain ⟨k, rfl⟩ := Int.eq_ofNat_of_zero_le hi.1
    obtain ⟨a', rfl⟩ := Int.eq_ofNat_of_zero_le b1
    obtain ⟨m', rfl⟩ := Int.eq_ofNat_of_zero_le (show 0 ≤ m by omega)
    have hk : k < S.secs.length := by have := hi.2; omega
    exact rrot_in q gl gm cl cm vw S k a' m' w h hk (by omega) (by omega) (by omega) hc
end Go.Proofs.Ytdkgpjmehdpliaa
