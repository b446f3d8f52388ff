/-
  The walk of the document's Machine.Pack.
-/
import Derived.Test.YtgednnjmcjhfmaaGreatDoorM24
import Derived.Test.YtgednnjmcjhfmaaGreatDoorM02
import Derived.Test.YtgednnjmcjhfmaaGreatDoorM27
import Derived.Test.YtgednnjmcjhfmaaGreatDoorM21
import Derived.Test.YtgednnjmcjhfmaaGreatDoorM17
import Derived.Test.YtgednnjmcjhfmaaGreatDoorM01
import Derived.BigQuiet
import Derived.Deep.RegionHeld
import Derived.Test.YtgednnjmcjhfmaaGreatDoorM29
import Derived.Test.YtgednnjmcjhfmaaGreatDoorM26
import Derived.Test.YtgednnjmcjhfmaaGreatDoorM22
namespace Go.Proofs.YtgednnjmcjhfmaaGreatDoor
open Go.RowKit
set_option maxRecDepth 10000
set_option maxHeartbeats 80000000
theorem rpt_big (A : Option Addr) (bs : List UInt8) (m c B : Nat) (t : ByteArray) (W : World) (hr : Rd W B A (bvs bs)) (hm : m = bs.length) (ht : t.size ≤ 65535) (hB : B ≤ W.heap.size) (hl : m ≤ 140737488200000) :
  Calls Tryz.prog 46 #[.slice A m c, .string t] W (BO W (bs ++ le t.size 2 ++ sb t) (m + 2 + t.size)) := by
 subst hm
 have h := rpt_any A bs bs.length c B t W hr rfl hB hl
 have e : ptS bs (sb t) = (bs ++ le t.size 2 ++ sb t, 0) := by
  unfold ptS
  rw [sb_len, if_neg (by omega)]
 rw [e] at h
 exact h.mono fun e w' hh => BE.len hh (by simp [le_len, sb_len]; omega)
/-- []byte(s), in a drawn region -/
theorem wp_bytesM {P : Program} {w : World} {o : Oper} {a : Act} {K : Act → World → Prop} {Q : Exit → Act → World → Prop} (x : Operand) (src dst : TypeId)
  (ho : o.op = .convert src dst x) (e : TypeId) (hs : P.underlying src = some .string) (hd : P.underlying dst = some (.slice e)) (he : P.underlying e = some (.int .u8))
  (s : ByteArray) (hx : a.eval x = .string s)
  (h : ∀ g c k w', Hid (g = w.heap.size) → Hid (s.size ≤ c) → FRow w' g e (bvs (sb s) ++ List.replicate k (.int .u8 0)) → Below w.heap.size w w' → K (a.put o.dst (.slice (some ⟨g, 0, none⟩) s.size c)) w') : Oper.wp P o a w K Q := by
 have hrow : bytesRow s (grownCap w s.size 0 e) = (bvs (sb s) ++ List.replicate (grownCap w s.size 0 e - s.size) (Value.int .u8 0)).toArray := by
  apply Array.toList_inj.1
  simp [bytesRow, bvs, sb]
  intro b _
  rfl
 have hlen : (bytesRow s (grownCap w s.size 0 e)).size = (bvs (sb s) ++ List.replicate (grownCap w s.size 0 e - s.size) (Value.int .u8 0)).length := by rw [hrow]; simp
 unfold Oper.wp execOp
 simp only [ho, Sem.run_bind, Sem.run_pure, Result.andThen_ok, hx, run_bytes_of_string w src dst e s hs hd he]
 refine h w.heap.size _ (grownCap w s.size 0 e - s.size) _ (hid rfl) (hid (grownCap_ge w s.size 0 e)) ?_ ((Below.refl _ _).drew.alloc (Nat.le_refl _) _)
 unfold FRow
 rw [hlen, hrow]
 exact heap_alloc_new _ _
theorem text_of (l : List UInt8) : ∃ A : ByteArray, A = ⟨l.toArray⟩ ∧ sb A = l ∧ A.size = l.length := ⟨_, rfl, sb_mk l, by simp [ByteArray.size]⟩
theorem rmpack_any (p : Nat) (S : Ma) (fp : List Nat) (w : World) (hS : S.WF) (h : Hm KR p S fp w) : Calls Tryz.prog 22 #[.pointer (some ⟨p, 0, none⟩)] w (SE w S.pack) := by
 obtain ⟨ps, pb, h⟩ := h
 obtain ⟨fs, hs⟩ := h.s
 obtain ⟨fb, hb⟩ := h.b
 obtain ⟨va, vt, -, hv⟩ := hb
 have hp1 := pack8_le hS.w.t
 have hp2 := pack_len S.w.B hS.w.b
 have h3 := hS.w.b.la
 have h4 := hS.w.b.lt
 have hrow := h.row
 obtain ⟨hm1, hm2, hm3⟩ := hS.m
 obtain ⟨A0, hA0, hs0, hl0⟩ := text_of (le S.m.opn.toNat 8)
 obtain ⟨A1, hA1, hs1, hl1⟩ := text_of (le S.m.view.toNat 8)
 obtain ⟨A2, hA2, hs2, hl2⟩ := text_of (le S.m.sum 8)
 obtain ⟨PT, hPT, hsT, hlT⟩ := text_of (pack S.w.T)
 obtain ⟨PB, hPB, hsB, hlB⟩ := text_of S.w.B.pack
 have HE0 : Hid (∀ W, Calls Tryz.prog 45 #[.int .u64 (S.m.opn.toNat : Int)] W (VE W (.string A0))) := hid fun W => by rw [hA0]; exact eight_any S.m.opn.toNat W (by omega)
 have HE1 : Hid (∀ W, Calls Tryz.prog 45 #[.int .u64 (S.m.view.toNat : Int)] W (VE W (.string A1))) := hid fun W => by rw [hA1]; exact eight_any S.m.view.toNat W (by omega)
 have HE2 : Hid (∀ W, Calls Tryz.prog 45 #[.int .u64 (S.m.sum : Int)] W (VE W (.string A2))) := hid fun W => by rw [hA2]; exact eight_any S.m.sum W hm3
 have HPT : Hid (∀ W, Below w.heap.size w W → Calls Tryz.prog 47 #[.pointer (some ⟨ps, 0, none⟩)] W (VE W (.string PT))) := hid fun W hW => by rw [hPT]; exact rpack_any8 ps fs S.w.T W (hs.below hW)
 have HPB : Hid (∀ W, Below w.heap.size w W → Calls Tryz.prog 48 #[.pointer (some ⟨pb, 0, none⟩)] W (VE W (.string PB))) := hid fun W hW => by rw [hPB]; exact rpack_any pb va vt S.w.B W (hv.below hW)
 have HW0 : Hid (IntKind.u64.wrap S.m.opn = (S.m.opn.toNat : Int)) := hid (by rw [IntKind.wrap_u64]; omega)
 have HW1 : Hid (IntKind.u64.wrap S.m.view = (S.m.view.toNat : Int)) := hid (by rw [IntKind.wrap_u64]; omega)
 have HR : Hid (∀ W, Below w.heap.size w W → Row W p KR.1 (mcs S.m ps pb)) := hid fun W hW => hrow.below hW hrow.lt
 have HPK : Hid (S.pack = sb A0 ++ sb A1 ++ sb A2 ++ le PT.size 2 ++ sb PT ++ le PB.size 2 ++ sb PB) := hid (by
  rw [hs0, hs1, hs2, hsT, hsB, hlT, hlB]
  unfold Ma.pack packM txt
  simp only [List.append_assoc])
 have hz0 : A0.size = 8 := by rw [hl0, le_len]
 have hz1 : A1.size = 8 := by rw [hl1, le_len]
 have hz2 : A2.size = 8 := by rw [hl2, le_len]
 have hzT : PT.size ≤ 703 := by omega
 have hzB : PB.size ≤ 65535 := by omega
 generalize (S.m.opn.toNat : Int) = x0 at *
 generalize (S.m.view.toNat : Int) = x1 at *
 obtain ⟨⟨mo, mv, ms⟩, M⟩ := S
 simp only at *
 generalize Ma.pack _ = PK at *
 have hc0 : ∀ W, Below w.heap.size w W → W.cell? ⟨p, 0, none⟩ = some (.int .i64 mo) := fun W hW => (HR.out W hW).at_ 0 _ rfl
 have hc1 : ∀ W, Below w.heap.size w W → W.cell? ⟨p, 1, none⟩ = some (.int .i64 mv) := fun W hW => (HR.out W hW).at_ 1 _ rfl
 have hc2 : ∀ W, Below w.heap.size w W → W.cell? ⟨p, 2, none⟩ = some (.int .u64 (ms : Int)) := fun W hW => (HR.out W hW).at_ 2 _ rfl
 have hc3 : ∀ W, Below w.heap.size w W → W.cell? ⟨p, 3, none⟩ = some (.pointer (some ⟨ps, 0, none⟩)) := fun W hW => (HR.out W hW).at_ 3 _ rfl
 have hc4 : ∀ W, Below w.heap.size w W → W.cell? ⟨p, 4, none⟩ = some (.pointer (some ⟨pb, 0, none⟩)) := fun W hW => (HR.out W hW).at_ 4 _ rfl
 have HC0 := hid hc0
 have HC1 := hid hc1
 have HC2 := hid hc2
 have HC3 := hid hc3
 have HC4 := hid hc4
 clear hc0 hc1 hc2 hc3 hc4 h hs hv hrow hS hp1 hp2 h3 h4 hm1 hm2 hm3 hA0 hA1 hA2 hPT hPB hs0 hs1 hs2 hsT hsB hl0 hl1 hl2 hlT hlB
 go_enter Tryz.func22, Tryz.ntmps22
 go_wp2_with fail
 refine wp_region_held_drew (S := fun W => Below w.heap.size w W) (by kernel_rfl) ((Below.refl w.heap.size w).drew) (fun hH => ?_)
 refine tk_ (i := 0) (v := .pointer (some ⟨p, 0, none⟩)) rfl (Or.inl ⟨by rfl, fun w' hw' => by clear hw'; go_simp⟩) hH ?_
 simp only [Act.put]
 refine tk_ (i := 1) (v := .pointer (some ⟨p, 0, none⟩)) rfl (Or.inl ⟨by rfl, fun w' hw' => by clear hw'; go_simp⟩) hH ?_
 simp only [Act.put]
 refine tk_ (i := 2) (v := .pointer (some ⟨p, 0, none⟩)) rfl (Or.inl ⟨by rfl, fun w' hw' => by clear hw'; go_simp⟩) hH ?_
 simp only [Act.put]
 refine tk_ (i := 3) (v := .pointer (some ⟨p, 0, none⟩)) rfl (Or.inl ⟨by rfl, fun w' hw' => by clear hw'; go_simp⟩) hH ?_
 simp only [Act.put]
 refine tk_ (i := 4) (v := .int .i64 mo) rfl (Or.inl ⟨by rfl, fun w' hw' => by have h := HC0.out w' hw'; go_simp⟩) hH ?_
 simp only [Act.put]
 refine tk_ (i := 5) (v := .int .u64 x0) rfl (Or.inl ⟨by rfl, fun w' hw' => by have h := HW0.out; go_simp⟩) hH ?_
 simp only [Act.put]
 refine tk_ (i := 7) (v := .pointer (some ⟨p, 0, none⟩)) rfl (Or.inl ⟨by rfl, fun w' hw' => by clear hw'; go_simp⟩) hH ?_
 simp only [Act.put]
 refine tk_ (i := 8) (v := .pointer (some ⟨p, 0, none⟩)) rfl (Or.inl ⟨by rfl, fun w' hw' => by clear hw'; go_simp⟩) hH ?_
 simp only [Act.put]
 refine tk_ (i := 9) (v := .pointer (some ⟨p, 0, none⟩)) rfl (Or.inl ⟨by rfl, fun w' hw' => by clear hw'; go_simp⟩) hH ?_
 simp only [Act.put]
 refine tk_ (i := 10) (v := .pointer (some ⟨p, 1, none⟩)) rfl (Or.inl ⟨by rfl, fun w' hw' => by clear hw'; go_simp⟩) hH ?_
 simp only [Act.put]
 refine tk_ (i := 11) (v := .int .i64 mv) rfl (Or.inl ⟨by rfl, fun w' hw' => by have h := HC1.out w' hw'; go_simp⟩) hH ?_
 simp only [Act.put]
 refine tk_ (i := 12) (v := .int .u64 x1) rfl (Or.inl ⟨by rfl, fun w' hw' => by have h := HW1.out; go_simp⟩) hH ?_
 simp only [Act.put]
 refine tk_ (i := 15) (v := .pointer (some ⟨p, 0, none⟩)) rfl (Or.inl ⟨by rfl, fun w' hw' => by clear hw'; go_simp⟩) hH ?_
 simp only [Act.put]
 refine tk_ (i := 16) (v := .pointer (some ⟨p, 0, none⟩)) rfl (Or.inl ⟨by rfl, fun w' hw' => by clear hw'; go_simp⟩) hH ?_
 simp only [Act.put]
 refine tk_ (i := 17) (v := .pointer (some ⟨p, 0, none⟩)) rfl (Or.inl ⟨by rfl, fun w' hw' => by clear hw'; go_simp⟩) hH ?_
 simp only [Act.put]
 refine tk_ (i := 18) (v := .pointer (some ⟨p, 2, none⟩)) rfl (Or.inl ⟨by rfl, fun w' hw' => by clear hw'; go_simp⟩) hH ?_
 simp only [Act.put]
 refine tk_ (i := 19) (v := .int .u64 (ms : Int)) rfl (Or.inl ⟨by rfl, fun w' hw' => by have h := HC2.out w' hw'; go_simp⟩) hH ?_
 simp only [Act.put]
 refine rd1 (i := 6) (by kernel_rfl) rfl (fun K hK => ?_)
 go_simp
 go_at_call 45
 refine (HE0.out _).mono ?_
 rintro e w3 ⟨rfl, hb9⟩
 go_wp2_with fail
 refine hK.out _ _ (hH.trans (hb9.mono hH.size)) (fun hH => ?_)
 clear hK K
 try simp only [Act.put]
 refine rd1 (i := 13) (by kernel_rfl) rfl (fun K hK => ?_)
 go_simp
 go_at_call 45
 refine (HE1.out _).mono ?_
 rintro e w4 ⟨rfl, hb9⟩
 go_wp2_with fail
 refine hK.out _ _ (hH.trans (hb9.mono hH.size)) (fun hH => ?_)
 clear hK K
 try simp only [Act.put]
 refine tk_ (i := 14) (v := .string (A0 ++ A1)) rfl (Or.inl ⟨by rfl, fun w' hw' => by clear hw'; go_simp⟩) hH ?_
 simp only [Act.put]
 refine rd1 (i := 20) (by kernel_rfl) rfl (fun K hK => ?_)
 go_simp
 go_at_call 45
 refine (HE2.out _).mono ?_
 rintro e w5 ⟨rfl, hb9⟩
 go_wp2_with fail
 refine hK.out _ _ (hH.trans (hb9.mono hH.size)) (fun hH => ?_)
 clear hK K
 try simp only [Act.put]
 refine tk_ (i := 21) (v := .string (A0 ++ A1 ++ A2)) rfl (Or.inl ⟨by rfl, fun w' hw' => by clear hw'; go_simp⟩) hH ?_
 simp only [Act.put]
 refine rd1 (i := 22) (by kernel_rfl) rfl (fun K hK => ?_)
 rw [if_pos (by kernel_rfl)]
 refine wp_bytesM (.tmp 25) 9 85 (by kernel_rfl) 5 Tryz.underlying9 Tryz.underlying85 Tryz.underlying5 (A0 ++ A1 ++ A2) (by kernel_rfl) (fun g c k w6 HG HCC HFR HB6 => ?_)
 have HB := hid (hH.trans (HB6.mono hH.size))
 have HRB := hid HFR
 clear HB6 HFR
 refine hK.out _ _ HB.out (fun hH => ?_)
 clear hK K
 try simp only [Act.put]
 refine rd1 (i := 23) (by kernel_rfl) rfl (fun K hK => ?_)
 go_simp
 refine hK.out _ _ (hH) (fun hH => ?_)
 clear hK K
 try simp only [Act.put]
 refine wpAnyH_done (by kernel_rfl) ?_ _
 try simp only [Act.put]
 have hsz : (A0 ++ A1 ++ A2).size = 24 := by simp only [ByteArray.size_append]; omega
 have hsb : sb (A0 ++ A1 ++ A2) = sb A0 ++ sb A1 ++ sb A2 := by simp [sb]
 have hrd : Rd w6 w6.heap.size (some ⟨g, 0, none⟩) (bvs (sb A0 ++ sb A1 ++ sb A2)) := by
  have h1 := (HRB.out.rd (B := w6.heap.size) HRB.out.lt).take 24
  have hlb : (bvs (sb (A0 ++ A1 ++ A2))).length = 24 := by rw [bvs_len, sb_len, hsz]
  rw [List.take_append_of_le_length (Nat.le_of_eq hlb.symm), List.take_of_length_le (Nat.le_of_eq hlb), hsb] at h1
  exact h1
 have HRD := hid hrd
 have hln : (sb A0 ++ sb A1 ++ sb A2).length = 24 := by rw [← hsb, sb_len, hsz]
 generalize sb A0 ++ sb A1 ++ sb A2 = E at *
 have h3 := HC3.out _ HB.out
 clear hsb hsz hrd
 have HLN := hid hln
 have HST := hid hzT
 have HSB := hid hzB
 go_wp2_with (first
  | (go_at_call 47; refine (HPT.out _ HB.out).mono ?_; rintro e w7 ⟨rfl, hb⟩; have HB7 := hid (HB.out.trans (hb.mono HB.out.size)); have HRD7 := hid ((HRD.out.below hb (Nat.le_refl _)).more hb.size); clear hb)
  | (go_at_call 46; refine (rpt_big A8 (E ++ le PT.size 2 ++ sb PT) (24 + 2 + PT.size) c8 w9.heap.size PB w9 HRD9.out (by have := HLN.out; simp [le_len, sb_len]; omega) HSB.out (Nat.le_refl _) (by have := HST.out; omega)).mono ?_; rintro e w10 ⟨A10, c10, rfl, ho, hb⟩; have HB10 := hid (HB9.out.trans (hb.mono HB9.out.size)); have HRD10 := hid (own_rd9 ho); clear ho hb)
  | (go_at_call 46; refine (rpt_big (some ⟨g, 0, none⟩) E 24 c w7.heap.size PT w7 HRD7.out HLN.out.symm (by have := HST.out; omega) (Nat.le_refl _) (by omega)).mono ?_; rintro e w8 ⟨A8, c8, rfl, ho, hb⟩; have HB8 := hid (HB7.out.trans (hb.mono HB7.out.size)); have HRD8 := hid (own_rd9 ho); have h4 := HC4.out _ HB8.out; clear ho hb)
  | (go_at_call 48; refine (HPB.out _ HB8.out).mono ?_; rintro e w9 ⟨rfl, hb⟩; have HB9 := hid (HB8.out.trans (hb.mono HB8.out.size)); have HRD9 := hid ((HRD8.out.below hb (Nat.le_refl _)).more hb.size); clear hb)
  | (with_reducible refine wpl_str rfl _ 85 9 rfl 5 Tryz.underlying85 Tryz.underlying5 Tryz.underlying9 A10 (24 + 2 + PT.size + 2 + PB.size) c10 rfl w10.heap.size (E ++ le PT.size 2 ++ sb PT ++ le PB.size 2 ++ sb PB) ?_ (hid HRD10.out) (hid (by have := HLN.out; simp [le_len, sb_len]; omega))))
 go_ret
 exact ⟨by rw [HPK.out]; simp only [List.append_assoc]; rfl, HB10.out⟩
theorem rdoes_gm (p ps pb : Nat) (S : Ma) (fp : List Nat) (e : En) (w : World) (hf : e.fits) (hs : e.body.size ≤ 140737488355328) (h : Gm KR.1 KR.2.1 KR.2.2 p ps pb (mcs S.m ps pb) S.w fp w) :
  Calls Tryz.prog 33 #[.pointer (some ⟨p, 0, none⟩), e.val] w fun x w' => x = .returned (S.ans e).val ∧ Gmw KR.1 KR.2.1 KR.2.2 p ps pb w fp (mcs (markE e) ps pb) (S.w.does e.client e.session e.request e.oper e.opn e.body).1 w' := by
 have HMK := fun W => rmark_any e hf W
 unfold Ma.ans
 obtain ⟨m2, hm2⟩ : ∃ m2, m2 = markE e := ⟨_, rfl⟩
 rw [← hm2] at HMK ⊢
 clear hm2 hf
 obtain ⟨⟨mo, mv, ms⟩, M⟩ := S
 obtain ⟨o2, v2, s2⟩ := m2
 obtain ⟨view, opn_, under, parent, client, session, request, oper, body⟩ := e
 simp only at hs
 have HV := fun W fq (hk : Gm KR.1 KR.2.1 KR.2.2 p ps pb (mcs ⟨o2, v2, s2⟩ ps pb) M fq W) => hk.s.elim fun fs hs => rver_any ps fs M.T client session request W hs
 have HL := fun W fq (hk : Gm KR.1 KR.2.1 KR.2.2 p ps pb (mcs ⟨o2, v2, s2⟩ ps pb) M fq W) => hk.s.elim fun fs hs => rlook_any ps fs M.T client W hs
 have HTD := fun W => rtold_any (look M.T client) W
 have hlk : pl M.T client < M.T.length → look M.T client = M.his client := fun q => by unfold look; rw [if_pos q]; rfl
 have hls : looks M.T client = decide (pl M.T client < M.T.length) := rfl
 generalize looks M.T client = lb at *
 generalize look M.T client = x at *
 obtain ⟨xc, xs, xr, xo, xt⟩ := x
 unfold Mw.does
 by_cases h1 : oper = 1
 ·
  rw [if_pos h1]
  by_cases hp : pl M.T client < M.T.length
  ·
   rw [if_pos hp]
   rw [← hlk hp]
   by_cases h0 : xr = 0
   ·
    rw [if_pos h0]
    exact rdoes_told p ps pb view opn_ under parent client session request oper body mo mv ms o2 v2 s2 xc xs xr xo xt lb M fp w h (hid HMK) (hid HL) (hid h1) (hid (by rw [hls]; exact decide_eq_true hp)) (hid h0) (hid HTD)
   ·
    rw [if_neg h0]
    exact rdoes_none p ps pb view opn_ under parent client session request oper body mo mv ms o2 v2 s2 xc xs xr xo xt lb M fp w h (hid HMK) (hid HL) (hid h1) (hid (by rw [hls]; exact decide_eq_true hp)) (hid h0)
  ·
   rw [if_neg hp]
   exact rdoes_open p ps pb view opn_ under parent client session request oper body mo mv ms o2 v2 s2 xc xs xr xo xt lb M ⟨opn M.T client opn_, M.B⟩ (opnL M.T client opn_) (opnE M.T client opn_) fp w h (hid HMK) (hid HL) (hid h1) (hid (by rw [hls]; exact decide_eq_false hp))
    (hid fun W fq hk => (Gmw.start hk).call_s (fun fs hs => ropn_any ps fs M.T client opn_ W hs))
 rw [if_neg h1]
 by_cases v5 : ver M.T client session request = 5
 ·
  rw [if_pos v5]
  rw [v5] at HV
  exact rdoes_gone p ps pb view opn_ under parent client session request oper body mo mv ms o2 v2 s2 xc xs xr xo xt lb M fp w h (hid HMK) (hid HL) (hid h1) (hid HV)
 rw [if_neg v5]
 by_cases v1 : ver M.T client session request = 1
 ·
  rw [if_pos v1]
  rw [v1] at HV
  exact rdoes_fresh p ps pb view opn_ under parent client session request oper body mo mv ms o2 v2 s2 xc xs xr xo xt lb M ⟨M.T, (M.B.doo oper (sb body)).1⟩ _ (M.ans oper body) (notE M.T client request opn_ (M.ans oper body)) fp w h (hid HMK) (hid HL) (hid h1) (hid HV)
   (hid fun W fq hk => (Gmw.start hk).call_b (fun fb hb => rdo_any pb fb M.B body W hs hb oper))
   (hid fun W fq hk => (Gmw.start hk).call_s (fun fs hs => rnot_any ps fs M.T client request opn_ (M.ans oper body) W hs))
 rw [if_neg v1]
 by_cases v2' : ver M.T client session request = 2
 ·
  rw [if_pos v2']
  rw [v2'] at HV
  have hp : pl M.T client < M.T.length := (ver_here (T := M.T) (c := client) (s := session) (r := request) (by rw [v2']; decide)).1
  rw [← hlk hp]
  exact rdoes_again p ps pb view opn_ under parent client session request oper body mo mv ms o2 v2 s2 xc xs xr xo xt lb M fp w h (hid HMK) (hid HL) (hid h1) (hid HV) (hid HTD)
 rw [if_neg v2']
 exact rdoes_else p ps pb view opn_ under parent client session request oper body mo mv ms o2 v2 s2 xc xs xr xo xt lb M (ver M.T client session request) fp w h (hid HMK) (hid HL) (hid h1) (hid (beq_eq_false_iff_ne.2 v1)) (hid (beq_eq_false_iff_ne.2 v2')) (hid (beq_eq_false_iff_ne.2 v5)) (hid HV)
theorem rapp_form (p ps pb : Nat) (view opn under : Int) (parent : Nat) (client session request oper : Int) (body : ByteArray) (mo mv : Int) (ms : Nat) (M : Mw) (fp : List Nat) (w : World) (h : Gm KR.1 KR.2.1 KR.2.2 p ps pb [.int .i64 mo, .int .i64 mv, .int .u64 (ms : Int), .pointer (some ⟨ps, 0, none⟩), .pointer (some ⟨pb, 0, none⟩)] M fp w)
  (HR : Hid (∀ W, Calls Tryz.prog 31 #[.agg #[.int .i64 view, .int .i64 opn, .int .i64 under, .int .u64 (parent : Int), .int .i64 client, .int .i64 session, .int .i64 request, .int .i64 oper, .string body]] W (VE W (.bool false)))) :
  Calls Tryz.prog 9 #[.pointer (some ⟨p, 0, none⟩), .agg #[.int .i64 view, .int .i64 opn, .int .i64 under, .int .u64 (parent : Int), .int .i64 client, .int .i64 session, .int .i64 request, .int .i64 oper, .string body]] w fun e w' => e = .returned (.tuple #[.agg #[.int .i64 0, .int .i64 0, .int .i64 0, .int .i64 0, .int .i64 0, .string ⟨#[]⟩], .int .i64 4]) ∧ Gmw KR.1 KR.2.1 KR.2.2 p ps pb w fp [.int .i64 mo, .int .i64 mv, .int .u64 (ms : Int), .pointer (some ⟨ps, 0, none⟩), .pointer (some ⟨pb, 0, none⟩)] M w' := by
 have HB0 : Hid (Below w.heap.size w ((w.alloc (.cells #[.int .i64 view, .int .i64 opn, .int .i64 under, .int .u64 (parent : Int), .int .i64 client, .int .i64 session, .int .i64 request, .int .i64 oper, .string body] 31)).alloc (.cells #[.int .i64 0, .int .i64 0, .int .i64 0, .int .i64 0, .int .i64 0, .string ⟨#[]⟩] 33))) := hid (((Below.refl w.heap.size w).alloc (Nat.le_refl _) _).alloc (by simp) _)
 have HE0 : Hid (Row ((w.alloc (.cells #[.int .i64 view, .int .i64 opn, .int .i64 under, .int .u64 (parent : Int), .int .i64 client, .int .i64 session, .int .i64 request, .int .i64 oper, .string body] 31)).alloc (.cells #[.int .i64 0, .int .i64 0, .int .i64 0, .int .i64 0, .int .i64 0, .string ⟨#[]⟩] 33)) w.heap.size 31 (#[.int .i64 view, .int .i64 opn, .int .i64 under, .int .u64 (parent : Int), .int .i64 client, .int .i64 session, .int .i64 request, .int .i64 oper, .string body] : Array Value).toList) := hid ((Row.new _ _ _).alloc _)
 have HA0 : Hid (Row ((w.alloc (.cells #[.int .i64 view, .int .i64 opn, .int .i64 under, .int .u64 (parent : Int), .int .i64 client, .int .i64 session, .int .i64 request, .int .i64 oper, .string body] 31)).alloc (.cells #[.int .i64 0, .int .i64 0, .int .i64 0, .int .i64 0, .int .i64 0, .string ⟨#[]⟩] 33)) (w.heap.size + 1) 33 (#[.int .i64 0, .int .i64 0, .int .i64 0, .int .i64 0, .int .i64 0, .string ⟨#[]⟩] : Array Value).toList) := hid (by
  have := Row.new (w.alloc (.cells #[.int .i64 view, .int .i64 opn, .int .i64 under, .int .u64 (parent : Int), .int .i64 client, .int .i64 session, .int .i64 request, .int .i64 oper, .string body] 31)) 33 #[.int .i64 0, .int .i64 0, .int .i64 0, .int .i64 0, .int .i64 0, .string ⟨#[]⟩]
  simpa using this)
 have HSZ : Hid (((w.alloc (.cells #[.int .i64 view, .int .i64 opn, .int .i64 under, .int .u64 (parent : Int), .int .i64 client, .int .i64 session, .int .i64 request, .int .i64 oper, .string body] 31)).alloc (.cells #[.int .i64 0, .int .i64 0, .int .i64 0, .int .i64 0, .int .i64 0, .string ⟨#[]⟩] 33)).heap.size = w.heap.size + 2) := hid (by simp)
 have HG0 := hid (Gmw.start (h.below HB0.out))
 have HZ := hid asize
 have HZE := hid esize
 have HZM := hid msize
 have HH := hid h
 have HLT := hid (show w.heap.size ∉ fp from fun q => by have := h.lt _ q; omega)
 have HLT1 := hid (show (w.heap.size + 1) ∉ fp from fun q => by have := h.lt _ q; omega)
 clear h
 go_enter Tryz.func9, Tryz.ntmps9
 go_wp2_with (first
  | (refine wpList_load_row rfl 31 (.tmp 3) rfl w.heap.size rfl 31 #[.int .i64 view, .int .i64 opn, .int .i64 under, .int .u64 (parent : Int), .int .i64 client, .int .i64 session, .int .i64 request, .int .i64 oper, .string body] (0, 0) _ HE0.out.arr Tryz.underlying31 rfl HZE.out ?_)
  | (go_at_call 31; refine (HR.out _).mono ?_; rintro e w1 ⟨rfl, hb⟩; have HGW := hid (HG0.out.below hb); clear hb)
  | (refine wpl_store_st rfl (.tmp 4) (.tmp 9) rfl HZ.out (w.heap.size + 1) an0.cells.toList (#[.int .i64 0, .int .i64 0, .int .i64 0, .int .i64 0, .int .i64 0, .string ⟨#[]⟩] : Array Value).toList rfl rfl (HGW.out.frame.row HA0.out HLT1.out) ?_ (hid rfl) (hid rfl) (hid rfl); intro w5 hr5 hg5))
 refine bodyPost_ret (v := .tuple #[.agg #[.int .i64 0, .int .i64 0, .int .i64 0, .int .i64 0, .int .i64 0, .string ⟨#[]⟩], .int .i64 4])
  (results_cell1 rfl _ _ (w.heap.size + 1) 33 #[.int .i64 0, .int .i64 0, .int .i64 0, .int .i64 0, .int .i64 0, .string ⟨#[]⟩] (0, 0) _ (.int .i64 4) rfl rfl hr5.arr' Tryz.underlying33 rfl HZ.out) rfl ⟨rfl, Gmw.leave HH.out HB0.out HGW.out hg5 (by omega) (by have := HSZ.out; omega)⟩
theorem rapp_order (p ps pb : Nat) (view opn under : Int) (parent : Nat) (client session request oper : Int) (body : ByteArray) (mo mv : Int) (ms : Nat) (M : Mw) (fp : List Nat) (w : World) (h : Gm KR.1 KR.2.1 KR.2.2 p ps pb [.int .i64 mo, .int .i64 mv, .int .u64 (ms : Int), .pointer (some ⟨ps, 0, none⟩), .pointer (some ⟨pb, 0, none⟩)] M fp w)
  (HR : Hid (∀ W, Calls Tryz.prog 31 #[.agg #[.int .i64 view, .int .i64 opn, .int .i64 under, .int .u64 (parent : Int), .int .i64 client, .int .i64 session, .int .i64 request, .int .i64 oper, .string body]] W (VE W (.bool true))))
  (HF : Hid (∀ W, Calls Tryz.prog 32 #[.agg #[.int .i64 mo, .int .i64 mv, .int .u64 (ms : Int)], .agg #[.int .i64 view, .int .i64 opn, .int .i64 under, .int .u64 (parent : Int), .int .i64 client, .int .i64 session, .int .i64 request, .int .i64 oper, .string body]] W (VE W (.bool false)))) :
  Calls Tryz.prog 9 #[.pointer (some ⟨p, 0, none⟩), .agg #[.int .i64 view, .int .i64 opn, .int .i64 under, .int .u64 (parent : Int), .int .i64 client, .int .i64 session, .int .i64 request, .int .i64 oper, .string body]] w fun e w' => e = .returned (.tuple #[.agg #[.int .i64 0, .int .i64 0, .int .i64 0, .int .i64 0, .int .i64 0, .string ⟨#[]⟩], .int .i64 12]) ∧ Gmw KR.1 KR.2.1 KR.2.2 p ps pb w fp [.int .i64 mo, .int .i64 mv, .int .u64 (ms : Int), .pointer (some ⟨ps, 0, none⟩), .pointer (some ⟨pb, 0, none⟩)] M w' := by
 have HB0 : Hid (Below w.heap.size w ((w.alloc (.cells #[.int .i64 view, .int .i64 opn, .int .i64 under, .int .u64 (parent : Int), .int .i64 client, .int .i64 session, .int .i64 request, .int .i64 oper, .string body] 31)).alloc (.cells #[.int .i64 0, .int .i64 0, .int .i64 0, .int .i64 0, .int .i64 0, .string ⟨#[]⟩] 33))) := hid (((Below.refl w.heap.size w).alloc (Nat.le_refl _) _).alloc (by simp) _)
 have HE0 : Hid (Row ((w.alloc (.cells #[.int .i64 view, .int .i64 opn, .int .i64 under, .int .u64 (parent : Int), .int .i64 client, .int .i64 session, .int .i64 request, .int .i64 oper, .string body] 31)).alloc (.cells #[.int .i64 0, .int .i64 0, .int .i64 0, .int .i64 0, .int .i64 0, .string ⟨#[]⟩] 33)) w.heap.size 31 (#[.int .i64 view, .int .i64 opn, .int .i64 under, .int .u64 (parent : Int), .int .i64 client, .int .i64 session, .int .i64 request, .int .i64 oper, .string body] : Array Value).toList) := hid ((Row.new _ _ _).alloc _)
 have HA0 : Hid (Row ((w.alloc (.cells #[.int .i64 view, .int .i64 opn, .int .i64 under, .int .u64 (parent : Int), .int .i64 client, .int .i64 session, .int .i64 request, .int .i64 oper, .string body] 31)).alloc (.cells #[.int .i64 0, .int .i64 0, .int .i64 0, .int .i64 0, .int .i64 0, .string ⟨#[]⟩] 33)) (w.heap.size + 1) 33 (#[.int .i64 0, .int .i64 0, .int .i64 0, .int .i64 0, .int .i64 0, .string ⟨#[]⟩] : Array Value).toList) := hid (by
  have := Row.new (w.alloc (.cells #[.int .i64 view, .int .i64 opn, .int .i64 under, .int .u64 (parent : Int), .int .i64 client, .int .i64 session, .int .i64 request, .int .i64 oper, .string body] 31)) 33 #[.int .i64 0, .int .i64 0, .int .i64 0, .int .i64 0, .int .i64 0, .string ⟨#[]⟩]
  simpa using this)
 have HSZ : Hid (((w.alloc (.cells #[.int .i64 view, .int .i64 opn, .int .i64 under, .int .u64 (parent : Int), .int .i64 client, .int .i64 session, .int .i64 request, .int .i64 oper, .string body] 31)).alloc (.cells #[.int .i64 0, .int .i64 0, .int .i64 0, .int .i64 0, .int .i64 0, .string ⟨#[]⟩] 33)).heap.size = w.heap.size + 2) := hid (by simp)
 have HG0 := hid (Gmw.start (h.below HB0.out))
 have HZ := hid asize
 have HZE := hid esize
 have HZM := hid msize
 have HH := hid h
 have HLT := hid (show w.heap.size ∉ fp from fun q => by have := h.lt _ q; omega)
 have HLT1 := hid (show (w.heap.size + 1) ∉ fp from fun q => by have := h.lt _ q; omega)
 clear h
 go_enter Tryz.func9, Tryz.ntmps9
 go_wp2_with (first
  | (refine wpList_load_row rfl 31 (.tmp 3) rfl w.heap.size rfl 31 #[.int .i64 view, .int .i64 opn, .int .i64 under, .int .u64 (parent : Int), .int .i64 client, .int .i64 session, .int .i64 request, .int .i64 oper, .string body] (0, 0) _ HE0.out.arr Tryz.underlying31 rfl HZE.out ?_)
  | (go_at_call 31; refine (HR.out _).mono ?_; rintro e w1 ⟨rfl, hb⟩; have HGW := hid (HG0.out.below hb); clear hb))
 try simp only [Act.put]
 refine wp_region_held_drew (S := fun W => Below w1.heap.size w1 W) (by kernel_rfl) ((Below.refl _ _).drew) (fun hH => ?_)
 refine tk_ (i := 0) (v := .pointer (some ⟨p, 0, none⟩)) rfl (Or.inl ⟨by kernel_rfl, fun w' hw' => by clear hw'; go_simp⟩) hH ?_
 simp only [Act.put]
 refine tk_ (i := 1) (v := .pointer (some ⟨p, 0, none⟩)) rfl (Or.inl ⟨by kernel_rfl, fun w' hw' => by clear hw'; go_simp⟩) hH ?_
 simp only [Act.put]
 refine tk_ (i := 2) (v := .pointer (some ⟨p, 0, none⟩)) rfl (Or.inl ⟨by kernel_rfl, fun w' hw' => by clear hw'; go_simp⟩) hH ?_
 simp only [Act.put]
 refine tk_ (i := 3) (v := .agg #[.int .i64 mo, .int .i64 mv, .int .u64 (ms : Int)]) rfl ?_ hH ?_
 ·
  refine yieldsIf_load_mid ?_ 41 (.tmp 12) ?_ p 0 ?_ [.int .i64 mo, .int .i64 mv, .int .u64 (ms : Int)] _ (fun W hW => Row.pre (xs := [.int .i64 mo, .int .i64 mv, .int .u64 (ms : Int)]) (ys := [.pointer (some ⟨ps, 0, none⟩), .pointer (some ⟨pb, 0, none⟩)]) (HGW.out.below hW).row) Tryz.underlying41 rfl HZM.out
  all_goals kernel_rfl
 simp only [Act.put]
 refine tk_ (i := 4) (v := .agg #[.int .i64 view, .int .i64 opn, .int .i64 under, .int .u64 (parent : Int), .int .i64 client, .int .i64 session, .int .i64 request, .int .i64 oper, .string body]) rfl ?_ hH ?_
 ·
  refine yieldsIf_load_mid ?_ 31 (.tmp 3) ?_ w.heap.size 0 ?_ (#[.int .i64 view, .int .i64 opn, .int .i64 under, .int .u64 (parent : Int), .int .i64 client, .int .i64 session, .int .i64 request, .int .i64 oper, .string body] : Array Value).toList _ (fun W hW => Row.range0 ((HGW.out.below hW).frame.row HE0.out HLT.out)) Tryz.underlying31 rfl HZE.out
  all_goals kernel_rfl
 simp only [Act.put]
 refine rd1 (i := 5) (by kernel_rfl) rfl (fun K hK => ?_)
 rw [if_pos (by kernel_rfl)]
 go_simp
 go_at_call 32
 refine (HF.out _).mono ?_
 rintro e w2 ⟨rfl, hb⟩
 have hH3 := hH.trans (Below.mono hb hH.size)
 clear hb
 go_wp2_with fail
 refine hK.out _ _ hH3 (fun hH => ?_)
 clear hH3
 clear hK K
 try simp only [Act.put]
 refine rd1 (i := 6) (by kernel_rfl) rfl (fun K hK => ?_)
 rw [if_pos (by kernel_rfl)]
 go_simp
 refine hK.out _ _ hH (fun hH => ?_)
 clear hK K
 try simp only [Act.put]
 refine wpAnyH_done (by kernel_rfl) ?_ _
 try simp only [Act.put]
 replace HGW := hid (HGW.out.below hH)
 go_wp2_with (refine wpl_store_st rfl (.tmp 4) (.tmp 17) rfl HZ.out (w.heap.size + 1) an0.cells.toList (#[.int .i64 0, .int .i64 0, .int .i64 0, .int .i64 0, .int .i64 0, .string ⟨#[]⟩] : Array Value).toList rfl rfl (HGW.out.frame.row HA0.out HLT1.out) ?_ (hid rfl) (hid rfl) (hid rfl); intro w5 hr5 hg5)
 refine bodyPost_ret (v := .tuple #[.agg #[.int .i64 0, .int .i64 0, .int .i64 0, .int .i64 0, .int .i64 0, .string ⟨#[]⟩], .int .i64 12])
  (results_cell1 rfl _ _ (w.heap.size + 1) 33 #[.int .i64 0, .int .i64 0, .int .i64 0, .int .i64 0, .int .i64 0, .string ⟨#[]⟩] (0, 0) _ (.int .i64 12) rfl rfl hr5.arr' Tryz.underlying33 rfl HZ.out) rfl ⟨rfl, Gmw.leave HH.out HB0.out HGW.out hg5 (by omega) (by have := HSZ.out; omega)⟩
theorem rapp_ok (p ps pb : Nat) (view opn under : Int) (parent : Nat) (client session request oper : Int) (body : ByteArray) (mo mv : Int) (ms : Nat) (o2 v2 : Int) (s2 : Nat) (AX : Array Value) (HA6 : Hid (AX.size = 6)) (HA1 : Hid (AX.all (·.oneCell') = true)) (M M2 : Mw) (fp : List Nat) (w : World) (h : Gm KR.1 KR.2.1 KR.2.2 p ps pb [.int .i64 mo, .int .i64 mv, .int .u64 (ms : Int), .pointer (some ⟨ps, 0, none⟩), .pointer (some ⟨pb, 0, none⟩)] M fp w)
  (HR : Hid (∀ W, Calls Tryz.prog 31 #[.agg #[.int .i64 view, .int .i64 opn, .int .i64 under, .int .u64 (parent : Int), .int .i64 client, .int .i64 session, .int .i64 request, .int .i64 oper, .string body]] W (VE W (.bool true))))
  (HF : Hid (∀ W, Calls Tryz.prog 32 #[.agg #[.int .i64 mo, .int .i64 mv, .int .u64 (ms : Int)], .agg #[.int .i64 view, .int .i64 opn, .int .i64 under, .int .u64 (parent : Int), .int .i64 client, .int .i64 session, .int .i64 request, .int .i64 oper, .string body]] W (VE W (.bool true))))
  (HD : Hid (∀ (W : World) fq, Gm KR.1 KR.2.1 KR.2.2 p ps pb [.int .i64 mo, .int .i64 mv, .int .u64 (ms : Int), .pointer (some ⟨ps, 0, none⟩), .pointer (some ⟨pb, 0, none⟩)] M fq W → Calls Tryz.prog 33 #[.pointer (some ⟨p, 0, none⟩), .agg #[.int .i64 view, .int .i64 opn, .int .i64 under, .int .u64 (parent : Int), .int .i64 client, .int .i64 session, .int .i64 request, .int .i64 oper, .string body]] W fun e w' => e = .returned (.agg AX) ∧ Gmw KR.1 KR.2.1 KR.2.2 p ps pb W fq [.int .i64 o2, .int .i64 v2, .int .u64 (s2 : Int), .pointer (some ⟨ps, 0, none⟩), .pointer (some ⟨pb, 0, none⟩)] M2 w')) :
  Calls Tryz.prog 9 #[.pointer (some ⟨p, 0, none⟩), .agg #[.int .i64 view, .int .i64 opn, .int .i64 under, .int .u64 (parent : Int), .int .i64 client, .int .i64 session, .int .i64 request, .int .i64 oper, .string body]] w fun e w' => e = .returned (.tuple #[.agg AX, .int .i64 0]) ∧ Gmw KR.1 KR.2.1 KR.2.2 p ps pb w fp [.int .i64 o2, .int .i64 v2, .int .u64 (s2 : Int), .pointer (some ⟨ps, 0, none⟩), .pointer (some ⟨pb, 0, none⟩)] M2 w' := by
 have HB0 : Hid (Below w.heap.size w ((w.alloc (.cells #[.int .i64 view, .int .i64 opn, .int .i64 under, .int .u64 (parent : Int), .int .i64 client, .int .i64 session, .int .i64 request, .int .i64 oper, .string body] 31)).alloc (.cells #[.int .i64 0, .int .i64 0, .int .i64 0, .int .i64 0, .int .i64 0, .string ⟨#[]⟩] 33))) := hid (((Below.refl w.heap.size w).alloc (Nat.le_refl _) _).alloc (by simp) _)
 have HE0 : Hid (Row ((w.alloc (.cells #[.int .i64 view, .int .i64 opn, .int .i64 under, .int .u64 (parent : Int), .int .i64 client, .int .i64 session, .int .i64 request, .int .i64 oper, .string body] 31)).alloc (.cells #[.int .i64 0, .int .i64 0, .int .i64 0, .int .i64 0, .int .i64 0, .string ⟨#[]⟩] 33)) w.heap.size 31 (#[.int .i64 view, .int .i64 opn, .int .i64 under, .int .u64 (parent : Int), .int .i64 client, .int .i64 session, .int .i64 request, .int .i64 oper, .string body] : Array Value).toList) := hid ((Row.new _ _ _).alloc _)
 have HA0 : Hid (Row ((w.alloc (.cells #[.int .i64 view, .int .i64 opn, .int .i64 under, .int .u64 (parent : Int), .int .i64 client, .int .i64 session, .int .i64 request, .int .i64 oper, .string body] 31)).alloc (.cells #[.int .i64 0, .int .i64 0, .int .i64 0, .int .i64 0, .int .i64 0, .string ⟨#[]⟩] 33)) (w.heap.size + 1) 33 (#[.int .i64 0, .int .i64 0, .int .i64 0, .int .i64 0, .int .i64 0, .string ⟨#[]⟩] : Array Value).toList) := hid (by
  have := Row.new (w.alloc (.cells #[.int .i64 view, .int .i64 opn, .int .i64 under, .int .u64 (parent : Int), .int .i64 client, .int .i64 session, .int .i64 request, .int .i64 oper, .string body] 31)) 33 #[.int .i64 0, .int .i64 0, .int .i64 0, .int .i64 0, .int .i64 0, .string ⟨#[]⟩]
  simpa using this)
 have HSZ : Hid (((w.alloc (.cells #[.int .i64 view, .int .i64 opn, .int .i64 under, .int .u64 (parent : Int), .int .i64 client, .int .i64 session, .int .i64 request, .int .i64 oper, .string body] 31)).alloc (.cells #[.int .i64 0, .int .i64 0, .int .i64 0, .int .i64 0, .int .i64 0, .string ⟨#[]⟩] 33)).heap.size = w.heap.size + 2) := hid (by simp)
 have HG0 := hid (Gmw.start (h.below HB0.out))
 have HZ := hid asize
 have HZE := hid esize
 have HZM := hid msize
 have HH := hid h
 have HLT := hid (show w.heap.size ∉ fp from fun q => by have := h.lt _ q; omega)
 have HLT1 := hid (show (w.heap.size + 1) ∉ fp from fun q => by have := h.lt _ q; omega)
 clear h
 go_enter Tryz.func9, Tryz.ntmps9
 go_wp2_with (first
  | (refine wpList_load_row rfl 31 (.tmp 3) rfl w.heap.size rfl 31 #[.int .i64 view, .int .i64 opn, .int .i64 under, .int .u64 (parent : Int), .int .i64 client, .int .i64 session, .int .i64 request, .int .i64 oper, .string body] (0, 0) _ HE0.out.arr Tryz.underlying31 rfl HZE.out ?_)
  | (go_at_call 31; refine (HR.out _).mono ?_; rintro e w1 ⟨rfl, hb⟩; have HGW := hid (HG0.out.below hb); clear hb))
 try simp only [Act.put]
 refine wp_region_held_drew (S := fun W => Below w1.heap.size w1 W) (by kernel_rfl) ((Below.refl _ _).drew) (fun hH => ?_)
 refine tk_ (i := 0) (v := .pointer (some ⟨p, 0, none⟩)) rfl (Or.inl ⟨by kernel_rfl, fun w' hw' => by clear hw'; go_simp⟩) hH ?_
 simp only [Act.put]
 refine tk_ (i := 1) (v := .pointer (some ⟨p, 0, none⟩)) rfl (Or.inl ⟨by kernel_rfl, fun w' hw' => by clear hw'; go_simp⟩) hH ?_
 simp only [Act.put]
 refine tk_ (i := 2) (v := .pointer (some ⟨p, 0, none⟩)) rfl (Or.inl ⟨by kernel_rfl, fun w' hw' => by clear hw'; go_simp⟩) hH ?_
 simp only [Act.put]
 refine tk_ (i := 3) (v := .agg #[.int .i64 mo, .int .i64 mv, .int .u64 (ms : Int)]) rfl ?_ hH ?_
 ·
  refine yieldsIf_load_mid ?_ 41 (.tmp 12) ?_ p 0 ?_ [.int .i64 mo, .int .i64 mv, .int .u64 (ms : Int)] _ (fun W hW => Row.pre (xs := [.int .i64 mo, .int .i64 mv, .int .u64 (ms : Int)]) (ys := [.pointer (some ⟨ps, 0, none⟩), .pointer (some ⟨pb, 0, none⟩)]) (HGW.out.below hW).row) Tryz.underlying41 rfl HZM.out
  all_goals kernel_rfl
 simp only [Act.put]
 refine tk_ (i := 4) (v := .agg #[.int .i64 view, .int .i64 opn, .int .i64 under, .int .u64 (parent : Int), .int .i64 client, .int .i64 session, .int .i64 request, .int .i64 oper, .string body]) rfl ?_ hH ?_
 ·
  refine yieldsIf_load_mid ?_ 31 (.tmp 3) ?_ w.heap.size 0 ?_ (#[.int .i64 view, .int .i64 opn, .int .i64 under, .int .u64 (parent : Int), .int .i64 client, .int .i64 session, .int .i64 request, .int .i64 oper, .string body] : Array Value).toList _ (fun W hW => Row.range0 ((HGW.out.below hW).frame.row HE0.out HLT.out)) Tryz.underlying31 rfl HZE.out
  all_goals kernel_rfl
 simp only [Act.put]
 refine rd1 (i := 5) (by kernel_rfl) rfl (fun K hK => ?_)
 rw [if_pos (by kernel_rfl)]
 go_simp
 go_at_call 32
 refine (HF.out _).mono ?_
 rintro e w2 ⟨rfl, hb⟩
 have hH3 := hH.trans (Below.mono hb hH.size)
 clear hb
 go_wp2_with fail
 refine hK.out _ _ hH3 (fun hH => ?_)
 clear hH3
 clear hK K
 try simp only [Act.put]
 refine rd1 (i := 6) (by kernel_rfl) rfl (fun K hK => ?_)
 rw [if_pos (by kernel_rfl)]
 go_simp
 refine hK.out _ _ hH (fun hH => ?_)
 clear hK K
 try simp only [Act.put]
 refine wpAnyH_done (by kernel_rfl) ?_ _
 try simp only [Act.put]
 replace HGW := hid (HGW.out.below hH)
 go_wp2_with (first
  | (refine wpList_load_row rfl 31 (.tmp 3) rfl w.heap.size rfl 31 #[.int .i64 view, .int .i64 opn, .int .i64 under, .int .u64 (parent : Int), .int .i64 client, .int .i64 session, .int .i64 request, .int .i64 oper, .string body] (0, 0) _ (HGW.out.frame.row HE0.out HLT.out).arr Tryz.underlying31 rfl HZE.out ?_)
  | (go_at_call 33; refine (HGW.out.callG (fun fq hk => HD.out _ fq hk)).mono ?_; rintro e w4 ⟨rfl, hgw⟩; replace HGW := hid hgw; clear hgw)
  | (refine wpl_store_st9 rfl (.tmp 4) (.tmp 20) rfl HZ.out (w.heap.size + 1) an0.cells AX rfl rfl (HGW.out.frame.row HA0.out HLT1.out) ?_ (hid rfl) (hid HA6.out) (hid HA1.out); intro w5 hr5 hg5))
 refine bodyPost_ret (v := .tuple #[.agg AX, .int .i64 0])
  (results_cell1 rfl _ _ (w.heap.size + 1) 33 AX (0, 0) _ (.int .i64 0) rfl rfl hr5.arr Tryz.underlying33 rfl (by rw [HA6.out]; exact HZ.out)) rfl ⟨rfl, Gmw.leave HH.out HB0.out HGW.out hg5 (by omega) (by have := HSZ.out; omega)⟩
theorem rmapp_any (p : Nat) (S : Ma) (fp : List Nat) (e : En) (w : World) (he : e.fits) (hs : e.body.size ≤ 140737488355328) (h : Hm KR p S fp w) :
  Calls Tryz.prog 9 #[.pointer (some ⟨p, 0, none⟩), e.val] w fun x w' => x = .returned (.tuple #[(S.appA e).val, .int .i64 (S.appE e)]) ∧ Hmw KR p w fp (S.app e) w' := by
 have HR := fun W => rright9_any e W
 have HF := fun W => rfol_any S.m e W
 obtain ⟨ps, pb, h⟩ := h
 have HD := fun W fq hk => rdoes_gm p ps pb S fq e W he hs hk
 unfold Ma.appA Ma.appE Ma.app
 unfold Ma.appE
 by_cases hr : Rt e
 ·
  rw [decide_eq_true hr] at HR
  by_cases hl : Fol S.m e
  ·
   rw [decide_eq_true hl] at HF
   have e0 : (if ¬ Rt e then (4 : Int) else if ¬ Fol S.m e then 12 else 0) = 0 := by rw [if_neg (fun q => q hr), if_neg (fun q => q hl)]
   rw [e0, if_pos rfl, if_pos rfl]
   have HA1 := (S.ans e).one
   have HA6 : (S.ans e).cells.size = 6 := rfl
   unfold Ma.run An.val at *
   generalize (S.ans e).cells = AX at *
   generalize (S.w.does e.client e.session e.request e.oper e.opn e.body).1 = Mx at *
   generalize markE e = m2 at *
   obtain ⟨o2, v2, s2⟩ := m2
   obtain ⟨⟨mo, mv, ms⟩, M⟩ := S
   obtain ⟨view, opn_, under, parent, client, session, request, oper, body⟩ := e
   exact (rapp_ok p ps pb view opn_ under parent client session request oper body mo mv ms o2 v2 s2 AX (hid HA6) (hid HA1) M Mx fp w h (hid HR) (hid HF) (hid HD)).mono fun x w' hh => ⟨hh.1, Hmw.of (S := ⟨⟨o2, v2, s2⟩, Mx⟩) hh.2⟩
  ·
   rw [decide_eq_false hl] at HF
   have e0 : (if ¬ Rt e then (4 : Int) else if ¬ Fol S.m e then 12 else 0) = 12 := by rw [if_neg (fun q => q hr), if_pos hl]
   rw [e0, if_neg (by decide), if_neg (by decide)]
   obtain ⟨⟨mo, mv, ms⟩, M⟩ := S
   obtain ⟨view, opn_, under, parent, client, session, request, oper, body⟩ := e
   exact (rapp_order p ps pb view opn_ under parent client session request oper body mo mv ms M fp w h (hid HR) (hid HF)).mono fun x w' hh => ⟨hh.1, Hmw.of (S := ⟨⟨mo, mv, ms⟩, M⟩) hh.2⟩
 ·
  rw [decide_eq_false hr] at HR
  have e0 : (if ¬ Rt e then (4 : Int) else if ¬ Fol S.m e then 12 else 0) = 4 := by rw [if_pos hr]
  rw [e0, if_neg (by decide), if_neg (by decide)]
  obtain ⟨⟨mo, mv, ms⟩, M⟩ := S
  obtain ⟨view, opn_, under, parent, client, session, request, oper, body⟩ := e
  exact (rapp_form p ps pb view opn_ under parent client session request oper body mo mv ms M fp w h (hid HR)).mono fun x w' hh => ⟨hh.1, Hmw.of (S := ⟨⟨mo, mv, ms⟩, M⟩) hh.2⟩
end Go.Proofs.YtgednnjmcjhfmaaGreatDoor
