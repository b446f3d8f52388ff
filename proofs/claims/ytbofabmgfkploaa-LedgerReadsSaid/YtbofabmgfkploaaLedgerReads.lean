/-
  The statement LedgerReads holds for every input, without conditions: questions change nothing, and tell what is there.
-/
import Derived.Test.YtbofabmgfkploaaRun
import Derived.Test.YtbofabmgfkploaaRdo
section
namespace Go.Proofs.Ytbofabmgfkploaa
open Go.RowKit
set_option maxRecDepth 10000

theorem runL_same {α : Type} (f : Lg → α → Lg × List UInt8) (hf : ∀ S x, (f S x).1 = S) (S : Lg) (l : List α) : (runL f S l).1 = S := by
  have key : ∀ (l : List α) (r : Lg × List UInt8), (l.foldl (fun r x => ((f r.1 x).1, r.2 ++ (f r.1 x).2)) r).1 = r.1 := by
    intro l
    induction l with
    | nil => intro r; rfl
    | cons x t ih => intro r; rw [List.foldl_cons, ih]; exact hf _ _
  exact key l (S, [0])
theorem doo_4 (S : Lg) (s : List UInt8) : (S.doo 4 s).1 = S := by
  unfold Lg.doo
  rw [if_neg (by decide), if_neg (by decide), if_pos rfl]
  unfold eachL
  split
  · exact runL_same tela (fun _ _ => rfl) S _
  · rfl
theorem doo_5 (S : Lg) (s : List UInt8) : (S.doo 5 s).1 = S := by
  unfold Lg.doo
  rw [if_neg (by decide), if_neg (by decide), if_neg (by decide), if_pos rfl]
  unfold eachL
  split
  · exact runL_same telt (fun _ _ => rfl) S _
  · rfl
theorem puti_some (l : List Nat) (h0 : 0 < l.length) (h4 : l.length ≤ 4) : ∃ bs, putL idB l = (bs, 0) ∧ bs.length ≤ 1000 := by
  refine ⟨l.flatMap (fun x => (idB x).getD []), ?_, ?_⟩
  · unfold putL
    have h2 : (l.all fun x => (idB x).isSome) = true := List.all_eq_true.2 fun x _ => rfl
    rw [if_neg (by omega), if_pos h2]
  · have := pre_len idB l 8 (fun x => Nat.le_of_eq (idB_len x)) l.length
    unfold pre at this
    rw [List.take_of_length_le (Nat.le_refl _)] at this
    omega

set_option maxHeartbeats 1000000 in
theorem reads_none (A : Option Addr) (n c : Nat) (A1 : Option Addr) (l : List Nat) (n1 c1 m1 : Nat) (S : Lg) (w : World)
    (HPL : Hid (∀ W : World, Below w.heap.size w W → Calls Try.prog 20 #[.slice A n c] W (NG 63 W S (fun p => .pointer (some ⟨p, 0, none⟩)))))
    (hm1 : m1 = l.length) (hc1 : m1 ≤ c1) (hq1 : min (n1 : Int) 4 = (m1 : Int)) (ho1 : ∀ x ∈ l, U64 x)
    (HR1 : Hid (Rd w w.heap.size A1 (rows Ic l))) (h0 : m1 = 0) : Calls Try.prog 5 #[.slice A n c, .slice A1 n1 c1] w fun e w' => e = .returned (.bool true) ∧ Below w.heap.size w w' := by
  have HAW := hid awake_any
  have HPI := hid (fun W (hW : Below w.heap.size w W) => puti_list A1 l m1 c1 w.heap.size W (HR1.out.below hW (Nat.le_refl _)) hm1 hc1 hW.size ho1)
  have hput : putL idB l = ([], 1) := by
    unfold putL
    rw [if_pos (.inl (by omega))]
  rw [hput] at HPI
  subst h0
  clear hput hm1 ho1 HR1
  go_enter Try.func5, Try.ntmps5
  go_wp2_with (first
    | (go_at_call 10; refine (HAW.out _).mono ?_; rintro e w1 ⟨rfl, hx⟩; have HBB := hid hx; clear hx)
    | (go_at_call 20; refine (HPL.out _ HBB.out).mono ?_; rintro e w2 ⟨p, fp, rfl, hk, hf, hx⟩; have HSK := hid (Sk.mk' HBB.out hk hf hx); clear hx hk hf)
    | (go_at_call 21; refine (HPI.out _ HSK.out.frame).mono ?_; rintro e w3 ⟨rfl, hx⟩; replace HSK := hid (HSK.out.below hx); clear hx))
  go_ret
  exact ⟨rfl, HSK.out.frame⟩

set_option maxHeartbeats 2000000 in
theorem reads_some (A : Option Addr) (n c : Nat) (A1 : Option Addr) (l : List Nat) (n1 c1 m1 : Nat) (S : Lg) (w : World)
    (HPL : Hid (∀ W : World, Below w.heap.size w W → Calls Try.prog 20 #[.slice A n c] W (NG 63 W S (fun p => .pointer (some ⟨p, 0, none⟩)))))
    (hm1 : m1 = l.length) (hc1 : m1 ≤ c1) (hq1 : min (n1 : Int) 4 = (m1 : Int)) (ho1 : ∀ x ∈ l, U64 x)
    (HR1 : Hid (Rd w w.heap.size A1 (rows Ic l))) (hwf : S.WF) (h0 : 0 < m1) (h4 : m1 ≤ 4) : Calls Try.prog 5 #[.slice A n c, .slice A1 n1 c1] w fun e w' => e = .returned (.bool true) ∧ Below w.heap.size w w' := by
  have HAW := hid awake_any
  have HPI := hid (fun W (hW : Below w.heap.size w W) => puti_list A1 l m1 c1 w.heap.size W (HR1.out.below hW (Nat.le_refl _)) hm1 hc1 hW.size ho1)
  obtain ⟨bs, hput, hbl⟩ := puti_some l (by omega) (by omega)
  rw [hput] at HPI
  have hi1 : (m1 : Int) ≤ (c1 : Int) := by omega
  obtain ⟨hu1, hu2⟩ := unpack_pack S hwf
  have hpl : S.pack.length ≤ 1000 := by have := pack_len S hwf; have := hwf.la; have := hwf.lt; omega
  have HU : Hid (∀ W, Calls Try.prog 22 #[.string ⟨S.pack.toArray⟩] W (NG 30 W S (fun p => .tuple #[.pointer (some ⟨p, 0, none⟩), .int .i64 0]))) := hid (fun W => by
    have h := runpack_any ⟨S.pack.toArray⟩ W (by rw [← sb_len, sb_mk]; omega)
    rw [sb_mk] at h
    refine h.mono fun e w' hh => ?_
    have := hh.1 hu1
    rw [hu2] at this
    exact this)
  have HD4 := hid (fun p fp W (hg : Gk 63 p S fp W) => do_any p fp S ⟨bs.toArray⟩ W (by rw [← sb_len, sb_mk]; omega) hg 4)
  have HD5 := hid (fun p fp W (hg : Gk 63 p S fp W) => do_any p fp S ⟨bs.toArray⟩ W (by rw [← sb_len, sb_mk]; omega) hg 5)
  have HE4 := hid (fun p fp W (hg : Gk 30 p S fp W) => rdo_any p fp S ⟨bs.toArray⟩ W (by rw [← sb_len, sb_mk]; omega) hg 4)
  have HE5 := hid (fun p fp W (hg : Gk 30 p S fp W) => rdo_any p fp S ⟨bs.toArray⟩ W (by rw [← sb_len, sb_mk]; omega) hg 5)
  rw [doo_4] at HD4 HE4
  rw [doo_5] at HD5 HE5
  generalize (S.doo 4 (sb ⟨bs.toArray⟩)).2 = ra at *
  generalize (S.doo 5 (sb ⟨bs.toArray⟩)).2 = rb at *
  clear hput hbl hu1 hu2 hpl hwf hm1 ho1 HR1
  have HP1 : Hid True := hid trivial
  go_enter Try.func5, Try.ntmps5
  go_wp2_with (first
    | (go_at_call 10; refine (HAW.out _).mono ?_; rintro e w1 ⟨rfl, hx⟩; have HBB := hid hx; clear hx)
    | (go_at_call 20; refine (HPL.out _ HBB.out).mono ?_; rintro e w2 ⟨p, fp, rfl, hk, hf, hx⟩; have HSK := hid (Sk.mk' HBB.out hk hf hx); clear hx hk hf)
    | (go_at_call 21; refine (HPI.out _ HSK.out.frame).mono ?_; rintro e w3 ⟨rfl, hx⟩; replace HSK := hid (HSK.out.below hx); clear hx)
    | (go_at_call 18; refine (Sk.pack HSK.out).mono ?_; rintro e w4 ⟨rfl, hx⟩; replace HSK := hid (HSK.out.below hx); clear hx)
    | (go_at_call 12; refine (HSK.out.call (fun fp hk => HD4.out p fp _ hk)).mono ?_; rintro e w5 ⟨rfl, hx⟩; replace HSK := hid hx; clear hx HD4)
    | (go_at_call 12; refine (HSK.out.call (fun fp hk => HD5.out p fp _ hk)).mono ?_; rintro e w6 ⟨rfl, hx⟩; replace HSK := hid hx; clear hx HD5)
    | (go_at_call 22; refine (HU.out _).mono ?_; rintro e w7 ⟨q, fq, rfl, hk, hf, hx⟩; have HTK := hid (HSK.out.two hx hk hf); clear hx hk hf HSK)
    | (go_at_call 18; refine (Sk.pack HTK.out.fst).mono ?_; rintro e w8 ⟨rfl, hx⟩; replace HTK := hid (HTK.out.below hx); clear hx)
    | (go_at_call 13; refine (HTK.out.call2 (fun fp hk => HE4.out q fp _ hk)).mono ?_; rintro e w9 ⟨rfl, hx⟩; replace HTK := hid hx; clear hx HE4)
    | (go_at_call 13; refine (HTK.out.call2 (fun fp hk => HE5.out q fp _ hk)).mono ?_; rintro e w10 ⟨rfl, hx⟩; replace HTK := hid hx; clear hx HE5))
  go_ret
  exact ⟨rfl, HTK.out.frame⟩
theorem reads_any (A : Option Addr) (XS : List Ab) (n c : Nat) (A1 : Option Addr) (XS1 : List Nat) (n1 c1 : Nat) (w : World) (hr : Rd w w.heap.size A (rows Ab.cells XS)) (hn : n = XS.length) (hbig : n ≤ 9223372036854775807)
    (hr1 : Rd w w.heap.size A1 (rows Ic XS1)) (hn1 : n1 = XS1.length) (hnc1 : n1 ≤ c1) (ho1 : ∀ x ∈ XS1, U64 x) (hb1 : n1 ≤ 9223372036854775807) : Calls Try.prog 5 #[.slice A n c, .slice A1 n1 c1] w fun e w' => e = .returned (.bool true) ∧ Below w.heap.size w w' := by
  have HPL := hid (fun W (hW : Below w.heap.size w W) => played_any A XS n c W ((hr.below hW (Nat.le_refl _)).more hW.size) hn hbig)
  have hwf := playN_wf XS
  generalize playN XS = S at *
  have hR1 : Rd w w.heap.size A1 (rows Ic (XS1.take 4)) := by rw [rows_take Ic_len]; exact hr1.take _
  have k1 : ∀ x ∈ XS1.take 4, U64 x := fun x hx => ho1 x (List.mem_of_mem_take hx)
  have l1 : (XS1.take 4).length = min 4 n1 := by rw [List.length_take, hn1]
  by_cases h0 : (XS1.take 4).length = 0
  · exact reads_none A n c A1 (XS1.take 4) n1 c1 _ S w HPL rfl (by omega) (by omega) k1 (hid hR1) h0
  · exact reads_some A n c A1 (XS1.take 4) n1 c1 _ S w HPL rfl (by omega) (by omega) k1 (hid hR1) hwf (by omega) (by omega)
end Go.Proofs.Ytbofabmgfkploaa
end
namespace Go.Proofs.Ytbofabmgfkploaa
open Go.ChangeShapes Go.WideShapes Go.ChangeAt Go.RowKit
open Go.ChangeMaps (open_string)

set_option maxRecDepth 100000 in
theorem ledgerReads_contract (H : Type) (enc : TypeId × Value → H) (W : World) (base : Nat) (args : Array Value) (ds gs : List (DataW H)) (before : List MemPlace)
    (hval : ∀ (j : Nat) t v, Try.f5.params[j]? = some t → args[j]? = some v → Value.okWide Try.prog W .any base t v)
    (hW : DataW.Whole enc Try.prog Try.f5.params.toList Rows.ledgerReadsSpec.vars false W args.toList ds gs before)
    (hsz : (DataW.weightsEach Try.prog (Try.f5.params.toList ++ Rows.ledgerReadsSpec.plain.varTypes Try.prog) (ds ++ gs)).all (· ≤ reachBytes) = true) :
    Calls Try.prog 5 args W fun e W' => ∃ v, e = .returned v ∧ Rows.ledgerReadsSpec.post enc Try.prog Try.f5 false true false false W args v W' := by
  have hW' := hW
  obtain ⟨p, q, hA0, hV, rfl, _, _⟩ := hW
  have hlt0 : ∀ x ∈ p, x.block < W.heap.size := fun x hx => hW'.lt x (by simp [hx])
  have hA : DataW.TrodAll enc Try.prog W 0 (fun _ => true) true Try.f5.params.toList args.toList ds p := hA0
  rw [Try.params5] at hA hval hsz
  clear hA0
  obtain ⟨v0, vs0, d0, ds0, p0, q0, hargs, rfl, rfl, h0, r0⟩ := trodAll_cons hA
  obtain ⟨v1, vs1, d1, ds1, p1, q1, rfl, rfl, rfl, h1, r1⟩ := trodAll_cons r0
  obtain ⟨rfl, rfl, rfl⟩ := trodAll_nil r1
  obtain rfl : args = #[v0, v1] := by cases args; simp_all
  obtain ⟨rfl, rfl⟩ := trodVars_none hV
  obtain ⟨A0, n0, c0, XS0, rfl, hn0, hnc0, hm0, hR0⟩ := open_acts (hval 0 22 v0 rfl rfl) h0
  obtain ⟨A1, n1, c1, XS1, rfl, hn1, hnc1, hm1, hXS1, hR1⟩ := open_u64s (hval 1 46 v1 rfl rfl) h1
  refine (reads_any A0 XS0 n0 c0 A1 XS1 n1 c1 W hR0 hn0 hm0 hR1 hn1 hnc1 hXS1 hm1).mono fun e W' ⟨he, hbe⟩ => ?_
  subst he
  exact ⟨_, rfl, law_post hW' rfl rfl rfl Try.underlying4 laidOut (of_all (by kernel_rfl)) hbe⟩

set_option maxRecDepth 100000 in
theorem ledgerReads_lifted (os : Os) (started : os.Started) (H : Type) (enc : TypeId × Value → H) :
    ReturnsInHanded {} Try.checked os 5 .any (Rows.ledgerReadsSpec.pre6 enc Try.prog Try.f5 Rows.ledgerReadsRow.domain false) (Rows.ledgerReadsSpec.post enc Try.prog Try.f5 false true false false) := by
  refine returnsInHanded_of_change_sized (C := Try.checked) knob started (by kernel_rfl) Try.func5
    (ChangeSpec.witness6 (enc := enc) (C := Try.checked) false ⟨#[], #[.slice none 0 0, .slice none 0 0], []⟩ 8 (by kernel_rfl) (by kernel_rfl) (by kernel_rfl) (by kernel_rfl)) ?_
  intro W base args ds gs before hval hW _ hsz _
  exact ledgerReads_contract H enc W base args ds gs before hval hW hsz

theorem ledgerReads_holds : Rows.LedgerReadsSaid :=
  OpenClaim.holds_of_wide 5 Try.f5 rfl rfl rfl rfl rfl rfl rfl ⟨rfl, rfl, rfl, rfl, rfl⟩ rfl rfl rfl rfl rfl (by kernel_rfl) Try.func5 (by kernel_rfl)
    (of_decide_eq_true (by kernel_rfl)) (by unfold Func.isWrapper; first | (rw [if_pos (by decide +kernel)]; kernel_rfl) | (rw [if_neg (by decide +kernel)]; exact ⟨rfl, rfl⟩))
    (fun os started H enc _ => ledgerReads_lifted os started H enc)
end Go.Proofs.Ytbofabmgfkploaa
