/-
  The statement LedgerUnpacks holds for every input, without conditions: any bytes are a ledger, which has what they say, or none.
-/
import Derived.Test.YtbofabmgfkploaaRun
import Derived.Test.YtbofabmgfkploaaSame
import Derived.Test.YtbofabmgfkploaaAgain
import Derived.Deep.QuietTactic
import Derived.BigQuiet
section
namespace Go.Proofs.Ytbofabmgfkploaa
open Go.RowKit
set_option maxRecDepth 10000

theorem le_back : ∀ bs : List UInt8, le (leV bs) bs.length = bs
  | [] => rfl
  | c :: r => by
    have ih := le_back r
    have hc := UInt8.toNat_lt c
    simp only [List.length_cons, leV, le]
    have h1 : (c.toNat + 256 * leV r) / 256 = leV r := by omega
    have h2 : UInt8.ofNat ((c.toNat + 256 * leV r) % 256) = c := by
      have : (c.toNat + 256 * leV r) % 256 = c.toNat := by omega
      rw [this]
      simp
    first
      | rw [h1, h2, ih]
      | (have h3 : UInt8.ofNat (c.toNat + 256 * leV r) = c := by
           apply UInt8.toNat_inj.1
           rw [UInt8.toNat_ofNat']
           omega
         rw [h1, h3, ih])
theorem at8_back (p : List UInt8) (i : Nat) (h : i + 8 ≤ p.length) : le (at8 p i) 8 = (p.drop i).take 8 := by
  have hl : ((p.drop i).take 8).length = 8 := by rw [List.length_take, List.length_drop]; omega
  have := le_back ((p.drop i).take 8)
  rw [hl] at this
  exact this
theorem trL_back (p : List UInt8) (h : p.length = 32) : trL (decT p) = p := by
  show le (at8 p 0) 8 ++ le (at8 p 8) 8 ++ le (at8 p 16) 8 ++ le (at8 p 24) 8 = p
  rw [at8_back p 0 (by omega), at8_back p 8 (by omega), at8_back p 16 (by omega), at8_back p 24 (by omega)]
  have e1 : (p.drop 24).take 8 = p.drop 24 := List.take_of_length_le (by rw [List.length_drop]; omega)
  have e2 : (p.drop 16).take 8 ++ p.drop 24 = p.drop 16 := by have := List.take_append_drop 8 (p.drop 16); rw [List.drop_drop] at this; exact this
  have e3 : (p.drop 8).take 8 ++ p.drop 16 = p.drop 8 := by have := List.take_append_drop 8 (p.drop 8); rw [List.drop_drop] at this; exact this
  have e4 : (p.drop 0).take 8 ++ p.drop 8 = p := by simp
  rw [e1, List.append_assoc, List.append_assoc, e2, e3, e4]
theorem acB_back (p : List UInt8) (h : p.length = 25) : acB (decW p) = p := by
  have hf := (decW_flat p).2
  unfold acB wholeB
  rw [if_pos hf]
  show le (at8 p 0) 8 ++ [UInt8.ofNat ((p.getD 8 0).toNat : Int).toNat] ++ le (at8 p 9) 8 ++ le (at8 p 17) 8 = p
  rw [at8_back p 0 (by omega), at8_back p 9 (by omega), at8_back p 17 (by omega)]
  have e0 : [UInt8.ofNat ((p.getD 8 0).toNat : Int).toNat] = (p.drop 8).take 1 := by
    have h8 : p.drop 8 = p[8]'(by omega) :: p.drop 9 := List.drop_eq_getElem_cons (by omega)
    rw [h8]
    show [_] = [p[8]'(by omega)]
    congr 1
    simp [List.getD, List.getElem?_eq_getElem (show 8 < p.length by omega)]
  have e1 : (p.drop 17).take 8 = p.drop 17 := List.take_of_length_le (by rw [List.length_drop]; omega)
  have e2 : (p.drop 9).take 8 ++ p.drop 17 = p.drop 9 := by have := List.take_append_drop 8 (p.drop 9); rw [List.drop_drop] at this; exact this
  have e3 : (p.drop 8).take 1 ++ p.drop 9 = p.drop 8 := by have := List.take_append_drop 1 (p.drop 8); rw [List.drop_drop] at this; exact this
  have e4 : (p.drop 0).take 8 ++ p.drop 8 = p := by simp
  rw [e0, e1, List.append_assoc, List.append_assoc, e2, e3, e4]
theorem firstk_back {α : Type} (n : Nat) (d : List UInt8 → α) (f : α → List UInt8) (s : List UInt8) (hf : ∀ p, p.length = n → f (d p) = p) : ∀ k, n * k ≤ s.length → (firstk n d s k).flatMap f = s.take (n * k)
  | 0, _ => by simp [firstk]
  | k + 1, h => by
    rw [Nat.mul_succ] at h
    rw [firstk_succ, List.flatMap_append, firstk_back n d f s hf k (by omega), List.flatMap_cons, List.flatMap_nil, List.append_nil, hf (piece n s k) (by unfold piece; rw [List.length_take, List.length_drop, Nat.mul_comm k n]; omega)]
    unfold piece
    rw [Nat.mul_succ, List.take_add, Nat.mul_comm k n]
theorem ofNat_num0 (s : List UInt8) (h : 1 ≤ s.length) : UInt8.ofNat (num0 s) :: s.drop 1 = s := by
  cases s with
  | nil => simp at h
  | cons c r => simp [num0]
theorem pack_unpack (s : List UInt8) (h : okU s) : (unpS s).pack = s := by
  obtain ⟨⟨a1, a2, a3⟩, ⟨b1, b2, b3⟩, c⟩ := h
  have key : ∀ {α : Type} (n : Nat) (d : List UInt8 → α) (f : α → List UInt8) (s : List UInt8), 1 ≤ s.length → 1 + n * num0 s ≤ s.length → (∀ p, p.length = n → f (d p) = p) → layL f (firstk n d (s.drop 1) (num0 s)) = s.take (1 + n * num0 s) := by
    intro α n d f s h1 h3 hf
    unfold layL
    rw [firstk_len, firstk_back n d f (s.drop 1) hf _ (by rw [List.length_drop]; omega)]
    have hg := ofNat_num0 s h1
    generalize n * num0 s = m
    generalize num0 s = z at *
    rw [Nat.add_comm 1]
    conv => rhs; rw [← hg, List.take_succ_cons]
  unfold Lg.pack unpS takA takT
  rw [key 25 decW acB s a1 a3 acB_back, key 32 decT trL (rest1 25 s) b1 b3 trL_back]
  have e : (rest1 25 s).take (1 + 32 * num0 (rest1 25 s)) = rest1 25 s := by
    refine List.take_of_length_le ?_
    generalize rest1 25 s = r at c
    have := congrArg List.length c
    unfold rest1 at this
    rw [List.length_drop] at this
    simp at this
    omega
  rw [e]
  exact List.take_append_drop _ _

set_option maxHeartbeats 400000 in
theorem unpacks_big (s : ByteArray) (w : World) (h : 2000 < s.size) : Calls Try.prog 7 #[.string s] w fun e w' => e = .returned (.bool true) ∧ Below w.heap.size w w' := by
  have HAW := hid awake_any
  have hi : (2000 : Int) < (s.size : Int) := by omega
  clear h
  go_enter Try.func7, Try.ntmps7
  go_wp2_with (go_at_call 10; refine (HAW.out _).mono ?_; rintro e w1 ⟨rfl, hx⟩)
  go_ret
  exact ⟨rfl, hx⟩
set_option maxHeartbeats 1000000 in
theorem unpacks_no (s : ByteArray) (w : World) (h : ¬ 2000 < s.size) (hno : ¬ okU (sb s)) : Calls Try.prog 7 #[.string s] w fun e w' => e = .returned (.bool true) ∧ Below w.heap.size w w' := by
  have HAW := hid awake_any
  have hi : ¬ (2000 : Int) < (s.size : Int) := by omega
  have HU := hid (fun W => unpack_no s W (by omega) hno)
  have HV : Hid (∀ W, Calls Try.prog 22 #[.string s] W (UN W)) := hid (fun W => (runpack_any s W (by omega)).mono fun e w' hh => hh.2 hno)
  clear h hno
  go_enter Try.func7, Try.ntmps7
  go_wp2_with (first
    | (go_at_call 10; refine (HAW.out _).mono ?_; rintro e w1 ⟨rfl, hx⟩; have HBB := hid hx; clear hx)
    | (go_at_call 23; refine (HU.out _).mono ?_; rintro e w2 ⟨rfl, hx⟩; replace HBB := hid (HBB.out.trans (hx.mono HBB.out.size)); clear hx)
    | (go_at_call 22; refine (HV.out _).mono ?_; rintro e w3 ⟨rfl, hx⟩; replace HBB := hid (HBB.out.trans (hx.mono HBB.out.size)); clear hx))
  go_quiet (fail)
  go_wp2_with fail
  go_ret
  exact ⟨rfl, below_drewN HBB.out _⟩
set_option maxHeartbeats 16000000 in
theorem unpacks_yes (s : ByteArray) (w : World) (h : ¬ 2000 < s.size) (hok : okU (sb s)) : Calls Try.prog 7 #[.string s] w fun e w' => e = .returned (.bool true) ∧ Below w.heap.size w w' := by
  have HAW := hid awake_any
  have hi : ¬ (2000 : Int) < (s.size : Int) := by omega
  have HU := hid (fun W => unpack_yes s W (by omega) hok)
  have HV : Hid (∀ W, Calls Try.prog 22 #[.string s] W (NG 30 W (unpS (sb s)) (fun p => .tuple #[.pointer (some ⟨p, 0, none⟩), .int .i64 0]))) := hid (fun W => (runpack_any s W (by omega)).mono fun e w' hh => hh.1 hok)
  have HPK : Hid ((⟨(unpS (sb s)).pack.toArray⟩ : ByteArray) = s) := hid (by rw [pack_unpack _ hok, mk_sb])
  generalize unpS (sb s) = S at *
  clear h hok
  go_enter Try.func7, Try.ntmps7
  go_wp2_with (first
    | (go_at_call 10; refine (HAW.out _).mono ?_; rintro e w1 ⟨rfl, hx⟩; have HBB := hid hx; clear hx)
    | (go_at_call 23; refine (HU.out _).mono ?_; rintro e w2 ⟨p, fp, rfl, hk, hf, hx⟩; have HSK := hid (Sk.mk' HBB.out hk hf hx); clear hx hk hf HBB)
    | (go_at_call 22; refine (HV.out _).mono ?_; rintro e w9 ⟨q, fq, rfl, hk, hf, hx⟩; have HTK := hid (HSK.out.two hx hk hf); clear hx hk hf HSK))
  obtain ⟨fa, fb, ⟨va, vt, -, hp⟩, ⟨ua, ut, -, hq⟩, -, -, -, hfr⟩ := HTK.out
  obtain ⟨Aq, cq, eua, hcq, -⟩ := hq.va_shape
  obtain ⟨Tq, dq, eut, hdq, -⟩ := hq.vt_shape
  subst eua eut
  have HFR := hid hfr
  have HC0 := hid (fun W (hW : Kp w9 W) => (hq.below hW).c0)
  have HC1 := hid (fun W (hW : Kp w9 W) => (hq.below hW).c1)
  have HPP : Hid (∀ W, Kp w9 W → Calls Try.prog 18 #[.pointer (some ⟨p, 0, none⟩)] W fun e w' => e = .returned (.string s) ∧ Below W.heap.size W w') := hid fun W hW => by
    have h := pack_any p va vt S W (hp.below hW)
    refine h.mono fun e w' hh => ⟨?_, hh.2⟩
    rw [hh.1, HPK.out]
  have HAC := hid (fun W (hW : Kp w9 W) => alla_any p va vt S W (hp.below hW))
  have HTR := hid (fun W (hW : Kp w9 W) => allt_any p va vt S W (hp.below hW))
  have HQA := hid (fun W (hW : Kp w9 W) => (own_rd (hq.below hW).accs))
  have HQT := hid (fun W (hW : Kp w9 W) => (own_rd (hq.below hW).trs))
  have hb8 := hp.wf.la
  have hb16 := hp.wf.lt
  have HSA : Hid (∀ A c W, Rd W W.heap.size A (rows Ac.cells S.A) → S.A.length ≤ c → Kp w9 W → Calls Try.prog 14 #[.slice A S.A.length c, .slice Aq S.A.length cq] W (VE W (.bool true))) := hid (fun A c W hr hc hW => by
    obtain ⟨A', c', e, _, hrd⟩ := HQA.out W hW
    simp only [Value.slice.injEq, true_and] at e
    obtain ⟨rfl, rfl⟩ := e
    exact samea_any A Aq S.A S.A.length c cq W.heap.size W hr hrd rfl hc hcq (Nat.le_refl _) (by omega))
  have HST : Hid (∀ A c W, Rd W W.heap.size A (rows Tr.cells S.T) → S.T.length ≤ c → Kp w9 W → Calls Try.prog 16 #[.slice A S.T.length c, .slice Tq S.T.length dq] W (VE W (.bool true))) := hid (fun A c W hr hc hW => by
    obtain ⟨A', c', e, _, hrd⟩ := HQT.out W hW
    simp only [Value.slice.injEq, true_and] at e
    obtain ⟨rfl, rfl⟩ := e
    exact samet_any A Tq S.T S.T.length c dq W.heap.size W hr hrd rfl hc hdq (Nat.le_refl _) (by omega))
  clear hp hq hfr HTK HQA HQT HAW HU HV
  refine wp_region_held_drew (S := fun w' => Kp w9 w') (by kernel_rfl) (Kp.refl w9).drew (fun hH => ?_)
  refine wpAnyH_take (i := 0) (v := .pointer (some ⟨q, 0, none⟩)) rfl (by kernel_rfl) (by kernel_rfl) (by kernel_rfl) (fun _ _ _ h => h) (Or.inl ⟨by kernel_rfl, fun w' hw' => by clear hw' ; go_simp⟩) hH ?_
  simp only [Act.put]
  refine wpAnyH_take (i := 1) (v := .bool false) rfl (by kernel_rfl) (by kernel_rfl) (by kernel_rfl) (fun _ _ _ h => h) (Or.inl ⟨by kernel_rfl, fun w' hw' => by clear hw' ; go_simp⟩) hH ?_
  simp only [Act.put]
  refine wpAnyH_take (i := 2) (v := .bool false) rfl (by kernel_rfl) (by kernel_rfl) (by kernel_rfl) (fun _ _ _ h => h) (Or.inl ⟨by kernel_rfl, fun w' hw' => by clear hw' ; go_simp⟩) hH ?_
  simp only [Act.put]
  refine wpAnyH_take (i := 3) (v := .pointer (some ⟨p, 0, none⟩)) rfl (by kernel_rfl) (by kernel_rfl) (by kernel_rfl) (fun _ _ _ h => h) (Or.inl ⟨by kernel_rfl, fun w' hw' => by clear hw' ; go_simp⟩) hH ?_
  simp only [Act.put]
  refine wpAnyH_take (i := 5) (v := .string s) rfl (by kernel_rfl) (by kernel_rfl) (by kernel_rfl) (fun _ _ _ h => h) (Or.inl ⟨by kernel_rfl, fun w' hw' => by clear hw' ; go_simp⟩) hH ?_
  simp only [Act.put]
  refine wpAnyH_ready (rs := [4]) (by kernel_rfl) (by simp) ?_
  refine AllReadyH.cons rfl (fun K hK => ?_) AllReadyH.nil
  rw [if_pos (by kernel_rfl)]
  go_simp
  go_at_call 18
  refine (HPP.out _ hH).mono ?_
  rintro e w10 ⟨rfl, hb10⟩
  go_wp2_with fail
  refine hK.out _ _ (Kp.call hb10 hH) (fun hH => ?_)
  clear hK K
  try simp only [Act.put]
  refine wpAnyH_take (i := 6) (v := .bool true) rfl (by kernel_rfl) (by kernel_rfl) (by kernel_rfl) (fun _ _ _ h => h) (Or.inl ⟨by kernel_rfl, fun w' hw' => by clear hw' ; go_simp⟩) hH ?_
  simp only [Act.put]
  refine wpAnyH_take (i := 7) (v := .bool true) rfl (by kernel_rfl) (by kernel_rfl) (by kernel_rfl) (fun _ _ _ h => h) (Or.inl ⟨by kernel_rfl, fun w' hw' => by clear hw' ; go_simp⟩) hH ?_
  simp only [Act.put]
  refine wpAnyH_take (i := 8) (v := .pointer (some ⟨p, 0, none⟩)) rfl (by kernel_rfl) (by kernel_rfl) (by kernel_rfl) (fun _ _ _ h => h) (Or.inl ⟨by kernel_rfl, fun w' hw' => by clear hw' ; go_simp⟩) hH ?_
  simp only [Act.put]
  refine wpAnyH_take (i := 10) (v := .pointer (some ⟨q, 0, none⟩)) rfl (by kernel_rfl) (by kernel_rfl) (by kernel_rfl) (fun _ _ _ h => h) (Or.inl ⟨by kernel_rfl, fun w' hw' => by clear hw' ; go_simp⟩) hH ?_
  simp only [Act.put]
  refine wpAnyH_take (i := 11) (v := .pointer (some ⟨q, 0, none⟩)) rfl (by kernel_rfl) (by kernel_rfl) (by kernel_rfl) (fun _ _ _ h => h) (Or.inl ⟨by kernel_rfl, fun w' hw' => by clear hw' ; go_simp⟩) hH ?_
  simp only [Act.put]
  refine wpAnyH_take (i := 12) (v := .pointer (some ⟨q, 0, none⟩)) rfl (by kernel_rfl) (by kernel_rfl) (by kernel_rfl) (fun _ _ _ h => h) (Or.inl ⟨by kernel_rfl, fun w' hw' => by clear hw' ; go_simp⟩) hH ?_
  simp only [Act.put]
  refine wpAnyH_take (i := 13) (v := .slice Aq S.A.length cq) rfl (by kernel_rfl) (by kernel_rfl) (by kernel_rfl) (fun _ _ _ h => h) (Or.inl ⟨by kernel_rfl, fun w' hw' => by have h := HC0.out w' hw'; go_simp⟩) hH ?_
  simp only [Act.put]
  refine wpAnyH_ready (rs := [9]) (by kernel_rfl) (by simp) ?_
  refine AllReadyH.cons rfl (fun K hK => ?_) AllReadyH.nil
  rw [if_pos (by kernel_rfl)]
  go_simp
  go_at_call 15
  refine (HAC.out _ hH).mono ?_
  rintro e w11 ⟨A1, c1, rfl, hc1, hrd1, hb11, -⟩
  have HR1 := hid hrd1
  have HCC1 := hid hc1
  clear hrd1 hc1
  go_wp2_with fail
  refine hK.out _ _ (Kp.call hb11 hH) (fun hH => ?_)
  clear hK K
  try simp only [Act.put]
  refine wpAnyH_ready (rs := [14]) (by kernel_rfl) (by simp) ?_
  refine AllReadyH.cons rfl (fun K hK => ?_) AllReadyH.nil
  rw [if_pos (by kernel_rfl)]
  go_simp
  go_at_call 14
  refine (HSA.out _ _ _ HR1.out HCC1.out hH).mono ?_
  rintro e w12 ⟨rfl, hb12⟩
  go_wp2_with fail
  refine hK.out _ _ (Kp.call hb12 hH) (fun hH => ?_)
  clear hK K
  try simp only [Act.put]
  refine wpAnyH_take (i := 15) (v := .bool true) rfl (by kernel_rfl) (by kernel_rfl) (by kernel_rfl) (fun _ _ _ h => h) (Or.inl ⟨by kernel_rfl, fun w' hw' => by clear hw' ; go_simp⟩) hH ?_
  simp only [Act.put]
  refine wpAnyH_take (i := 16) (v := .bool true) rfl (by kernel_rfl) (by kernel_rfl) (by kernel_rfl) (fun _ _ _ h => h) (Or.inl ⟨by kernel_rfl, fun w' hw' => by clear hw' ; go_simp⟩) hH ?_
  simp only [Act.put]
  refine wpAnyH_take (i := 17) (v := .pointer (some ⟨p, 0, none⟩)) rfl (by kernel_rfl) (by kernel_rfl) (by kernel_rfl) (fun _ _ _ h => h) (Or.inl ⟨by kernel_rfl, fun w' hw' => by clear hw' ; go_simp⟩) hH ?_
  simp only [Act.put]
  refine wpAnyH_take (i := 19) (v := .pointer (some ⟨q, 0, none⟩)) rfl (by kernel_rfl) (by kernel_rfl) (by kernel_rfl) (fun _ _ _ h => h) (Or.inl ⟨by kernel_rfl, fun w' hw' => by clear hw' ; go_simp⟩) hH ?_
  simp only [Act.put]
  refine wpAnyH_take (i := 20) (v := .pointer (some ⟨q, 0, none⟩)) rfl (by kernel_rfl) (by kernel_rfl) (by kernel_rfl) (fun _ _ _ h => h) (Or.inl ⟨by kernel_rfl, fun w' hw' => by clear hw' ; go_simp⟩) hH ?_
  simp only [Act.put]
  refine wpAnyH_take (i := 21) (v := .pointer (some ⟨q, 1, none⟩)) rfl (by kernel_rfl) (by kernel_rfl) (by kernel_rfl) (fun _ _ _ h => h) (Or.inl ⟨by kernel_rfl, fun w' hw' => by clear hw' ; go_simp⟩) hH ?_
  simp only [Act.put]
  refine wpAnyH_take (i := 22) (v := .slice Tq S.T.length dq) rfl (by kernel_rfl) (by kernel_rfl) (by kernel_rfl) (fun _ _ _ h => h) (Or.inl ⟨by kernel_rfl, fun w' hw' => by have h := HC1.out w' hw'; go_simp⟩) hH ?_
  simp only [Act.put]
  refine wpAnyH_ready (rs := [18]) (by kernel_rfl) (by simp) ?_
  refine AllReadyH.cons rfl (fun K hK => ?_) AllReadyH.nil
  rw [if_pos (by kernel_rfl)]
  go_simp
  go_at_call 17
  refine (HTR.out _ hH).mono ?_
  rintro e w13 ⟨A2, c2, rfl, hc2, hrd2, hb13, -⟩
  have HR2 := hid hrd2
  have HCC2 := hid hc2
  clear hrd2 hc2
  go_wp2_with fail
  refine hK.out _ _ (Kp.call hb13 hH) (fun hH => ?_)
  clear hK K
  try simp only [Act.put]
  refine wpAnyH_ready (rs := [23]) (by kernel_rfl) (by simp) ?_
  refine AllReadyH.cons rfl (fun K hK => ?_) AllReadyH.nil
  rw [if_pos (by kernel_rfl)]
  go_simp
  go_at_call 16
  refine (HST.out _ _ _ HR2.out HCC2.out hH).mono ?_
  rintro e w14 ⟨rfl, hb14⟩
  go_wp2_with fail
  refine hK.out _ _ (Kp.call hb14 hH) (fun hH => ?_)
  clear hK K
  try simp only [Act.put]
  refine wpAnyH_take (i := 24) (v := .bool true) rfl (by kernel_rfl) (by kernel_rfl) (by kernel_rfl) (fun _ _ _ h => h) (Or.inl ⟨by kernel_rfl, fun w' hw' => by clear hw' ; go_simp⟩) hH ?_
  simp only [Act.put]
  refine wpAnyH_take (i := 25) (v := .bool true) rfl (by kernel_rfl) (by kernel_rfl) (by kernel_rfl) (fun _ _ _ h => h) (Or.inl ⟨by kernel_rfl, fun w' hw' => by clear hw' ; go_simp⟩) hH ?_
  simp only [Act.put]
  refine wpAnyH_ready (rs := [26]) (by kernel_rfl) (by simp) ?_
  refine AllReadyH.cons rfl (fun K hK => ?_) AllReadyH.nil
  go_simp
  refine hK.out _ _ (hH) (fun hH => ?_)
  clear hK K
  try simp only [Act.put]
  refine wpAnyH_done (by kernel_rfl) ?_ _
  try simp only [Act.put]
  go_wp2_with fail
  go_ret
  exact ⟨rfl, HFR.out.trans (Below.mono hH HFR.out.size)⟩
theorem unpacks_any (s : ByteArray) (w : World) (_ : s.size ≤ 140737488351232) : Calls Try.prog 7 #[.string s] w fun e w' => e = .returned (.bool true) ∧ Below w.heap.size w w' := by
  by_cases h : 2000 < s.size
  · exact unpacks_big s w h
  · by_cases hok : okU (sb s)
    · exact unpacks_yes s w h hok
    · exact unpacks_no s w h hok
end Go.Proofs.Ytbofabmgfkploaa
end
namespace Go.Proofs.Ytbofabmgfkploaa
open Go.ChangeShapes Go.WideShapes Go.ChangeAt Go.RowKit
open Go.ChangeMaps (open_string)

set_option maxRecDepth 100000 in
theorem ledgerUnpacks_contract (H : Type) (enc : TypeId × Value → H) (W : World) (base : Nat) (args : Array Value) (ds gs : List (DataW H)) (before : List MemPlace)
    (hval : ∀ (j : Nat) t v, Try.f7.params[j]? = some t → args[j]? = some v → Value.okWide Try.prog W .any base t v)
    (hW : DataW.Whole enc Try.prog Try.f7.params.toList Rows.ledgerUnpacksSpec.vars false W args.toList ds gs before)
    (hsz : (DataW.weightsEach Try.prog (Try.f7.params.toList ++ Rows.ledgerUnpacksSpec.plain.varTypes Try.prog) (ds ++ gs)).all (· ≤ reachBytes) = true) :
    Calls Try.prog 7 args W fun e W' => ∃ v, e = .returned v ∧ Rows.ledgerUnpacksSpec.post enc Try.prog Try.f7 false true false false W args v W' := by
  have hW' := hW
  obtain ⟨p, q, hA0, hV, rfl, _, _⟩ := hW
  have hlt0 : ∀ x ∈ p, x.block < W.heap.size := fun x hx => hW'.lt x (by simp [hx])
  have hA : DataW.TrodAll enc Try.prog W 0 (fun _ => true) true Try.f7.params.toList args.toList ds p := hA0
  rw [Try.params7] at hA hval hsz
  clear hA0
  obtain ⟨v0, vs0, d0, ds0, p0, q0, hargs, rfl, rfl, h0, r0⟩ := trodAll_cons hA
  obtain ⟨rfl, rfl, rfl⟩ := trodAll_nil r0
  obtain rfl : args = #[v0] := by cases args; simp_all
  obtain ⟨rfl, rfl⟩ := trodVars_none hV
  obtain ⟨s0, rfl, rfl, rfl, hs0⟩ := open_string Try.underlying9 (hval 0 9 v0 rfl rfl) h0
  have hb0 : s0.size ≤ 140737488351232 := by
    have h4 := sized_string hsz (j := 0) (t := 9) (bytes := s0.data.toList) rfl rfl
    simp only [reachBytes] at h4
    have : s0.data.toList.length = s0.size := by rw [Array.length_toList]; rfl
    omega
  refine (unpacks_any s0 W hb0).mono fun e W' ⟨he, hbe⟩ => ?_
  subst he
  exact ⟨_, rfl, law_post hW' rfl rfl rfl Try.underlying4 laidOut (of_all (by kernel_rfl)) hbe⟩

set_option maxRecDepth 100000 in
theorem ledgerUnpacks_lifted (os : Os) (started : os.Started) (H : Type) (enc : TypeId × Value → H) :
    ReturnsInHanded {} Try.checked os 7 .any (Rows.ledgerUnpacksSpec.pre6 enc Try.prog Try.f7 Rows.ledgerUnpacksRow.domain false) (Rows.ledgerUnpacksSpec.post enc Try.prog Try.f7 false true false false) := by
  refine returnsInHanded_of_change_sized (C := Try.checked) knob started (by kernel_rfl) Try.func7
    (ChangeSpec.witness6 (enc := enc) (C := Try.checked) false ⟨#[], #[.string ⟨#[]⟩], []⟩ 8 (by kernel_rfl) (by kernel_rfl) (by kernel_rfl) (by kernel_rfl)) ?_
  intro W base args ds gs before hval hW _ hsz _
  exact ledgerUnpacks_contract H enc W base args ds gs before hval hW hsz

theorem ledgerUnpacks_holds : Rows.LedgerUnpacksSaid :=
  OpenClaim.holds_of_wide 7 Try.f7 rfl rfl rfl rfl rfl rfl rfl ⟨rfl, rfl, rfl, rfl, rfl⟩ rfl rfl rfl rfl rfl (by kernel_rfl) Try.func7 (by kernel_rfl)
    (of_decide_eq_true (by kernel_rfl)) (by unfold Func.isWrapper; first | (rw [if_pos (by decide +kernel)]; kernel_rfl) | (rw [if_neg (by decide +kernel)]; exact ⟨rfl, rfl⟩))
    (fun os started H enc _ => ledgerUnpacks_lifted os started H enc)
end Go.Proofs.Ytbofabmgfkploaa
