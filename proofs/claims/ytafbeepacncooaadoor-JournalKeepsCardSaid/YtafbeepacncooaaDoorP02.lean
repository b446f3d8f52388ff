/-
  Where nothing rots nothing is faulty, in plain words: Put, Void, Open, slot by slot.
-/
import Derived.Test.YtafbeepacncooaaDoorP01
namespace Go.Proofs.YtafbeepacncooaaDoor
open Go.RowKit
set_option maxRecDepth 10000

/-! ### Scrub finds nothing to do -/
theorem scrub_nil {K : Nat → Option (List UInt8)} {c n : Int} {i : It} (h1 : Ct c (pN n) (K (pN n))) (h2 : Ct c (hN n) (K (hN n))) (h : EX K n i) : scrubKp i (K (pN n)) (K (hN n)) n = [] ∧ scrubKx i (K (pN n)) = i := by
  rcases h with ⟨rfl, p1, p2, p3, p4⟩ | ⟨e, he, hr, ho, rfl, k1, k2⟩
  · have e1 : (eK (K (pN n))).2.2 = true := by
      rcases eK_ct h1 with ⟨_, q⟩ | ⟨q, _⟩ | ⟨e, _, _, _, _, _, q⟩
      · exact absurd q p1
      · rw [q]
      · rw [q]
    have e2 : (sK (K (hN n))).2.2 = true := by
      rcases sK_ct h2 with ⟨_, q⟩ | ⟨q, _⟩ | ⟨e, _, _, _, _, _, q⟩
      · exact absurd q p2
      · rw [q]
      · rw [q]
    constructor
    · unfold scrubKp cleanKp
      rw [if_pos (show it0.kind = 0 from rfl), if_neg, if_neg]
      · rfl
      · rintro (q | ⟨q, w⟩)
        · rw [e2] at q; cases q
        · exact p4 q w
      · rintro (q | ⟨q, w⟩)
        · rw [e1] at q; cases q
        · exact p3 q w
    · unfold scrubKx
      rw [if_neg (by rintro ⟨q, -⟩; cases q)]
  · rw [k1, k2]
    constructor
    · unfold scrubKp
      rw [if_neg (show ¬ (1 : Int) = 0 by decide), sK_own he hr, if_neg (by rintro ⟨_, q | q⟩; · cases q
                                                                            · exact q rfl)]
    · unfold scrubKx
      rw [eK_entry he hr, if_neg (by rintro ⟨_, q | q⟩; · cases q
                                     · exact q rfl)]
/-! ### Open -/
theorem open_B {K : Nat → Option (List UInt8)} {n : Int} (hne : K (hN n) ≠ none) (s22 : (sK (K (hN n))).2.2 = true) (hno : (sK (K (hN n))).2.1 = true → (sK (K (hN n))).1.opn ≠ n) :
  EX (appK K (openKp (K (pN n)) (K (hN n)) n)) n (judgeK (K (pN n)) (K (hN n)) n) ∧ ∀ K', CrK K (openKp (K (pN n)) (K (hN n)) n) K' → CO K' n := by
 have hhp : hN n ≠ pN n := fun q => ph_ne _ _ q.symm
 have hj : judgeK (K (pN n)) (K (hN n)) n = it0 := by
  unfold judgeK
  rw [if_neg (fun q => hno q.1 q.2.1), if_neg (fun q => hno q.1 q.2), if_pos s22]
 have hp : openKp (K (pN n)) (K (hN n)) n = if (eK (K (pN n))).2.2 = false ∨ ((eK (K (pN n))).2.1 = true ∧ (eK (K (pN n))).1.opn = n) then [lV (pN n)] else [] := by
  unfold openKp
  rw [hj, if_pos (show it0.kind = 0 from rfl)]
  unfold cleanKp
  rw [if_neg (c := (sK (K (hN n))).2.2 = false ∨ _) (by
   rintro (q | ⟨q, w⟩)
   ·
    rw [s22] at q; cases q
   ·
    exact hno q w), List.append_nil]
 rw [hp, hj]
 by_cases C : (eK (K (pN n))).2.2 = false ∨ ((eK (K (pN n))).2.1 = true ∧ (eK (K (pN n))).1.opn = n)
 ·
  rw [if_pos C]
  have kh : ∀ o, updJ K (pN n) o (hN n) = K (hN n) := fun o => upd_off hhp
  have fin : ∀ o, CO (updJ K (pN n) o) n := fun o => co_h (by rw [kh]; exact hne) (by rw [kh]; exact hno)
  constructor
  ·
   have k1 : appK K [lV (pN n)] (pN n) = some [] := upd_at _ _ _
   have k2 : appK K [lV (pN n)] (hN n) = K (hN n) := kh _
   exact .inl ⟨rfl, by rw [k1]; simp, by rw [k2]; exact hne, fun q => (by rw [k1] at q; cases q), by rw [k2]; exact hno⟩
  ·
   intro K' hc
   rcases cr_cons hc with rfl | rfl | hc
   ·
    exact co_h hne hno
   ·
    exact fin _
   ·
    obtain rfl := cr_nil hc
    exact fin _
 ·
  rw [if_neg C]
  constructor
  ·
   exact .inl ⟨rfl, fun q => C (.inl (by rw [show K (pN n) = none from q]; rfl)), hne, fun q w => C (.inr ⟨q, w⟩), hno⟩
  ·
   intro K' hc
   obtain rfl := cr_nil hc
   exact co_h hne hno
theorem open_A {K : Nat → Option (List UInt8)} {n : Int} (hh : K (hN n) = none) (hne : K (pN n) ≠ none) (e22 : (eK (K (pN n))).2.2 = true) (hno : (eK (K (pN n))).2.1 = true → (eK (K (pN n))).1.opn ≠ n) :
  EX (appK K (openKp (K (pN n)) (K (hN n)) n)) n (judgeK (K (pN n)) (K (hN n)) n) ∧ ∀ K', CrK K (openKp (K (pN n)) (K (hN n)) n) K' → CO K' n := by
 have hph : pN n ≠ hN n := ph_ne _ _
 have hs : sK (K (hN n)) = (st0, false, false) := by rw [hh]; rfl
 have hj : judgeK (K (pN n)) (K (hN n)) n = it0 := by
  unfold judgeK
  rw [hs, if_neg (by rintro ⟨q, -⟩; cases q), if_neg (by rintro ⟨q, -⟩; cases q), if_neg (by simp), if_neg (fun q => hno q.1 q.2), if_pos e22]
 have hp : openKp (K (pN n)) (K (hN n)) n = [lV (hN n)] := by
  unfold openKp
  rw [hj, if_pos (show it0.kind = 0 from rfl)]
  unfold cleanKp
  rw [hs, if_neg (by
   rintro (q | ⟨q, w⟩)
   ·
    rw [e22] at q; cases q
   ·
    exact hno q w), if_pos (.inl rfl)]
  rfl
 rw [hp, hj]
 constructor
 ·
  have k1 : appK K [lV (hN n)] (hN n) = some [] := upd_at _ _ _
  have k2 : appK K [lV (hN n)] (pN n) = K (pN n) := upd_off hph
  exact .inl ⟨rfl, by rw [k2]; exact hne, by rw [k1]; simp, by rw [k2]; exact hno, fun q => by rw [k1] at q; cases q⟩
 ·
  intro K' hc
  rcases cr_cons hc with rfl | rfl | hc
  ·
   exact co_p hh hne
  ·
   exact co_p (upd_at _ _ _) (by rw [show updJ K (lV (hN n)).1 none (pN n) = K (pN n) from upd_off hph]; exact hne)
  ·
   obtain rfl := cr_nil hc
   exact co_void (upd_at _ _ _)
theorem ex_open {K : Nat → Option (List UInt8)} {c n : Int} (h1 : Ct c (pN n) (K (pN n))) (h2 : Ct c (hN n) (K (hN n))) (h : CO K n) :
  EX (appK K (openKp (K (pN n)) (K (hN n)) n)) n (judgeK (K (pN n)) (K (hN n)) n) ∧ ∀ K', CrK K (openKp (K (pN n)) (K (hN n)) n) K' → CO K' n := by
 have hph : pN n ≠ hN n := ph_ne _ _
 rcases sK_ct h2 with ⟨s2, k2⟩ | ⟨s2, k2⟩ | ⟨s, fs, rs, os, ls, k2, s2⟩
 ·
  have hne := h.1 k2
  rcases eK_ct h1 with ⟨_, q⟩ | ⟨s1, _⟩ | ⟨e, fe, re, oe, le, k1, s1⟩
  ·
   exact absurd q hne
  ·
   exact open_A k2 hne (by rw [s1]) (fun q => by rw [s1] at q; cases q)
  ·
   by_cases hn : e.opn = n
   ·
    subst hn
    have hop : hN (stubS e).opn = hN e.opn := by rw [stubS_rt re]
    have hj : judgeK (K (pN e.opn)) (K (hN e.opn)) e.opn = ⟨1, stubS e, e⟩ := by
     unfold judgeK
     rw [s1, s2]
     simp
    have hp : openKp (K (pN e.opn)) (K (hN e.opn)) e.opn = [lS (stubS e)] := by
     unfold openKp
     rw [hj]
     simp only
     rw [if_neg (by decide), s2, if_pos ⟨trivial, rfl⟩]
    have kp : ∀ o, updJ K (lS (stubS e)).1 o (pN e.opn) = some (packE e).1 := fun o => by
     show updJ K (hN (stubS e).opn) o (pN e.opn) = _
     rw [hop, upd_off hph, k1]
    have kh : ∀ o, updJ K (lS (stubS e)).1 o (hN e.opn) = o := fun o => by
     show updJ K (hN (stubS e).opn) o (hN e.opn) = _
     rw [hop, upd_at]
    rw [hp, hj]
    constructor
    ·
     exact .inr ⟨e, fe, re, rfl, rfl, kp _, kh _⟩
    ·
     intro K' hc
     rcases cr_cons hc with rfl | rfl | hc
     ·
      exact h
     ·
      exact co_p (kh _) (by rw [kp]; simp)
     ·
      obtain rfl := cr_nil hc
      exact co_both fe re (kp _) (kh _)
   ·
    exact open_A k2 hne (by rw [s1]) (fun _ => by rw [s1]; exact hn)
 ·
  exact open_B (by rw [k2]; simp) (by rw [s2]) (fun q => by rw [s2] at q; cases q)
 ·
  by_cases hn : s.opn = n
  ·
   obtain ⟨e, fe, re, oe, k1, hs⟩ := h.2 (by rw [s2]) (by rw [s2]; exact hn)
   rw [s2] at hs
   have hs : stubS e = s := hs
   have s1 : eK (K (pN n)) = (e, true, true) := by rw [k1]; exact eK_entry fe re
   have hj : judgeK (K (pN n)) (K (hN n)) n = ⟨1, stubS e, e⟩ := by
    unfold judgeK
    rw [s1, s2]
    simp [hn, hs]
   have hp : openKp (K (pN n)) (K (hN n)) n = [] := by
    unfold openKp
    rw [hj]
    simp only
    rw [if_neg (by decide), s2, if_neg (by simp)]
   rw [hp, hj]
   exact ⟨.inr ⟨e, fe, re, oe, rfl, k1, by rw [hs]; exact k2⟩, fun K' hc => by obtain rfl := cr_nil hc; exact h⟩
  ·
   exact open_B (by rw [k2]; simp) (by rw [s2]) (fun _ => by rw [s2]; exact hn)
end Go.Proofs.YtafbeepacncooaaDoor
/-
  Where nothing rots nothing is faulty, in plain words: every call, wherever the power goes.
-/
namespace Go.Proofs.YtafbeepacncooaaDoor
open Go.RowKit
set_option maxRecDepth 10000

def InW (c n : Int) : Prop := c < n ∧ n ≤ c + 8
/-- the power is on, the journal knows; nothing has rotted -/
structure HereC (S : Sp) (J : Jn) : Prop where
 wf : JWf J
 ex : ∃ K, TdJ S K ∧ CtK K J.c ∧ ∀ n, J.has n → EX K n (J.item n)
/-- the power is back, nobody has looked -/
def BackC (S : Sp) (c : Int) : Prop := ∃ K, TdJ S K ∧ CtK K c ∧ ∀ n, InW c n → CO K n
/-- the power is gone -/
def GoneC (S : Sp) (c : Int) : Prop :=
 ∃ K pend, OffJ S K pend ∧ ∀ K', (K' = K ∨ ∃ i t, pend = some (i, t) ∧ (K' = updJ K i (some t) ∨ K' = updJ K i none)) → CtK K' c ∧ ∀ n, InW c n → CO K' n
theorem cr_ct {K K' : Nat → Option (List UInt8)} {c : Int} {pl : List Lay} (hC : CtK K c) (hp : ctP c pl) (h : CrK K pl K') : CtK K' c := by
 obtain ⟨a, b, rfl, h⟩ := h
 have ha := ct_app a hC fun y hy => hp y (by simp [hy])
 rcases h with rfl | ⟨x, r, rfl, h⟩
 ·
  exact ha
 ·
  rcases h with rfl | rfl
  ·
   exact ct_upd ha (.inl rfl)
  ·
   exact ct_upd ha (hp x (by simp))
theorem cr_all {K : Nat → Option (List UInt8)} {c n : Int} {pl : List Lay} (hn : InW c n) (hC : CtK K c) (hp : ctP c pl) (ho : ofN n pl) (h1 : ∀ m, InW c m → m ≠ n → CO K m) (h2 : ∀ K', CrK K pl K' → CO K' n) :
  ∀ K', CrK K pl K' → CtK K' c ∧ ∀ m, InW c m → CO K' m := fun K' h => by
 refine ⟨cr_ct hC hp h, fun m hm => ?_⟩
 by_cases q : m = n
 ·
  rw [q]
  exact h2 K' h
 ·
  have hmod : n % 8 ≠ m % 8 := slot_ne hn hm q
  refine co_congr (cr_other (fun w => hmod ((pN_eq _ _).1 w).symm) (ph_ne _ _) ho h) (cr_other (fun w => ph_ne _ _ w.symm) (fun w => hmod ((hN_eq _ _).1 w).symm) ho h) (h1 m hm q)
theorem gone_ofC {S : Sp} {K : Nat → Option (List UInt8)} {c : Int} {a r : List Lay} {x : Lay} {pend : Option (Nat × List UInt8)} (h : OffJ S (appK K a) pend) (hp : pend = none ∨ pend = some (x.1, x.2.2)) (hc : ∀ K', CrK K (a ++ x :: r) K' → CtK K' c ∧ ∀ m, InW c m → CO K' m) : GoneC S c := by
 refine ⟨_, pend, h, fun K' hk => hc K' ⟨a, x :: r, rfl, ?_⟩⟩
 rcases hk with rfl | ⟨i, t, e, hk⟩
 ·
  exact .inl rfl
 ·
  rcases hp with rfl | rfl
  ·
   cases e
  ·
   cases e
   rcases hk with rfl | rfl
   ·
    exact .inr ⟨x, r, rfl, .inr rfl⟩
   ·
    exact .inr ⟨x, r, rfl, .inl rfl⟩
theorem ex_other {K : Nat → Option (List UInt8)} {n m : Int} {i : It} {pl : List Lay} (hp : ofN m pl) (hm : m % 8 ≠ n % 8) (h : EX K n i) : EX (appK K pl) n i :=
 ex_congr (appK_other (fun q => hm ((pN_eq _ _).1 q).symm) (ph_ne _ _) pl K hp) (appK_other (fun q => ph_ne _ _ q.symm) (fun q => hm ((hN_eq _ _).1 q).symm) pl K hp) h
/-! ### Put -/
/-! ### Void -/
/-! ### Shift -/
theorem ex_some {K : Nat → Option (List UInt8)} {n : Int} {i : It} (h : EX K n i) : K (pN n) ≠ none ∧ K (hN n) ≠ none := by
 rcases h with ⟨_, p, q, _⟩ | ⟨_, _, _, _, _, p, q⟩
 ·
  exact ⟨p, q⟩
 ·
  exact ⟨by rw [p]; simp, by rw [q]; simp⟩
theorem clean_shift {S : Sp} {J : Jn} (h : HereC S J) (c : Int) :
  (∃ x, shiftJ J c = (J, x) ∧ x ≠ 0) ∨ (∃ J', shiftJ J c = (J', 0) ∧ J'.c = c ∧ J.c ≤ c ∧ HereC S J') := by
 obtain ⟨hw, K, hT, hC, hA⟩ := h
 unfold shiftJ
 by_cases hc : c < J.c ∨ 72057594037927927 < c
 ·
  rw [if_pos hc]
  exact .inl ⟨1, rfl, by decide⟩
 ·
  rw [if_neg hc]
  have h1 : J.c ≤ c := by omega
  refine .inr ⟨_, rfl, rfl, h1, ⟨by simp, by show 0 ≤ c; have := hw.c0; omega, by show c ≤ _; omega, fun n hn => ?_⟩, K, hT, fun i i4 i20 => ct_more h1 (hC i i4 i20), fun n hn => ?_⟩
  ·
   rw [shift_item hn]
   by_cases q : J.has n
   ·
    exact hw.it n q
   ·
    rw [item_out q]
    exact .inl rfl
  ·
   rw [shift_item hn]
   by_cases q : J.has n
   ·
    exact hA n q
   ·
    rw [item_out q]
    have hlt : J.c + 8 < n := by
     obtain ⟨n1, n2⟩ := hn
     have n1 : c < n := n1
     unfold Jn.has at q
     omega
    have hag := (ct_not hC hlt).1 rfl
    -- the operation of the old window that has the slot
    have hm : J.has (slotN J.c (n % 8).toNat) := slot_has J _
    have hmod : slotN J.c (n % 8).toNat % 8 = n % 8 := by
     rw [slotN_mod _ _ (by omega)]
     omega
    have hs := ex_some (hA _ hm)
    rw [(pN_eq _ _).2 hmod, (hN_eq _ _).2 hmod] at hs
    exact .inl ⟨rfl, hs.1, hs.2, hag.1, hag.2⟩
/-! ### Read -/
/-! ### Scrub -/
theorem scrubs_same {K : Nat → Option (List UInt8)} {J : Jn} (hC : CtK K J.c) (hA : ∀ n, J.has n → EX K n (J.item n)) : ∀ s, s ≤ 8 → scrubKs K J s = K
 | 0, _ => rfl
 | s + 1, hs => by
  have hp := pN_lt (slotN J.c s)
  have hh := hN_lt (slotN J.c s)
  rw [scrubKs, scrubs_same hC hA s (by omega), (scrub_nil (hC _ (by omega) (by omega)) (hC _ (by omega) (by omega)) (hA _ (slot_has J s))).1]
  rfl
theorem clean_scrub {S : Sp} {J : Jn} (h : HereC S J) : ∃ S' J', scrubK S J 8 = (S', J', 0) ∧ HereC S' J' ∧ J'.c = J.c := by
 obtain ⟨hw, K, hT, hC, hA⟩ := h
 have hks := scrubs_same hC hA
 have hnil : ∀ n, J.has n → scrubKp (J.item n) (K (pN n)) (K (hN n)) n = [] ∧ scrubKx (J.item n) (K (pN n)) = J.item n := fun n hn => by
  have hp := pN_lt n
  have hh := hN_lt n
  exact scrub_nil (hC _ (by omega) (by omega)) (hC _ (by omega) (by omega)) (hA n hn)
 rcases scrubK_cl hT hw 8 (Nat.le_refl _) with ⟨S', J', e, t1, c1, l1, _, hx⟩ | ⟨S', J', s', a, x, r, pend, e, hs', ep, o1, hp, _⟩
 ·
  have hit : ∀ n, J.has n → J'.item n = J.item n := fun n hn => by
   rw [hx n hn]
   split
   ·
    rw [hks _ (by omega)]
    exact (hnil n hn).2
   ·
    rfl
  have hh : ∀ n, J'.has n ↔ J.has n := fun n => by unfold Jn.has; rw [c1]
  rw [hks 8 (Nat.le_refl _)] at t1
  refine ⟨S', J', e, ⟨⟨l1, by rw [c1]; exact hw.c0, by rw [c1]; exact hw.c1, fun n hn => ?_⟩, K, t1, by rw [c1]; exact hC, fun n hn => ?_⟩, c1⟩
  ·
   rw [hit n ((hh n).1 hn)]
   exact hw.it n ((hh n).1 hn)
  ·
   rw [hit n ((hh n).1 hn)]
   exact hA n ((hh n).1 hn)
 ·
  rw [hks _ (by omega), (hnil _ (slot_has J s')).1] at ep
  cases a <;> cases ep
/-! ### the power -/
/-! ### Open -/
theorem open_invC {K : Nat → Option (List UInt8)} {c : Int} (hC : CtK K c) (hO : ∀ n, InW c n → CO K n) : ∀ s, s ≤ 8 →
  (∀ s', s' ≤ s → CtK (openKs K c s') c) ∧ (∀ s', s' < s → EX (openKs K c s) (slotN c s') (judgeK (openKs K c s' (pN (slotN c s'))) (openKs K c s' (hN (slotN c s'))) (slotN c s'))) ∧ ∀ n, InW c n → CO (openKs K c s) n := by
 intro s
 induction s with
 | zero =>
  intro _
  refine ⟨fun s' hs' => ?_, fun s' h => absurd h (Nat.not_lt_zero _), hO⟩
  have e0 : s' = 0 := by omega
  rw [e0]
  exact hC
 | succ s ih =>
  intro hs
  obtain ⟨l1, a1, o1⟩ := ih (by omega)
  have c1 := l1 s (Nat.le_refl _)
  have hp := pN_lt (slotN c s)
  have hh := hN_lt (slotN c s)
  have hin := slotN_in c s
  obtain ⟨x1, _⟩ := ex_open (c1 (pN (slotN c s)) (by omega) (by omega)) (c1 (hN (slotN c s)) (by omega) (by omega)) (o1 _ hin)
  have p2 : ctP c (openKp (openKs K c s (pN (slotN c s))) (openKs K c s (hN (slotN c s))) (slotN c s)) ∧ ofN (slotN c s) (openKp (openKs K c s (pN (slotN c s))) (openKs K c s (hN (slotN c s))) (slotN c s)) := by
   obtain ⟨s1, k1⟩ := kc_ex (c1 (pN (slotN c s)) (by omega) (by omega))
   obtain ⟨s2, k2⟩ := kc_ex (c1 (hN (slotN c s)) (by omega) (by omega))
   rw [← open_kc k1 k2]
   exact ⟨ct_open hin.2 _ _, open_of _ _ _⟩
  refine ⟨fun s' hs' => ?_, fun s' hs' => ?_, fun n hn => ?_⟩
  ·
   by_cases w : s' ≤ s
   ·
    exact l1 s' w
   ·
    have e0 : s' = s + 1 := by omega
    rw [e0]
    exact ct_app _ c1 p2.1
  ·
   by_cases q : s' = s
   ·
    rw [q]
    exact x1
   ·
    refine ex_other p2.2 ?_ (a1 s' (by omega))
    rw [slotN_mod c s (by omega), slotN_mod c s' (by omega)]
    omega
  ·
   by_cases q : n = slotN c s
   ·
    rw [q]
    exact ex_co x1
   ·
    have hmod : slotN c s % 8 ≠ n % 8 := slot_ne hin hn q
    exact co_congr (appK_other (fun w => hmod ((pN_eq _ _).1 w).symm) (ph_ne _ _) _ _ p2.2) (appK_other (fun w => ph_ne _ _ w.symm) (fun w => hmod ((hN_eq _ _).1 w).symm) _ _ p2.2) (o1 n hn)
theorem clean_open {S : Sp} {c : Int} (h : BackC S c) (h0 : 0 ≤ c) (h1 : c ≤ 72057594037927927) :
  (∃ S' X, openK S c 8 = (S', X, 0) ∧ HereC S' ⟨c, X⟩) ∨ (∃ S' X, openK S c 8 = (S', X, 6) ∧ GoneC S' c) := by
 obtain ⟨K, hT, hC, hO⟩ := h
 have inv := open_invC hC hO
 rcases openK_cl hT c 8 (Nat.le_refl _) with ⟨S', X, e, t1, l1, _, hx⟩ | ⟨S', X, s', a, x, r, pend, e, hs', ep, o1, hp, _⟩
 ·
  obtain ⟨i1, i2, _⟩ := inv 8 (Nat.le_refl _)
  have hit : ∀ n, c < n ∧ n ≤ c + 8 → (⟨c, X⟩ : Jn).item n = judgeK (openKs K c (n % 8).toNat (pN n)) (openKs K c (n % 8).toNat (hN n)) n := fun n hn => by
   have h8 : (n % 8).toNat < 8 := by omega
   have h2 := hx (n % 8).toNat h8
   rw [slotN_of hn] at h2
   unfold Jn.item
   rw [if_pos (show Jn.has ⟨c, X⟩ n from hn)]
   exact h2
  refine .inl ⟨S', X, e, ⟨l1, h0, h1, fun n hn => ?_⟩, _, t1, i1 8 (Nat.le_refl _), fun n hn => ?_⟩
  ·
   have hp := pN_lt n
   have hh := hN_lt n
   rw [hit n hn]
   have c3 := i1 (n % 8).toNat (by omega)
   exact judgeK_wf (c3 _ (by omega) (by omega)) (c3 _ (by omega) (by omega))
  ·
   rw [hit n hn]
   have h3 := i2 (n % 8).toNat (by omega)
   rw [slotN_of (c := c) (n := n) hn] at h3
   exact h3
 ·
  obtain ⟨i1, _, i3⟩ := inv s' (by omega)
  have c1 := i1 s' (Nat.le_refl _)
  have hpn := pN_lt (slotN c s')
  have hhn := hN_lt (slotN c s')
  have hin := slotN_in c s'
  have p2 : ctP c (openKp (openKs K c s' (pN (slotN c s'))) (openKs K c s' (hN (slotN c s'))) (slotN c s')) ∧ ofN (slotN c s') (openKp (openKs K c s' (pN (slotN c s'))) (openKs K c s' (hN (slotN c s'))) (slotN c s')) := by
   obtain ⟨s1, k1⟩ := kc_ex (c1 (pN (slotN c s')) (by omega) (by omega))
   obtain ⟨s2, k2⟩ := kc_ex (c1 (hN (slotN c s')) (by omega) (by omega))
   rw [← open_kc k1 k2]
   exact ⟨ct_open hin.2 _ _, open_of _ _ _⟩
  have hall := cr_all hin c1 p2.1 p2.2 (fun m hm _ => i3 m hm) (ex_open (c1 (pN (slotN c s')) (by omega) (by omega)) (c1 (hN (slotN c s')) (by omega) (by omega)) (i3 _ hin)).2
  rw [ep] at hall
  exact .inr ⟨S', X, e, gone_ofC o1 hp hall⟩
/-- the journal that is opened on a formatted disk -/
theorem begin_clean (n : Nat) (hn : 20 ≤ n) : ∃ S S' X, formatJ (Sp.mk0 n) = (S, 0) ∧ openK S 0 8 = (S', X, 0) ∧ HereC S' ⟨0, X⟩ ∧ S'.left = 0 := by
 obtain ⟨S, e, t, z, _, _⟩ := format_mk0 n hn
 have hb : BackC S 0 := ⟨_, t, fun i _ _ => .inr (.inl rfl), fun n _ => co_void rfl⟩
 obtain ⟨o1, o2, _⟩ := openK_zero t z 0 8 (Nat.le_refl _)
 rcases clean_open hb (by decide) (by decide) with ⟨S', X, e2, h⟩ | ⟨S', X, e2, _⟩
 ·
  rw [e2] at o2
  exact ⟨S, S', X, e, e2, h, o2⟩
 ·
  rw [e2] at o1
  cases o1
end Go.Proofs.YtafbeepacncooaaDoor
/-
  Behind a scrub whoever opens the disk reads what the journal knows, in plain words: slot by slot.
-/
namespace Go.Proofs.YtafbeepacncooaaDoor
open Go.RowKit
set_option maxRecDepth 10000

/-- what is known of a slot, and what it has; a faulty one's entry is not there -/
def AgF (K : Nat → Option (List UInt8)) (n : Int) (i : It) : Prop := AgI K n i ∧ (i.kind = 2 → stubS (eK (K (pN n))).1 ≠ i.stub)
/-- whoever opens the disk finds it so, and lays nothing -/
def SC (K : Nat → Option (List UInt8)) (n : Int) (i : It) : Prop := openKp (K (pN n)) (K (hN n)) n = [] ∧ (i.kind ≠ 3 → judgeK (K (pN n)) (K (hN n)) n = i)
theorem sc_congr {K K' : Nat → Option (List UInt8)} {n : Int} {i : It} (h1 : K' (pN n) = K (pN n)) (h2 : K' (hN n) = K (hN n)) (h : SC K n i) : SC K' n i := by
 unfold SC at h ⊢
 rw [h1, h2]
 exact h
theorem agf_of {K : Nat → Option (List UInt8)} {n : Int} {i : It} (h : AgI K n i) (h2 : i.kind ≠ 2) : AgF K n i := ⟨h, fun q => absurd q h2⟩
theorem agf_other {K : Nat → Option (List UInt8)} {n m : Int} {i : It} (hw : WfI n i) {pl : List Lay} (hp : ofN m pl) (hm : m % 8 ≠ n % 8) (h : AgF K n i) : AgF (appK K pl) n i :=
 ⟨ag_other hw hp hm h.1, fun q => by
  rw [appK_other (fun q => hm ((pN_eq _ _).1 q).symm) (ph_ne _ _) pl K hp]
  exact h.2 q⟩
theorem stub_en0 : stubS en0 = st0 := if_neg (by unfold Rt en0; simp)
theorem ek_not {o : Option (List UInt8)} {s : St} (hs : SRt s) (h : (eK o).2.1 = false) : stubS (eK o).1 ≠ s := by
 have e1 : (eK o).1 = en0 := by
  unfold eK at h ⊢
  split
  ·
   rfl
  ·
   split
   ·
    rfl
   ·
    rename_i h1
    simp only [h1, if_false] at h ⊢
    split
    ·
     rename_i h2
     simp [h2] at h
    ·
     rfl
 rw [e1, stub_en0]
 rintro rfl
 exact st0_not hs
theorem agf_none {K : Nat → Option (List UInt8)} {n : Int} {i : It} (hw : WfI n i) (k : Nat) (h : AgF K n i) : AgF (updJ K k none) n i := by
 refine ⟨ag_none k h.1, fun q => ?_⟩
 by_cases w : pN n = k
 ·
  rw [← w, upd_at]
  exact ek_not (wf_stub hw (.inr q)).2 rfl
 ·
  rw [upd_off w]
  exact h.2 q
theorem agf_open {K : Nat → Option (List UInt8)} {c : Int} {n : Int} (h1 : Ct c (pN n) (K (pN n))) (h2 : Ct c (hN n) (K (hN n))) : AgF (appK K (openKp (K (pN n)) (K (hN n)) n)) n (judgeK (K (pN n)) (K (hN n)) n) := by
 refine ⟨ag_open h1 h2, fun q => ?_⟩
 have hp : openKp (K (pN n)) (K (hN n)) n = [] := by
  unfold openKp
  rw [if_neg (by rw [q]; decide), if_neg (by rw [q]; rintro ⟨w, -⟩; exact absurd w (by decide))]
 rw [hp]
 show stubS (eK (K (pN n))).1 ≠ _
 revert q
 unfold judgeK
 split
 ·
  intro q
  cases q
 ·
  rename_i w
  split
  ·
   rename_i w2
   exact fun _ q => w ⟨w2.1, w2.2, q⟩
  ·
   split
   ·
    intro q
    cases q
   ·
    split
    ·
     intro q
     cases q
    ·
     split <;> intro q <;> cases q
/-! ### Scrub -/
theorem sc_two {K : Nat → Option (List UInt8)} {n : Int} {s : St} (hf : s.fits) (hs : SRt s) (ho : s.opn = n) (hk : K (hN n) = some s.bytes) (hp : stubS (eK (K (pN n))).1 ≠ s) : SC K n ⟨2, s, en0⟩ := by
 have s2 : sK (K (hN n)) = (s, true, true) := by rw [hk]; exact sK_stub hf hs
 have hj : judgeK (K (pN n)) (K (hN n)) n = ⟨2, s, en0⟩ := by
  unfold judgeK
  rw [s2, if_neg (fun q => hp q.2.2), if_pos ⟨rfl, ho⟩]
 refine ⟨?_, fun _ => hj⟩
 unfold openKp
 rw [hj, if_neg (show ¬ (2 : Int) = 0 by decide), if_neg (by rintro ⟨q, -⟩; exact absurd q (show ¬ (2 : Int) = 1 by decide))]
theorem sc_one {K : Nat → Option (List UInt8)} {n : Int} {e : En} (he : e.fits) (hr : Rt e) (ho : e.opn = n) (hp : K (pN n) = some (packE e).1) (hk : K (hN n) = some (stubS e).bytes) : SC K n ⟨1, stubS e, e⟩ := by
 have s1 : eK (K (pN n)) = (e, true, true) := by rw [hp]; exact eK_entry he hr
 have s2 : sK (K (hN n)) = (stubS e, true, true) := by rw [hk]; exact sK_own he hr
 have so : (stubS e).opn = n := by rw [stubS_rt hr]; exact ho
 have hj : judgeK (K (pN n)) (K (hN n)) n = ⟨1, stubS e, e⟩ := by
  unfold judgeK
  rw [s1, s2, if_pos ⟨rfl, so, rfl⟩]
 refine ⟨?_, fun _ => hj⟩
 unfold openKp
 rw [hj, if_neg (show ¬ (1 : Int) = 0 by decide), s2, if_neg (by rintro ⟨-, q⟩; cases q)]
theorem sc_zero {K : Nat → Option (List UInt8)} {n : Int} (p2 : (eK (K (pN n))).2.2 = true) (p1 : (eK (K (pN n))).2.1 = true → (eK (K (pN n))).1.opn ≠ n) (h2 : (sK (K (hN n))).2.2 = true) (h1 : (sK (K (hN n))).2.1 = true → (sK (K (hN n))).1.opn ≠ n) : SC K n it0 := by
 have hj : judgeK (K (pN n)) (K (hN n)) n = it0 := by
  unfold judgeK
  rw [if_neg (fun q => h1 q.1 q.2.1), if_neg (fun q => h1 q.1 q.2), if_pos h2]
 refine ⟨?_, fun _ => hj⟩
 unfold openKp
 rw [hj, if_pos (show it0.kind = 0 from rfl)]
 unfold cleanKp
 rw [if_neg, if_neg]
 ·
  rfl
 ·
  rintro (q | ⟨q, w⟩)
  ·
   rw [h2] at q; cases q
  ·
   exact h1 q w
 ·
  rintro (q | ⟨q, w⟩)
  ·
   rw [p2] at q; cases q
  ·
   exact p1 q w
theorem sc_clean (K : Nat → Option (List UInt8)) (n : Int) : SC (appK K (cleanKp (K (pN n)) (K (hN n)) n)) n it0 := by
 have hhp : hN n ≠ pN n := fun q => ph_ne _ _ q.symm
 have hph : pN n ≠ hN n := ph_ne _ _
 unfold cleanKp
 rw [appK_app]
 generalize hP : (if (eK (K (pN n))).2.2 = false ∨ ((eK (K (pN n))).2.1 = true ∧ (eK (K (pN n))).1.opn = n) then [lV (pN n)] else []) = P
 have e3 : appK K P (hN n) = K (hN n) := by
  rw [← hP]
  split
  ·
   exact upd_off hhp
  ·
   rfl
 have e2 := app_if (appK K P) (hN n) ((sK (K (hN n))).2.2 = false ∨ ((sK (K (hN n))).2.1 = true ∧ (sK (K (hN n))).1.opn = n))
 rw [e3] at e2
 have e1 : appK (appK K P) (if (sK (K (hN n))).2.2 = false ∨ ((sK (K (hN n))).2.1 = true ∧ (sK (K (hN n))).1.opn = n) then [lV (hN n)] else []) (pN n) = appK K P (pN n) := by
  split
  ·
   exact upd_off hph
  ·
   rfl
 have e4 := app_if K (pN n) ((eK (K (pN n))).2.2 = false ∨ ((eK (K (pN n))).2.1 = true ∧ (eK (K (pN n))).1.opn = n))
 rw [hP] at e4
 have tb : ∀ {b : Bool}, ¬ b = false → b = true := fun {b} h => by cases b <;> simp_all
 refine sc_zero ?_ ?_ ?_ ?_
 ·
  rw [e1, e4]
  split
  ·
   rfl
  ·
   rename_i h
   exact tb fun q => h (.inl q)
 ·
  rw [e1, e4]
  split
  ·
   intro q
   cases q
  ·
   rename_i h
   exact fun q w => h (.inr ⟨q, w⟩)
 ·
  rw [e2]
  split
  ·
   rfl
  ·
   rename_i h
   exact tb fun q => h (.inl q)
 ·
  rw [e2]
  split
  ·
   intro q
   cases q
  ·
   rename_i h
   exact fun q w => h (.inr ⟨q, w⟩)
/-- a stub that is laid if it is not there -/
theorem lay_stub {K : Nat → Option (List UInt8)} {n : Int} {s : St} (ho : s.opn = n) (hk : K (hN n) = none ∨ K (hN n) = some s.bytes) :
  (appK K (if (sK (K (hN n))).2.1 = false ∨ (sK (K (hN n))).1 ≠ s then [lS s] else [])) (hN n) = some s.bytes ∧ (appK K (if (sK (K (hN n))).2.1 = false ∨ (sK (K (hN n))).1 ≠ s then [lS s] else [])) (pN n) = K (pN n) := by
 have hph : pN n ≠ hN n := ph_ne _ _
 subst ho
 split
 ·
  exact ⟨upd_at _ _ _, upd_off hph⟩
 ·
  rename_i h
  refine ⟨?_, rfl⟩
  rcases hk with q | q
  ·
   exact absurd (.inl (by rw [q]; rfl)) h
  ·
   exact q
theorem scrub_plan {i : It} {n : Int} {p h : Option (List UInt8)} (hi : i.kind = 1 ∨ i.kind = 2) : scrubKp i p h n = if (sK h).2.1 = false ∨ (sK h).1 ≠ i.stub then [lS i.stub] else [] := by
 unfold scrubKp
 rw [if_neg (by rcases hi with q | q <;> rw [q] <;> decide)]
 by_cases q : (sK h).2.1 = false ∨ (sK h).1 ≠ i.stub
 ·
  rw [if_pos ⟨hi, q⟩, if_pos q]
 ·
  rw [if_neg (fun w => q w.2), if_neg q]
theorem sc_scrub {K : Nat → Option (List UInt8)} {n : Int} {i : It} (hw : WfI n i) (h : AgF K n i) : SC (appK K (scrubKp i (K (pN n)) (K (hN n)) n)) n (scrubKx i (K (pN n))) ∧ AgF (appK K (scrubKp i (K (pN n)) (K (hN n)) n)) n (scrubKx i (K (pN n))) := by
  have hag := ag_scrub hw h.1
  rcases hw with rfl | ⟨e, fe, re, oe, rfl⟩ | ⟨s, fs, rs, os, rfl⟩ | rfl
  · have e1 : scrubKx it0 (K (pN n)) = it0 := by
      unfold scrubKx
      rw [if_neg (by rintro ⟨q, -⟩; cases q)]
    have e2 : scrubKp it0 (K (pN n)) (K (hN n)) n = cleanKp (K (pN n)) (K (hN n)) n := by
      unfold scrubKp
      rw [if_pos (show it0.kind = 0 from rfl)]
    rw [e1, e2] at hag ⊢
    exact ⟨sc_clean K n, agf_of hag (show ¬ (0 : Int) = 2 by decide)⟩
  · subst oe
    obtain ⟨hp, hk⟩ := h.1.2.1 rfl
    have so : (stubS e).opn = e.opn := by rw [stubS_rt re]
    obtain ⟨a1, a2⟩ := lay_stub so hk
    rw [scrub_plan (i := ⟨1, stubS e, e⟩) (.inl rfl)] at hag ⊢
    simp only at hag ⊢
    have hp : K (pN e.opn) = none ∨ K (pN e.opn) = some (packE e).1 := hp
    rcases hp with q | q
    · have e1 : scrubKx ⟨1, stubS e, e⟩ (K (pN e.opn)) = ⟨2, stubS e, en0⟩ := by
        unfold scrubKx
        rw [q, if_pos ⟨rfl, .inl rfl⟩]
      rw [e1] at hag ⊢
      have hne := ek_not (o := none) (stubS_ok re) rfl
      exact ⟨sc_two (stubS_fits fe) (stubS_ok re) so a1 (by rw [a2, q]; exact hne), hag, fun _ => by rw [a2, q]; exact hne⟩
    · have e1 : scrubKx ⟨1, stubS e, e⟩ (K (pN e.opn)) = ⟨1, stubS e, e⟩ := by
        unfold scrubKx
        rw [q, eK_entry fe re, if_neg (by rintro ⟨-, w | w⟩; · cases w
                                          · exact w rfl)]
      rw [e1] at hag ⊢
      exact ⟨sc_one fe re rfl (by rw [a2]; exact q) a1, agf_of hag (show ¬ (1 : Int) = 2 by decide)⟩
  · have hk := h.1.2.2.1 rfl
    have hne := h.2 rfl
    obtain ⟨a1, a2⟩ := lay_stub os hk
    have e1 : scrubKx ⟨2, s, en0⟩ (K (pN n)) = ⟨2, s, en0⟩ := by
      unfold scrubKx
      rw [if_neg (by rintro ⟨q, -⟩; exact absurd q (show ¬ (2 : Int) = 1 by decide))]
    rw [scrub_plan (i := ⟨2, s, en0⟩) (.inr rfl), e1] at hag ⊢
    exact ⟨sc_two fs rs os a1 (by rw [a2]; exact hne), hag, fun _ => by rw [a2]; exact hne⟩
  · obtain ⟨k1, k2⟩ := h.1.2.2.2 rfl
    have e1 : scrubKx ⟨3, st0, en0⟩ (K (pN n)) = ⟨3, st0, en0⟩ := by
      unfold scrubKx
      rw [if_neg (by rintro ⟨q, -⟩; exact absurd q (show ¬ (3 : Int) = 1 by decide))]
    have e2 : scrubKp ⟨3, st0, en0⟩ (K (pN n)) (K (hN n)) n = [] := by
      unfold scrubKp
      rw [if_neg (show ¬ (3 : Int) = 0 by decide), if_neg (by rintro ⟨q, -⟩; rcases q with q | q <;> exact absurd q (by decide))]
    rw [e1, e2] at hag ⊢
    refine ⟨⟨?_, fun q => absurd rfl q⟩, agf_of hag (show ¬ (3 : Int) = 2 by decide)⟩
    show openKp (K (pN n)) (K (hN n)) n = []
    rw [k1, k2]
    rfl
end Go.Proofs.YtafbeepacncooaaDoor
/-
  Behind a scrub whoever opens the disk reads what the journal knows, in plain words: every call, rot, the power; the scrub at the end.
-/
namespace Go.Proofs.YtafbeepacncooaaDoor
open Go.RowKit
set_option maxRecDepth 10000

/-- the power is on, the journal knows -/
structure HereF (S : Sp) (J : Jn) : Prop where
 wf : JWf J
 ex : ∃ K, TdJ S K ∧ CtK K J.c ∧ ∀ n, J.has n → AgF K n (J.item n)
def BackF (S : Sp) (c : Int) : Prop := ∃ K, TdJ S K ∧ CtK K c
def GoneF (S : Sp) (c : Int) : Prop := ∃ K pend, OffJ S K pend ∧ CtK K c ∧ ∀ i t, pend = some (i, t) → Ct c i (some t)
theorem gone_ofF {S : Sp} {K : Nat → Option (List UInt8)} {c : Int} {a r : List Lay} {x : Lay} {pend : Option (Nat × List UInt8)} (h : OffJ S (appK K a) pend) (ht : CtK K c) (hc : ctP c (a ++ x :: r)) (hp : pend = none ∨ pend = some (x.1, x.2.2)) : GoneF S c :=
 ⟨_, _, h, ct_app a ht (fun y hy => hc y (by simp [hy])), fun i t e => by
  rcases hp with rfl | rfl
  ·
   cases e
  ·
   cases e
   exact hc x (by simp)⟩
/-! ### Put -/
theorem f_put {S : Sp} {J : Jn} (h : HereF S J) (e : En) (he : e.fits) :
  (∃ S' J', putJ S J e = (S', J', 0) ∧ HereF S' J' ∧ J'.c = J.c) ∨ (∃ x, putJ S J e = (S, J, x) ∧ x ≠ 0) ∨ (∃ S', putJ S J e = (S', J, 6) ∧ GoneF S' J.c) := by
 obtain ⟨hw, K, hT, hC, hA⟩ := id h
 unfold putJ
 by_cases hr : Rt e
 ·
  rw [if_neg (not_not_intro hr)]
  by_cases hh : J.has e.opn
  ·
   rw [if_neg (not_not_intro hh)]
   by_cases hq : (J.item e.opn).kind = 1 ∧ (J.item e.opn).entry = e
   ·
    rw [if_pos hq]
    exact .inl ⟨S, J, rfl, h, rfl⟩
   ·
    rw [if_neg hq]
    have hct := put_ct (c := J.c) (i := J.item e.opn) he hr hh.2
    have hof := put_of (J.item e.opn) hr
    rcases layL_steps _ hT (put_lays (i := J.item e.opn) he hr) with ⟨S', e1, t1, _⟩ | ⟨S', a, x, r, pend, e1, ep, o1, hp, _⟩
    ·
     rw [e1, if_pos rfl]
     refine .inl ⟨S', _, rfl, ⟨jset_wf hw hh (.inr (.inl ⟨e, he, hr, rfl, rfl⟩)), _, t1, ct_app _ hC hct, fun n hn => ?_⟩, rfl⟩
     rw [set_item hw.len _ hh]
     by_cases q : n = e.opn
     ·
      rw [if_pos q, q]
      exact agf_of (ag_holds (ag_put hr (hA _ hh).1)) (show ¬ (1 : Int) = 2 by decide)
     ·
      rw [if_neg q]
      exact agf_other (hw.it n hn) hof (slot_ne hh hn q) (hA n hn)
    ·
     rw [e1, if_neg (by simp)]
     rw [ep] at hct
     exact .inr (.inr ⟨S', rfl, gone_ofF o1 hC hct hp⟩)
  ·
   rw [if_pos hh]
   exact .inr (.inl ⟨1, rfl, by decide⟩)
 ·
  rw [if_pos hr]
  exact .inr (.inl ⟨4, rfl, by decide⟩)
/-! ### Void -/
theorem f_void {S : Sp} {J : Jn} (h : HereF S J) (n : Int) :
  (∃ S' J', voidJ S J n = (S', J', 0) ∧ HereF S' J' ∧ J'.c = J.c) ∨ (∃ x, voidJ S J n = (S, J, x) ∧ x ≠ 0) ∨ (∃ S', voidJ S J n = (S', J, 6) ∧ GoneF S' J.c) := by
 obtain ⟨hw, K, hT, hC, hA⟩ := id h
 unfold voidJ
 by_cases hh : J.has n
 ·
  rw [if_neg (not_not_intro hh)]
  by_cases hq : (J.item n).kind = 0
  ·
   rw [if_pos hq]
   exact .inl ⟨S, J, rfl, h, rfl⟩
  ·
   rw [if_neg hq]
   have hct := void_ct J.c (J.item n) n
   have hof := void_of (J.item n) n
   rcases layL_steps _ hT (void_lays (J.item n) n) with ⟨S', e1, t1, _⟩ | ⟨S', a, x, r, pend, e1, ep, o1, hp, _⟩
   ·
    rw [e1, if_pos rfl]
    refine .inl ⟨S', _, rfl, ⟨jset_wf hw hh (.inl rfl), _, t1, ct_app _ hC hct, fun m hm => ?_⟩, rfl⟩
    rw [set_item hw.len _ hh]
    by_cases q : m = n
    ·
     rw [if_pos q, q]
     exact agf_of (ag_voidP hq) (show ¬ (0 : Int) = 2 by decide)
    ·
     rw [if_neg q]
     exact agf_other (hw.it m hm) hof (slot_ne hh hm q) (hA m hm)
   ·
    rw [e1, if_neg (by simp)]
    rw [ep] at hct
    exact .inr (.inr ⟨S', rfl, gone_ofF o1 hC hct hp⟩)
 ·
  rw [if_pos hh]
  exact .inr (.inl ⟨1, rfl, by decide⟩)
/-! ### Shift -/
theorem f_shift {S : Sp} {J : Jn} (h : HereF S J) (c : Int) :
  (∃ x, shiftJ J c = (J, x) ∧ x ≠ 0) ∨ (∃ J', shiftJ J c = (J', 0) ∧ J'.c = c ∧ J.c ≤ c ∧ HereF S J') := by
 obtain ⟨hw, K, hT, hC, hA⟩ := h
 unfold shiftJ
 by_cases hc : c < J.c ∨ 72057594037927927 < c
 ·
  rw [if_pos hc]
  exact .inl ⟨1, rfl, by decide⟩
 ·
  rw [if_neg hc]
  have h1 : J.c ≤ c := by omega
  refine .inr ⟨_, rfl, rfl, h1, ⟨by simp, by show 0 ≤ c; have := hw.c0; omega, by show c ≤ _; omega, fun n hn => ?_⟩, K, hT, fun i i4 i20 => ct_more h1 (hC i i4 i20), fun n hn => ?_⟩
  ·
   rw [shift_item hn]
   by_cases q : J.has n
   ·
    exact hw.it n q
   ·
    rw [item_out q]
    exact .inl rfl
  ·
   rw [shift_item hn]
   by_cases q : J.has n
   ·
    exact hA n q
   ·
    rw [item_out q]
    refine agf_of (ct_not hC ?_) (show ¬ (0 : Int) = 2 by decide)
    obtain ⟨n1, n2⟩ := hn
    have n1 : c < n := n1
    unfold Jn.has at q
    omega
/-! ### Read -/
theorem f_read {S : Sp} {J : Jn} (h : HereF S J) (n : Int) : ∃ J' e x, readJn S J n = (J', e, x) ∧ HereF S J' ∧ J'.c = J.c := by
 obtain ⟨hw, K, hT, hC, hA⟩ := id h
 unfold readJn
 by_cases hh : J.has n
 ·
  rw [if_neg (not_not_intro hh)]
  by_cases h0 : (J.item n).kind = 0
  ·
   rw [if_pos h0]
   exact ⟨J, _, _, rfl, h, rfl⟩
  ·
   rw [if_neg h0]
   by_cases h1 : (J.item n).kind = 1
   ·
    rw [if_neg (not_not_intro h1)]
    have hr := reads_of hT n
    rw [hr.p]
    simp only
    rw [if_neg (by simp)]
    by_cases hq : (entryS (secJ S (pN n)).lasts).2.1 = false ∨ stubS (entryS (secJ S (pN n)).lasts).1 ≠ (J.item n).stub
    ·
     rw [if_pos hq]
     rw [entry_kc hr.kp] at hq
     obtain ⟨e, fe, re, oe, he⟩ : ∃ e : En, e.fits ∧ Rt e ∧ e.opn = n ∧ J.item n = ⟨1, stubS e, e⟩ := by
      rcases hw.it n hh with q | q | ⟨s, _, _, _, q⟩ | q
      ·
       rw [q] at h0; exact absurd rfl h0
      ·
       exact q
      ·
       rw [q] at h1; exact absurd h1 (by simp)
      ·
       rw [q] at h1; exact absurd h1 (by simp)
     refine ⟨_, _, _, rfl, ⟨jset_wf hw hh ?_, K, hT, hC, fun m hm => ?_⟩, rfl⟩
     ·
      rw [he]
      exact .inr (.inr (.inl ⟨stubS e, stubS_fits fe, stubS_ok re, by rw [stubS_rt re]; exact oe, rfl⟩))
     ·
      rw [set_item hw.len _ hh]
      by_cases q : m = n
      ·
       rw [if_pos q, q]
       have ha := (hA n hh).1.2.1 h1
       rw [he] at ha hq ⊢
       subst oe
       refine ⟨⟨fun q => absurd (congrArg It.kind q) (show ¬ (2 : Int) = 0 by decide), fun q => absurd q (show ¬ (2 : Int) = 1 by decide), fun _ => ha.2, fun q => absurd q (show ¬ (2 : Int) = 3 by decide)⟩, fun _ => ?_⟩
       rcases hq with q | q
       ·
        exact ek_not (stubS_ok re) q
       ·
        exact q
      ·
       rw [if_neg q]
       exact hA m hm
    ·
     rw [if_neg hq]
     exact ⟨J, _, _, rfl, h, rfl⟩
   ·
    rw [if_pos h1]
    exact ⟨J, _, _, rfl, h, rfl⟩
 ·
  rw [if_pos hh]
  exact ⟨J, _, _, rfl, h, rfl⟩
/-! ### Scrub -/
theorem scrub_invF {K : Nat → Option (List UInt8)} {J : Jn} (hw : JWf J) (hC : CtK K J.c) (hA : ∀ n, J.has n → AgF K n (J.item n)) : ∀ s, s ≤ 8 →
  (∀ s', s' ≤ s → CtK (scrubKs K J s') J.c) ∧ (∀ n, J.has n → AgF (scrubKs K J s) n (if (n % 8).toNat < s then scrubKx (J.item n) (scrubKs K J (n % 8).toNat (pN n)) else J.item n)) ∧ (∀ n, J.has n → (n % 8).toNat < s → SC (scrubKs K J s) n (scrubKx (J.item n) (scrubKs K J (n % 8).toNat (pN n)))) := by
 intro s
 induction s with
 | zero =>
  intro _
  refine ⟨fun s' hs' => ?_, fun n hn => ?_, fun n _ h => absurd h (Nat.not_lt_zero _)⟩
  ·
   have e0 : s' = 0 := by omega
   rw [e0]
   exact hC
  ·
   rw [if_neg (Nat.not_lt_zero _)]
   exact hA n hn
 | succ s ih =>
  intro hs
  obtain ⟨l1, a1, x1⟩ := ih (by omega)
  have c1 := l1 s (Nat.le_refl _)
  have hp := pN_lt (slotN J.c s)
  have hh := hN_lt (slotN J.c s)
  have hin := slot_has J s
  have hm := slotN_mod J.c s (by omega)
  have p2 : ctP J.c (scrubKp (J.item (slotN J.c s)) (scrubKs K J s (pN (slotN J.c s))) (scrubKs K J s (hN (slotN J.c s))) (slotN J.c s)) ∧ ofN (slotN J.c s) (scrubKp (J.item (slotN J.c s)) (scrubKs K J s (pN (slotN J.c s))) (scrubKs K J s (hN (slotN J.c s))) (slotN J.c s)) := by
   obtain ⟨s1, k1⟩ := kc_ex (c1 (pN (slotN J.c s)) (by omega) (by omega))
   obtain ⟨s2, k2⟩ := kc_ex (c1 (hN (slotN J.c s)) (by omega) (by omega))
   rw [← scrub_kc k1 k2]
   exact ⟨ct_scrub (hw.it _ hin) hin.2 _ _, scrub_item_of J hw s _ _⟩
  have own : SC (scrubKs K J (s + 1)) (slotN J.c s) (scrubKx (J.item (slotN J.c s)) (scrubKs K J s (pN (slotN J.c s)))) ∧ AgF (scrubKs K J (s + 1)) (slotN J.c s) (scrubKx (J.item (slotN J.c s)) (scrubKs K J s (pN (slotN J.c s)))) := by
   have ha := a1 _ hin
   rw [show ((slotN J.c s) % 8).toNat = s by omega, if_neg (by omega)] at ha
   exact sc_scrub (hw.it _ hin) ha
  have wx : ∀ n, J.has n → ∀ s', s' ≤ s → WfI n (scrubKx (J.item n) (scrubKs K J s' (pN n))) := fun n hn s' hs' => by
   have hp := pN_lt n
   obtain ⟨s1, k1⟩ := kc_ex (l1 s' hs' (pN n) (by omega) (by omega))
   rw [← scrubx_kc k1]
   exact wf_scrub (hw.it n hn) _
  refine ⟨fun s' hs' => ?_, fun n hn => ?_, fun n hn hlt => ?_⟩
  ·
   by_cases w : s' ≤ s
   ·
    exact l1 s' w
   ·
    have e0 : s' = s + 1 := by omega
    rw [e0]
    exact ct_app _ c1 p2.1
  ·
   by_cases q : n = slotN J.c s
   ·
    subst q
    rw [show ((slotN J.c s) % 8).toNat = s by omega, if_pos (by omega)]
    exact own.2
   ·
    have hq : (n % 8).toNat ≠ s := fun w => q (by
     have := slotN_of (c := J.c) (n := n) hn
     rw [w] at this
     exact this.symm)
    have e2 : (if (n % 8).toNat < s + 1 then scrubKx (J.item n) (scrubKs K J (n % 8).toNat (pN n)) else J.item n) = (if (n % 8).toNat < s then scrubKx (J.item n) (scrubKs K J (n % 8).toNat (pN n)) else J.item n) := by
     by_cases w : (n % 8).toNat < s
     ·
      rw [if_pos w, if_pos (by omega)]
     ·
      rw [if_neg w, if_neg (by omega)]
    rw [e2]
    refine agf_other ?_ p2.2 (slot_ne hin hn q) (a1 n hn)
    split
    ·
     rename_i w
     exact wx n hn _ (by omega)
    ·
     exact hw.it n hn
  ·
   by_cases q : n = slotN J.c s
   ·
    subst q
    rw [show ((slotN J.c s) % 8).toNat = s by omega]
    exact own.1
   ·
    have hq : (n % 8).toNat ≠ s := fun w => q (by
     have := slotN_of (c := J.c) (n := n) hn
     rw [w] at this
     exact this.symm)
    have hmod : slotN J.c s % 8 ≠ n % 8 := slot_ne hin hn q
    exact sc_congr (appK_other (fun w => hmod ((pN_eq _ _).1 w).symm) (ph_ne _ _) _ _ p2.2) (appK_other (fun w => ph_ne _ _ w.symm) (fun w => hmod ((hN_eq _ _).1 w).symm) _ _ p2.2) (x1 n hn (by omega))
theorem f_scrub {S : Sp} {J : Jn} (h : HereF S J) :
  (∃ S' J' K, scrubK S J 8 = (S', J', 0) ∧ JWf J' ∧ J'.c = J.c ∧ TdJ S' K ∧ CtK K J.c ∧ (∀ n, J'.has n → AgF K n (J'.item n)) ∧ ∀ n, J'.has n → SC K n (J'.item n)) ∨ (∃ S' J', scrubK S J 8 = (S', J', 6) ∧ GoneF S' J.c) := by
 obtain ⟨hw, K, hT, hC, hA⟩ := h
 have inv := scrub_invF hw hC hA
 rcases scrubK_cl hT hw 8 (Nat.le_refl _) with ⟨S', J', e, t1, c1, l1, _, hx⟩ | ⟨S', J', s', a, x, r, pend, e, hs', ep, o1, hp, _⟩
 ·
  obtain ⟨i1, i2, i3⟩ := inv 8 (Nat.le_refl _)
  have hh : ∀ n, J'.has n ↔ J.has n := fun n => by unfold Jn.has; rw [c1]
  have hx8 : ∀ n, J.has n → J'.item n = scrubKx (J.item n) (scrubKs K J (n % 8).toNat (pN n)) := fun n hn => by
   rw [hx n hn, if_pos (by omega)]
  refine .inl ⟨S', J', _, e, ⟨l1, by rw [c1]; exact hw.c0, by rw [c1]; exact hw.c1, fun n hn => ?_⟩, c1, t1, i1 8 (Nat.le_refl _), fun n hn => ?_, fun n hn => ?_⟩
  ·
   have hn := (hh n).1 hn
   have hp := pN_lt n
   obtain ⟨s1, k1⟩ := kc_ex (i1 (n % 8).toNat (by omega) (pN n) (by omega) (by omega))
   rw [hx8 n hn, ← scrubx_kc k1]
   exact wf_scrub (hw.it n hn) _
  ·
   have hn := (hh n).1 hn
   rw [hx n hn]
   exact i2 n hn
  ·
   have hn := (hh n).1 hn
   rw [hx8 n hn]
   exact i3 n hn (by omega)
 ·
  obtain ⟨i1, _, _⟩ := inv s' (by omega)
  have c1 := i1 s' (Nat.le_refl _)
  have hpn := pN_lt (slotN J.c s')
  have hhn := hN_lt (slotN J.c s')
  obtain ⟨s1, k1⟩ := kc_ex (c1 (pN (slotN J.c s')) (by omega) (by omega))
  obtain ⟨s2, k2⟩ := kc_ex (c1 (hN (slotN J.c s')) (by omega) (by omega))
  have q2 := ct_scrub (hw.it _ (slot_has J s')) (slot_has J s').2 s1.lasts s2.lasts
  rw [scrub_kc k1 k2, ep] at q2
  exact .inr ⟨S', J', e, gone_ofF o1 c1 q2 hp⟩
/-! ### rot, the power -/
theorem f_rot {S : Sp} {J : Jn} (h : HereF S J) (i a m : Int) : ∃ S' x, S.rot i a m = (S', x) ∧ HereF S' J := by
 obtain ⟨hw, K, hT, hC, hA⟩ := id h
 rcases rot_steps hT i a m with ⟨x, e, _⟩ | hr
 ·
  exact ⟨S, x, e, h⟩
 ·
  obtain ⟨k, S', _, e, t, _⟩ := hr
  exact ⟨S', 0, e, hw, _, t, ct_upd hC (.inl rfl), fun n hn => agf_none (hw.it n hn) k (hA n hn)⟩
theorem f_fuse {S : Sp} {J : Jn} (h : HereF S J) (n : Int) : ∃ S', S.fuse n = (S', 0) ∧ HereF S' J ∧ S'.left = n.toNat := by
 obtain ⟨hw, K, hT, hC, hA⟩ := h
 refine ⟨{ S with left := n.toNat }, ?_, ⟨hw, K, ⟨⟨hT.cl.on, hT.cl.way, ⟨hT.cl.ln.len⟩⟩, hT.n, hT.ks⟩, hC, hA⟩, rfl⟩
 unfold Sp.fuse
 rw [if_neg (by rw [hT.cl.on]; simp)]
theorem f_cut {S : Sp} {J : Jn} (h : HereF S J) : ∃ S', S.cut = (S', 0) ∧ GoneF S' J.c := by
 obtain ⟨hw, K, hT, hC, hA⟩ := h
 exact ⟨_, Sp.cut_ok hT.cl.on, K, none, ⟨rfl, ⟨hT.cl.ln.len⟩, hT.n, hT.ks, hT.cl.way⟩, hC, fun i t e => (by cases e)⟩
theorem hereF_on {S : Sp} {J : Jn} (h : HereF S J) : S.on = true := by
 obtain ⟨K, hT, _⟩ := h.ex
 exact hT.cl.on
theorem goneF_off {S : Sp} {c : Int} (h : GoneF S c) : S.on = false := by
 obtain ⟨K, pend, hO, _⟩ := h
 exact hO.off
theorem goneF_rot {S : Sp} {c : Int} (h : GoneF S c) (i a m : Int) : ∃ S' x, S.rot i a m = (S', x) ∧ GoneF S' c := by
 obtain ⟨K, pend, hO, hC, hP⟩ := id h
 rcases rot_off hO i a m with ⟨x, e, _⟩ | hr
 ·
  exact ⟨S, x, e, h⟩
 ·
  obtain ⟨k, S', _, e, t, _⟩ := hr
  exact ⟨S', 0, e, _, pend, t, ct_upd hC (.inl rfl), hP⟩
theorem f_start {S : Sp} {c : Int} (h : GoneF S c) (picks : List Int) : ∃ S', S.start picks = (S', 0) ∧ BackF S' c := by
 obtain ⟨K, pend, hO, hC, hP⟩ := h
 obtain ⟨S', K', e, t, _, _, hK⟩ := start_steps hO picks
 refine ⟨S', e, K', t, ?_⟩
 cases pend with
 | none =>
  rw [show K' = K from hK]
  exact hC
 | some it =>
  obtain ⟨i, tx⟩ := it
  simp only at hK
  rcases hK with rfl | rfl | rfl
  ·
   exact hC
  ·
   exact ct_upd hC (hP i tx rfl)
  ·
   exact ct_upd hC (.inl rfl)
/-! ### Open -/
theorem open_invF {K : Nat → Option (List UInt8)} {c : Int} (hC : CtK K c) : ∀ s, s ≤ 8 →
  (∀ s', s' ≤ s → CtK (openKs K c s') c) ∧ ∀ s', s' < s → AgF (openKs K c s) (slotN c s') (judgeK (openKs K c s' (pN (slotN c s'))) (openKs K c s' (hN (slotN c s'))) (slotN c s')) := by
 intro s
 induction s with
 | zero =>
  intro _
  refine ⟨fun s' hs' => ?_, fun s' h => absurd h (Nat.not_lt_zero _)⟩
  have e0 : s' = 0 := by omega
  rw [e0]
  exact hC
 | succ s ih =>
  intro hs
  obtain ⟨l1, a1⟩ := ih (by omega)
  have c1 := l1 s (Nat.le_refl _)
  have hp := pN_lt (slotN c s)
  have hh := hN_lt (slotN c s)
  have hin := slotN_in c s
  have p2 : ctP c (openKp (openKs K c s (pN (slotN c s))) (openKs K c s (hN (slotN c s))) (slotN c s)) ∧ ofN (slotN c s) (openKp (openKs K c s (pN (slotN c s))) (openKs K c s (hN (slotN c s))) (slotN c s)) := by
   obtain ⟨s1, k1⟩ := kc_ex (c1 (pN (slotN c s)) (by omega) (by omega))
   obtain ⟨s2, k2⟩ := kc_ex (c1 (hN (slotN c s)) (by omega) (by omega))
   rw [← open_kc k1 k2]
   exact ⟨ct_open hin.2 _ _, open_of _ _ _⟩
  refine ⟨fun s' hs' => ?_, fun s' hs' => ?_⟩
  ·
   by_cases w : s' ≤ s
   ·
    exact l1 s' w
   ·
    have e0 : s' = s + 1 := by omega
    rw [e0]
    exact ct_app _ c1 p2.1
  ·
   by_cases q : s' = s
   ·
    rw [q]
    exact agf_open (c1 _ (by omega) (by omega)) (c1 _ (by omega) (by omega))
   ·
    have hp' := pN_lt (slotN c s')
    have hh' := hN_lt (slotN c s')
    have c3 := l1 s' (by omega)
    refine agf_other (judgeK_wf (c3 _ (by omega) (by omega)) (c3 _ (by omega) (by omega))) p2.2 ?_ (a1 s' (by omega))
    rw [slotN_mod c s (by omega), slotN_mod c s' (by omega)]
    omega
theorem f_open {S : Sp} {c : Int} (h : BackF S c) (h0 : 0 ≤ c) (h1 : c ≤ 72057594037927927) :
  (∃ S' X, openK S c 8 = (S', X, 0) ∧ HereF S' ⟨c, X⟩) ∨ (∃ S' X, openK S c 8 = (S', X, 6) ∧ GoneF S' c) := by
 obtain ⟨K, hT, hC⟩ := h
 have inv := open_invF hC
 rcases openK_cl hT c 8 (Nat.le_refl _) with ⟨S', X, e, t1, l1, _, hx⟩ | ⟨S', X, s', a, x, r, pend, e, hs', ep, o1, hp, _⟩
 ·
  obtain ⟨i1, i2⟩ := inv 8 (Nat.le_refl _)
  have hit : ∀ n, c < n ∧ n ≤ c + 8 → (⟨c, X⟩ : Jn).item n = judgeK (openKs K c (n % 8).toNat (pN n)) (openKs K c (n % 8).toNat (hN n)) n := fun n hn => by
   have h8 : (n % 8).toNat < 8 := by omega
   have h2 := hx (n % 8).toNat h8
   rw [slotN_of hn] at h2
   unfold Jn.item
   rw [if_pos (show Jn.has ⟨c, X⟩ n from hn)]
   exact h2
  refine .inl ⟨S', X, e, ⟨l1, h0, h1, fun n hn => ?_⟩, _, t1, i1 8 (Nat.le_refl _), fun n hn => ?_⟩
  ·
   have hp := pN_lt n
   have hh := hN_lt n
   rw [hit n hn]
   have c3 := i1 (n % 8).toNat (by omega)
   exact judgeK_wf (c3 _ (by omega) (by omega)) (c3 _ (by omega) (by omega))
  ·
   rw [hit n hn]
   have h3 := i2 (n % 8).toNat (by omega)
   rw [slotN_of (c := c) (n := n) hn] at h3
   exact h3
 ·
  obtain ⟨i1, _⟩ := inv s' (by omega)
  have c1 := i1 s' (Nat.le_refl _)
  have hpn := pN_lt (slotN c s')
  have hhn := hN_lt (slotN c s')
  obtain ⟨s1, k1⟩ := kc_ex (c1 (pN (slotN c s')) (by omega) (by omega))
  obtain ⟨s2, k2⟩ := kc_ex (c1 (hN (slotN c s')) (by omega) (by omega))
  have q2 := ct_open (c := c) (slotN_in c s').2 s1.lasts s2.lasts
  rw [open_kc k1 k2, ep] at q2
  exact .inr ⟨S', X, e, gone_ofF o1 c1 q2 hp⟩
theorem begin_f (n : Nat) (hn : 20 ≤ n) : ∃ S S' X, formatJ (Sp.mk0 n) = (S, 0) ∧ openK S 0 8 = (S', X, 0) ∧ HereF S' ⟨0, X⟩ ∧ S'.left = 0 := by
 obtain ⟨S, e, t, z, _, _⟩ := format_mk0 n hn
 have hb : BackF S 0 := ⟨_, t, fun i _ _ => .inr (.inl rfl)⟩
 obtain ⟨o1, o2, _⟩ := openK_zero t z 0 8 (Nat.le_refl _)
 rcases f_open hb (by decide) (by decide) with ⟨S', X, e2, h⟩ | ⟨S', X, e2, _⟩
 ·
  rw [e2] at o2
  exact ⟨S, S', X, e, e2, h, o2⟩
 ·
  rw [e2] at o1
  cases o1
end Go.Proofs.YtafbeepacncooaaDoor
/-
  A disk with a journal on it, and what happens to it, in plain words: what holds from act to act.
-/
namespace Go.Proofs.YtafbeepacncooaaDoor
open Go.RowKit
set_option maxRecDepth 10000

/-- a disk, the journal on it while the power is on, the checkpoint at hand -/
structure Wd where
 S : Sp
 j : Option Jn
 c : Int
structure ActJ where
 kind : Int
 e : En
 n : Int
 i : Int
 a : Int
 m : Int
 picks : List Int
def openJ (S : Sp) (c : Int) : Sp × Option Jn × Int :=
 if c < 0 ∨ 72057594037927927 < c then (S, none, 1)
 else if (openK S c 8).2.2 = 0 then ((openK S c 8).1, some ⟨c, (openK S c 8).2.1⟩, 0) else ((openK S c 8).1, none, (openK S c 8).2.2)
/-- a call of the journal -/
noncomputable def callJ (S : Sp) (J : Jn) (x : ActJ) : Sp × Jn × Int :=
 if x.kind = 1 then putJ S J x.e else if x.kind = 2 then voidJ S J x.n else if x.kind = 3 then (S, (shiftJ J x.n).1, (shiftJ J x.n).2)
 else if x.kind = 4 then (S, (readJn S J x.n).1, (readJn S J x.n).2.2) else if x.kind = 5 then scrubK S J 8 else (S, J, 0)
noncomputable def rawJ (w : Wd) (x : ActJ) : Wd × Int :=
  if x.kind = 6 then (⟨(w.S.fuse x.n).1, w.j, w.c⟩, (w.S.fuse x.n).2)
  else if x.kind = 7 then (⟨w.S.cut.1, w.j, w.c⟩, w.S.cut.2)
  else if x.kind = 8 then
    (if (w.S.start x.picks).2 = 0 then (⟨(openJ (w.S.start x.picks).1 w.c).1, (openJ (w.S.start x.picks).1 w.c).2.1, w.c⟩, (openJ (w.S.start x.picks).1 w.c).2.2)
     else (⟨(w.S.start x.picks).1, w.j, w.c⟩, (w.S.start x.picks).2))
  else if x.kind = 9 then (⟨(w.S.rot x.i x.a x.m).1, w.j, w.c⟩, (w.S.rot x.i x.a x.m).2)
  else match w.j with
    | none => (w, 0)
    | some J => (⟨(callJ w.S J x).1, some (callJ w.S J x).2.1, w.c⟩, (callJ w.S J x).2.2)
/-- the checkpoint at hand is the journal's; without power there is none -/
def fixJ (w : Wd) : Wd := ⟨w.S, if w.S.on = true then w.j else none, match w.j with | some J => J.c | none => w.c⟩
noncomputable def doesJ (w : Wd) (x : ActJ) : Wd × Int := (fixJ (rawJ w x).1, (rawJ w x).2)
/-- what holds of it -/
def InvW (Here : Sp → Jn → Prop) (Gone : Sp → Int → Prop) (w : Wd) : Prop :=
 match w.j with
 | some J => w.c = J.c ∧ Here w.S J
 | none => Gone w.S w.c ∧ 0 ≤ w.c ∧ w.c ≤ 72057594037927927
/-- what is asked of the calls -/
structure StepW (Here : Sp → Jn → Prop) (Gone : Sp → Int → Prop) (x : ActJ) (c0 : Int) : Prop where
 wf : ∀ {S J}, Here S J → JWf J
 on : ∀ {S J}, Here S J → S.on = true
 off : ∀ {S c}, Gone S c → S.on = false
 call : ∀ {S J}, J.c = c0 → Here S J → (Here (callJ S J x).1 (callJ S J x).2.1) ∨ ((callJ S J x).2.1.c = J.c ∧ Gone (callJ S J x).1 J.c)
 fuse : ∀ {S J}, Here S J → Here (S.fuse x.n).1 J
 cut : ∀ {S J}, Here S J → Gone S.cut.1 J.c
 start : ∀ {S c}, Gone S c → 0 ≤ c → c ≤ 72057594037927927 → (S.start x.picks).2 = 0 ∧ ((∃ S' X, openK (S.start x.picks).1 c 8 = (S', X, 0) ∧ Here S' ⟨c, X⟩) ∨ ∃ S' X, openK (S.start x.picks).1 c 8 = (S', X, 6) ∧ Gone S' c)
 rot : x.kind = 9 → ∀ {S J}, Here S J → Here (S.rot x.i x.a x.m).1 J
 grot : x.kind = 9 → ∀ {S c}, Gone S c → Gone (S.rot x.i x.a x.m).1 c
theorem fix_here {Here : Sp → Jn → Prop} {Gone : Sp → Int → Prop} {x : ActJ} {c0 : Int} (hs : StepW Here Gone x c0) {S : Sp} {J : Jn} {c : Int} (h : Here S J) : InvW Here Gone (fixJ ⟨S, some J, c⟩) := by
 unfold fixJ
 simp only
 rw [if_pos (hs.on h)]
 exact ⟨rfl, h⟩
theorem fix_gone {Here : Sp → Jn → Prop} {Gone : Sp → Int → Prop} {x : ActJ} {c0 : Int} (hs : StepW Here Gone x c0) {S : Sp} {J : Jn} {c c' : Int} (h : Gone S c) (hc : J.c = c) (h0 : 0 ≤ c) (h1 : c ≤ 72057594037927927) : InvW Here Gone (fixJ ⟨S, some J, c'⟩) := by
 unfold fixJ
 simp only
 rw [if_neg (by rw [hs.off h]; simp), hc]
 exact ⟨h, h0, h1⟩
theorem fix_none {Here : Sp → Jn → Prop} {Gone : Sp → Int → Prop} {S : Sp} {c : Int} (h : Gone S c) (h0 : 0 ≤ c) (h1 : c ≤ 72057594037927927) : InvW Here Gone (fixJ ⟨S, none, c⟩) := by
 unfold fixJ
 simp only
 rw [show (if S.on = true then (none : Option Jn) else none) = none by split <;> rfl]
 exact ⟨h, h0, h1⟩
theorem does_inv {Here : Sp → Jn → Prop} {Gone : Sp → Int → Prop} {x : ActJ} {w : Wd} (hs : StepW Here Gone x w.c) (h : InvW Here Gone w) : InvW Here Gone (doesJ w x).1 := by
 obtain ⟨S, j, c⟩ := w
 show InvW Here Gone (fixJ (rawJ ⟨S, j, c⟩ x).1)
 cases j with
 | some J =>
  obtain ⟨hc, h⟩ := h
  have hc : c = J.c := hc
  have h : Here S J := h
  have hw := hs.wf h
  unfold rawJ
  split
  ·
   exact fix_here hs (hs.fuse h)
  ·
   split
   ·
    exact fix_gone hs (hs.cut h) rfl hw.c0 hw.c1
   ·
    split
    ·
     have e : S.start x.picks = (S, 10) := by unfold Sp.start; rw [if_pos (hs.on h)]
     simp only
     rw [e]
     simp only
     rw [if_neg (by decide)]
     exact fix_here hs h
    ·
     split
     ·
      rename_i h9
      exact fix_here hs (hs.rot h9 h)
     ·
      simp only
      rcases hs.call hc.symm h with q | ⟨q1, q2⟩
      ·
       exact fix_here hs q
      ·
       exact fix_gone hs q2 q1 hw.c0 hw.c1
 | none =>
  obtain ⟨h, h0, h1⟩ := h
  have h : Gone S c := h
  have h0 : 0 ≤ c := h0
  have h1 : c ≤ 72057594037927927 := h1
  unfold rawJ
  split
  ·
   have e : S.fuse x.n = (S, 6) := by unfold Sp.fuse; rw [if_pos (hs.off h)]
   simp only
   rw [e]
   exact fix_none h h0 h1
  ·
   split
   ·
    have e : S.cut = (S, 6) := by unfold Sp.cut; rw [if_pos (hs.off h)]
    simp only
    rw [e]
    exact fix_none h h0 h1
   ·
    split
    ·
     obtain ⟨e, h2⟩ := hs.start h h0 h1
     simp only
     rw [if_pos e]
     unfold openJ
     rw [if_neg (by omega)]
     rcases h2 with ⟨S', X, e2, h2⟩ | ⟨S', X, e2, h2⟩
     ·
      rw [e2]
      simp only
      rw [if_pos trivial]
      exact fix_here hs h2
     ·
      rw [e2]
      simp only
      rw [if_neg (by decide)]
      exact fix_none h2 h0 h1
    ·
     split
     ·
      rename_i h9
      exact fix_none (hs.grot h9 h) h0 h1
     ·
      exact fix_none h h0 h1
/-! ### a call's checkpoint, a Put's item -/
theorem scrubK_c (S : Sp) (J : Jn) : ∀ s, (scrubK S J s).2.1.c = J.c
 | 0 => rfl
 | s + 1 => by
  have ih := scrubK_c S J s
  rw [scrubK]
  split
  ·
   exact ih
  ·
   split
   ·
    exact ih
   ·
    split
    ·
     exact ih
    ·
     exact ih
theorem put_item {S : Sp} {J : Jn} (hw : JWf J) {e : En} (h : (putJ S J e).2.2 = 0) : Rt e ∧ J.has e.opn ∧ (putJ S J e).2.1.c = J.c ∧ (putJ S J e).2.1.item e.opn = ⟨1, stubS e, e⟩ := by
 unfold putJ at h ⊢
 by_cases hr : Rt e
 ·
  rw [if_neg (not_not_intro hr)] at h ⊢
  by_cases hh : J.has e.opn
  ·
   rw [if_neg (not_not_intro hh)] at h ⊢
   by_cases hq : (J.item e.opn).kind = 1 ∧ (J.item e.opn).entry = e
   ·
    rw [if_pos hq]
    refine ⟨hr, hh, rfl, ?_⟩
    rcases hw.it _ hh with q | ⟨y, _, _, _, q⟩ | ⟨s, _, _, _, q⟩ | q
    ·
     rw [q] at hq; exact absurd hq.1 (by decide)
    ·
     rw [q] at hq ⊢
     obtain rfl : y = e := hq.2
     rfl
    ·
     rw [q] at hq; exact absurd hq.1 (by simp)
    ·
     rw [q] at hq; exact absurd hq.1 (by simp)
   ·
    rw [if_neg hq] at h ⊢
    split
    ·
     exact ⟨hr, hh, rfl, by rw [set_item hw.len _ hh, if_pos rfl]⟩
    ·
     rename_i h2
     rw [if_neg h2] at h
     exact absurd h h2
  ·
   rw [if_pos hh] at h
   exact absurd h (show ¬ (1 : Int) = 0 by decide)
 ·
  rw [if_pos hr] at h
  exact absurd h (show ¬ (4 : Int) = 0 by decide)
/-! ### the three -/
theorem step_f (x : ActJ) (c0 : Int) (hx : x.e.fits) : StepW HereF GoneF x c0 where
 wf := fun h => h.wf
 on := fun h => hereF_on h
 off := fun h => goneF_off h
 call := fun {S J} _ h => by
  unfold callJ
  split
  ·
   rcases f_put h x.e hx with ⟨S', J', e, h', _⟩ | ⟨y, e, _⟩ | ⟨S', e, h'⟩ <;> rw [e]
   ·
    exact .inl h'
   ·
    exact .inl h
   ·
    exact .inr ⟨rfl, h'⟩
  ·
   split
   ·
    rcases f_void h x.n with ⟨S', J', e, h', _⟩ | ⟨y, e, _⟩ | ⟨S', e, h'⟩ <;> rw [e]
    ·
     exact .inl h'
    ·
     exact .inl h
    ·
     exact .inr ⟨rfl, h'⟩
   ·
    split
    ·
     rcases f_shift h x.n with ⟨y, e, _⟩ | ⟨J', e, _, _, h'⟩ <;> rw [e]
     ·
      exact .inl h
     ·
      exact .inl h'
    ·
     split
     ·
      obtain ⟨J', y, z, e, h', _⟩ := f_read h x.n
      rw [e]
      exact .inl h'
     ·
      split
      ·
       have hc := scrubK_c S J 8
       rcases f_scrub h with ⟨S', J', K, e, w1, c1, t1, i1, i2, _⟩ | ⟨S', J', e, h'⟩ <;> rw [e] at hc ⊢
       ·
        exact .inl ⟨w1, K, t1, by rw [c1]; exact i1, i2⟩
       ·
        exact .inr ⟨hc, h'⟩
      ·
       exact .inl h
 fuse := fun h => by
  obtain ⟨S', e, h', _⟩ := f_fuse h x.n
  rw [e]
  exact h'
 cut := fun h => by
  obtain ⟨S', e, h'⟩ := f_cut h
  rw [e]
  exact h'
 start := fun h h0 h1 => by
  obtain ⟨S', e, h'⟩ := f_start h x.picks
  rw [e]
  exact ⟨rfl, f_open h' h0 h1⟩
 rot := fun _ {S J} h => by
  obtain ⟨S', y, e, h'⟩ := f_rot h x.i x.a x.m
  rw [e]
  exact h'
 grot := fun _ {S c} h => by
  obtain ⟨S', y, e, h'⟩ := goneF_rot h x.i x.a x.m
  rw [e]
  exact h'
theorem step_a (E : Nat → En) (x : ActJ) (c0 : Int) (hx : x.e.fits) (hp : x.kind = 1 → Rt x.e → InW c0 x.e.opn → ∀ k, k < 8 → c0 < (E k).opn → (E k).opn = x.e.opn → E k = x.e) (hv : x.kind = 2 → InW c0 x.n → ∀ k, k < 8 → c0 < (E k).opn → (E k).opn ≠ x.n) :
  StepW (fun S J => HereA S J E) (fun S c => GoneA S c E) x c0 where
 wf := fun h => h.wf
 on := fun h => here_on h
 off := fun h => gone_off h
 call := fun {S J} hc0 h => by
  subst hc0
  unfold callJ
  split
  ·
   rename_i k1
   rcases keep_put h x.e hx (hp k1) with ⟨S', J', e, h', _⟩ | ⟨y, e, _⟩ | ⟨S', e, h'⟩ <;> rw [e]
   ·
    exact .inl h'
   ·
    exact .inl h
   ·
    exact .inr ⟨rfl, h'⟩
  ·
   split
   ·
    rename_i k2
    rcases keep_void h x.n (hv k2) with ⟨S', J', e, h', _⟩ | ⟨y, e, _⟩ | ⟨S', e, h'⟩ <;> rw [e]
    ·
     exact .inl h'
    ·
     exact .inl h
    ·
     exact .inr ⟨rfl, h'⟩
   ·
    split
    ·
     rcases keep_shift h x.n with ⟨y, e, _⟩ | ⟨J', e, _, _, h'⟩ <;> rw [e]
     ·
      exact .inl h
     ·
      exact .inl h'
    ·
     split
     ·
      obtain ⟨J', y, z, e, h', _⟩ := keep_read h x.n
      rw [e]
      exact .inl h'
     ·
      split
      ·
       have hc := scrubK_c S J 8
       rcases keep_scrub h with ⟨S', J', e, h', _⟩ | ⟨S', J', e, h'⟩ <;> rw [e] at hc ⊢
       ·
        exact .inl h'
       ·
        exact .inr ⟨hc, h'⟩
      ·
       exact .inl h
 fuse := fun h => by
  obtain ⟨S', e, h'⟩ := keep_fuse h x.n
  rw [e]
  exact h'
 cut := fun h => by
  obtain ⟨S', e, h'⟩ := keep_cut h
  rw [e]
  exact h'
 start := fun h h0 h1 => by
  obtain ⟨S', e, h'⟩ := gone_start h x.picks
  rw [e]
  exact ⟨rfl, back_open h' h0 h1⟩
 rot := fun _ {S J} h => by
  obtain ⟨S', y, e, h', _⟩ := keep_rot h x.i x.a x.m
  rw [e]
  exact h'
 grot := fun _ {S c} h => by
  obtain ⟨S', y, e, h'⟩ := gone_rot h x.i x.a x.m
  rw [e]
  exact h'
/-! ### JournalKeeps' round -/
theorem keeps_act {w : Wd} {J : Jn} {E E1 : Nat → En} {x : ActJ} (hj : w.j = some J) (h : InvW (fun S J => HereA S J E) (fun S c => GoneA S c E) w) (hx : x.e.fits) (hE : E1 = E ∨ ∃ i, E1 = dropE E i)
  (hp : x.kind = 1 → Rt x.e → InW w.c x.e.opn → E1 (x.e.opn % 8).toNat = x.e ∨ E1 (x.e.opn % 8).toNat = en0) (hv : x.kind = 2 → InW w.c x.n → E1 (x.n % 8).toNat = en0) :
  InvW (fun S J => HereA S J E1) (fun S c => GoneA S c E1) (doesJ w x).1 ∧ (x.kind = 1 → (doesJ w x).2 = 0 → InvW (fun S J => HereA S J (setE E1 (x.e.opn % 8).toNat x.e)) (fun S c => GoneA S c (setE E1 (x.e.opn % 8).toNat x.e)) (doesJ w x).1) := by
 obtain ⟨S, j, c⟩ := w
 have hj : j = some J := hj
 subst hj
 obtain ⟨hc, h⟩ := h
 have hc : c = J.c := hc
 have h : HereA S J E := h
 subst hc
 have h1 : HereA S J E1 := by
  rcases hE with rfl | ⟨i, rfl⟩
  ·
   exact h
  ·
   exact here_less h i
 have h0 := h.wf.c0
 have hK := h1.kept
 have hz : ¬ J.c < en0.opn := by show ¬ J.c < 0; omega
 have hp' : x.kind = 1 → Rt x.e → InW J.c x.e.opn → ∀ k, k < 8 → J.c < (E1 k).opn → (E1 k).opn = x.e.opn → E1 k = x.e := fun k1 hr hw k hk hck hek => by
  have hs := hK.slot k hk hck
  rw [hek] at hs
  have e1 : (x.e.opn % 8).toNat = k := by omega
  rcases hp k1 hr hw with q | q <;> rw [e1] at q
  ·
   exact q
  ·
   rw [q] at hck
   exact absurd hck hz
 have hv' : x.kind = 2 → InW J.c x.n → ∀ k, k < 8 → J.c < (E1 k).opn → (E1 k).opn ≠ x.n := fun k2 hw k hk hck hek => by
  have hs := hK.slot k hk hck
  rw [hek] at hs
  have e1 : (x.n % 8).toNat = k := by omega
  have q := hv k2 hw
  rw [e1] at q
  rw [q] at hck
  exact absurd hck hz
 refine ⟨does_inv (step_a E1 x _ hx hp' hv') (show InvW _ _ (⟨S, some J, J.c⟩ : Wd) from ⟨rfl, h1⟩), fun k1 hr => ?_⟩
 have e1 : rawJ ⟨S, some J, J.c⟩ x = (⟨(putJ S J x.e).1, some (putJ S J x.e).2.1, J.c⟩, (putJ S J x.e).2.2) := by
  unfold rawJ callJ
  rw [if_neg (by omega), if_neg (by omega), if_neg (by omega), if_neg (by omega)]
  simp only
  rw [if_pos k1]
 have hr : (rawJ ⟨S, some J, J.c⟩ x).2 = 0 := hr
 show InvW _ _ (fixJ (rawJ ⟨S, some J, J.c⟩ x).1)
 rw [e1] at hr ⊢
 have hr : (putJ S J x.e).2.2 = 0 := hr
 rcases keep_put h1 x.e hx (hp' k1) with ⟨S', J', e, h', c1, rt, hh, hi⟩ | ⟨y, e, hy⟩ | ⟨S', e, h'⟩
 ·
  rw [e]
  have h2 := here_more h' hx rt (by unfold Jn.has at hh ⊢; rw [c1]; exact hh) hi
  unfold fixJ
  simp only
  rw [if_pos (here_on h2)]
  exact ⟨rfl, h2⟩
 ·
  rw [e] at hr
  exact absurd hr hy
 ·
  rw [e] at hr
  exact absurd hr (show ¬ (6 : Int) = 0 by decide)
/-- a stale entry may be let go -/
theorem keeps_less {w : Wd} {E : Nat → En} {J : Jn} (hj : w.j = some J) (h : InvW (fun S J => HereA S J E) (fun S c => GoneA S c E) w) (i : Nat) : InvW (fun S J => HereA S J (dropE E i)) (fun S c => GoneA S c (dropE E i)) w := by
 obtain ⟨S, j, c⟩ := w
 have hj : j = some J := hj
 subst hj
 exact ⟨h.1, here_less h.2 i⟩
end Go.Proofs.YtafbeepacncooaaDoor
