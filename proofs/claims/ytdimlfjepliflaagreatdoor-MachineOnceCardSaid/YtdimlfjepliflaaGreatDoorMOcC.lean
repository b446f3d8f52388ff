/-
  What was done and told, of a machine that is played, in plain words; a request that took effect, once more. Lists of one's own beside a machine.
-/
import Derived.Test.YtdimlfjepliflaaGreatDoorD22
import Derived.Test.YtdimlfjepliflaaGreatDoorD25
namespace Go.Proofs.YtdimlfjepliflaaGreatDoor
open Go.RowKit
set_option maxRecDepth 10000

/-! ### k modulo a length -/
/-- int(uint(k) % uint(n)) -/
def modO (c : Int) (n : Nat) : Nat := (c % 18446744073709551616 % (n : Int)).toNat
theorem modO_lt (c : Int) (n : Nat) (h : 0 < n) : modO c n < n := by
  unfold modO
  have h1 : 0 ≤ c % 18446744073709551616 % (n : Int) := Int.emod_nonneg _ (by omega)
  have h2 : c % 18446744073709551616 % (n : Int) < (n : Int) := Int.emod_lt_of_pos _ (by omega)
  omega
theorem u64_smallO (n : Nat) (h : n ≤ 100) : IntKind.u64.wrap (n : Int) = (n : Int) := by
  simp [IntKind.wrap, IntKind.bits, IntKind.signed]
  omega
theorem mod_codeO (c : Int) (n : Nat) (h : 0 < n) (hb : n ≤ 100) : wrap64 ((IntKind.u64.wrap c).tmod (n : Int)) = (modO c n : Int) := by
  have h0 : IntKind.u64.wrap c = c % 18446744073709551616 := by simp [IntKind.wrap, IntKind.bits, IntKind.signed]
  have h2 : 0 ≤ c % 18446744073709551616 := by omega
  rw [h0, Int.tmod_eq_emod_of_nonneg h2]
  have h3 : 0 ≤ c % 18446744073709551616 % (n : Int) := Int.emod_nonneg _ (by omega)
  have h4 : c % 18446744073709551616 % (n : Int) < (n : Int) := Int.emod_lt_of_pos _ (by omega)
  unfold modO
  rw [Int.toNat_of_nonneg h3]
  unfold wrap64
  omega
/-! ### what was done and told -/
/-- an answer's cells -/
def An.cl (a : An) : List Value := a.cells.toList
theorem An.cl_len (a : An) : a.cl.length = 6 := rfl
theorem An.cl_ones (a : An) : ∀ u ∈ a.cl, u.oneCell' = true := by
  intro u hu
  simp only [An.cl, An.cells, List.mem_cons, List.not_mem_nil, or_false] at hu
  rcases hu with rfl | rfl | rfl | rfl | rfl | rfl <;> rfl
/-- it took effect -/
def Took (S : Ma) (e : En) : Prop := S.appE e = 0 ∧ (S.appA e).kind = 1 ∧ (S.appA e).opn = e.opn
instance (S : Ma) (e : En) : Decidable (Took S e) := by unfold Took; infer_instance
def oncF (s : Ma × List (En × An)) (e : En) : Ma × List (En × An) := (s.1.app e, if Took s.1 e then s.2 ++ [(e, s.1.appA e)] else s.2)
def oncS (l : List En) (k : Nat) : Ma × List (En × An) := (l.take k).foldl oncF (ma0, [])
theorem oncS_zero (l : List En) : oncS l 0 = (ma0, []) := rfl
theorem oncS_succ (l : List En) (k : Nat) (h : k < l.length) : oncS l (k + 1) = oncF (oncS l k) l[k] := by
  unfold oncS
  rw [List.take_succ_eq_append_getElem h, List.foldl_append]
  rfl
def rqOf (e : En) : Rq := ⟨e.client, e.session, e.request, e.oper, e.body⟩
structure Onc (s : Ma × List (En × An)) (k : Nat) : Prop where
  wf : s.1.WF
  opn : s.1.m.opn ≤ k
  inv : Inv s.1.w s.1.m.opn (s.2.map fun d => (rqOf d.1, d.2))
  dn : ∀ d ∈ s.2, Rt d.1 ∧ d.1.good
  len : s.2.length ≤ k
theorem onc_all (l : List En) (hl : ∀ e ∈ l, e.good) : ∀ k, k ≤ l.length → k ≤ 60 → Onc (oncS l k) k
  | 0, _, _ => ⟨ma0_wf, by show (0 : Int) ≤ 0; omega, inv0, by simp [oncS_zero], by simp [oncS_zero]⟩
  | k + 1, h, hk => by
    have H := onc_all l hl k (by omega) (by omega)
    have hg := hl _ (List.getElem_mem h)
    rw [oncS_succ l k h]
    generalize oncS l k = s at H ⊢
    obtain ⟨S, D⟩ := s
    obtain ⟨h1, h2, h3, h4, h5⟩ := H
    simp only at h1 h2 h3 h4 h5
    have hwf := Ma.app_wf h1 hg.1
    unfold oncF
    by_cases h0 : S.appE l[k] = 0
    · have hf := appE_iff.1 h0
      have hrun : S.app l[k] = S.run l[k] := by unfold Ma.app; rw [if_pos h0]
      have hans : S.appA l[k] = S.ans l[k] := by unfold Ma.appA; rw [if_pos h0]
      have hm : (S.app l[k]).m.opn = S.m.opn + 1 := by
        rw [hrun]
        show (markE l[k]).opn = _
        rw [(markE_rt hg.1 hf.1).1]
        have := hf.2.1
        omega
      have ho : l[k].opn = S.m.opn + 1 := by have := hf.2.1; omega
      obtain ⟨⟨r1, r2⟩, ⟨r3, r4⟩, _, _, ⟨r5, r6⟩, ⟨r7, r8⟩, _⟩ := id hf.1
      have hst := Inv.step h3 (rqOf l[k]) ⟨⟨r3, r4⟩, ⟨r5, r6⟩, ⟨r7, r8⟩⟩ h1.m.o.1 (by omega)
      have hdo : (S.app l[k]).w = (S.w.doq (rqOf l[k]) (S.m.opn + 1)).1 := by rw [hrun, ← ho]; rfl
      have hda : S.appA l[k] = (S.w.doq (rqOf l[k]) (S.m.opn + 1)).2 := by rw [hans, ← ho]; rfl
      refine ⟨hwf, by show (S.app l[k]).m.opn ≤ _; rw [hm]; simp; omega, ?_, fun d hd => ?_, ?_⟩
      · show Inv (S.app l[k]).w (S.app l[k]).m.opn _
        rw [hdo, hm]
        have e2 : ((if Took S l[k] then D ++ [(l[k], S.appA l[k])] else D).map fun d => (rqOf d.1, d.2)) = grow (D.map fun d => (rqOf d.1, d.2)) (rqOf l[k]) (S.w.doq (rqOf l[k]) (S.m.opn + 1)).2 (S.m.opn + 1) := by
          rw [← hda]
          by_cases ht : Took S l[k]
          · rw [if_pos ht, grow_yes ⟨ht.2.1, by rw [ht.2.2]; exact ho⟩]
            simp
          · rw [if_neg ht, grow_no (fun e => ht ⟨h0, e.1, by rw [ho]; exact e.2⟩)]
        simp only
        rw [e2]
        exact hst
      · simp only at hd
        split at hd
        · rcases List.mem_append.1 hd with hd | hd
          · exact h4 d hd
          · rw [List.mem_singleton.1 hd]; exact ⟨hf.1, hg⟩
        · exact h4 d hd
      · show (if Took S l[k] then D ++ [(l[k], S.appA l[k])] else D).length ≤ _
        split
        · simp; omega
        · omega
    · have hrun : S.app l[k] = S := by unfold Ma.app; rw [if_neg h0]
      have hno : ¬ Took S l[k] := fun t => h0 t.1
      simp only [hrun, if_neg hno]
      exact ⟨h1, by simp; omega, h3, h4, by simp only; omega⟩
/-- a request that was done, put once more -/
def moreE (m : Mk) (e : En) : En := ⟨max e.view m.view, m.opn + 1, m.view, m.sum, e.client, e.session, e.request, e.oper, e.body⟩
def maxE (m : Mk) (e : En) : En := ⟨max e.view m.view, e.opn, e.under, e.parent, e.client, e.session, e.request, e.oper, e.body⟩
theorem more_next {m : Mk} (hm : m.ok) (hlt : m.opn ≤ 72057594037927934) (e : En) : nextS m (maxE m e) = moreE m e := by
  unfold nextS moreE maxE
  simp only
  rw [if_pos ⟨hm.o.1, hlt⟩]
theorem more_rt {m : Mk} (hm : m.ok) (hlt : m.opn ≤ 72057594037927934) {e : En} (h : Rt e) : Rt (moreE m e) := by
  obtain ⟨⟨a1, a2⟩, ⟨b1, b2⟩, _⟩ := hm
  obtain ⟨h1, h2, ⟨h3, h4⟩, h5, h6, h7, h8, h9, h10⟩ := h
  unfold Rt moreE
  simp only
  refine ⟨by omega, h2, by omega, by omega, h6, h7, h8, by omega, h10⟩
theorem more_good {m : Mk} (hm : m.ok) (hlt : m.opn ≤ 72057594037927934) {e : En} (h : e.good) : (moreE m e).good := by
  obtain ⟨⟨a1, a2⟩, ⟨b1, b2⟩, c1⟩ := hm
  obtain ⟨⟨⟨p1, p2, p3, p4⟩, ⟨p5, p6, p7⟩, p8⟩, p9⟩ := h
  refine ⟨⟨⟨?_, ⟨?_, ?_⟩, ⟨?_, ?_⟩, p4⟩, ⟨p5, p6, p7⟩, c1⟩, p9⟩
  · obtain ⟨q1, q2⟩ := p1
    exact ⟨by show _ ≤ max e.view m.view; omega, by show max e.view m.view ≤ _; omega⟩
  · show _ ≤ m.opn + 1; omega
  · show m.opn + 1 ≤ _; omega
  · show _ ≤ m.view; omega
  · show m.view ≤ _; omega
theorem more_app {s : Ma × List (En × An)} {k : Nat} (H : Onc s k) (hk : k ≤ 60) {d : En × An} (hd : d ∈ s.2) :
    s.1.appE (moreE s.1.m d.1) = 0 ∧ (pl s.1.w.T d.1.client < s.1.w.T.length → (at_8 s.1.w.T (pl s.1.w.T d.1.client)).s = d.2.session →
      (s.1.app (moreE s.1.m d.1)).w.B = s.1.w.B ∧ s.1.appA (moreE s.1.m d.1) = if (at_8 s.1.w.T (pl s.1.w.T d.1.client)).r = d.2.request then d.2 else an0) := by
  have hr := more_rt (m := s.1.m) H.wf.m (by have := H.opn; omega) (H.dn d hd).1
  have h0 : s.1.appE (moreE s.1.m d.1) = 0 := appE_ok ⟨hr, by show s.1.m.opn + 1 - 1 = s.1.m.opn; omega, rfl, rfl⟩
  refine ⟨h0, fun hp hs => ?_⟩
  have hag := Inv.again H.inv (rqOf d.1, d.2) (List.mem_map.2 ⟨d, hd, rfl⟩) hp hs (s.1.m.opn + 1)
  have e1 : (s.1.app (moreE s.1.m d.1)).w = (s.1.w.doq (rqOf d.1) (s.1.m.opn + 1)).1 := by unfold Ma.app; rw [if_pos h0]; rfl
  have e2 : s.1.appA (moreE s.1.m d.1) = (s.1.w.doq (rqOf d.1) (s.1.m.opn + 1)).2 := by unfold Ma.appA; rw [if_pos h0]; rfl
  rw [e1, e2]
  exact ⟨by rw [hag.1], hag.2⟩
/-! ### lists of one's own beside a machine -/
/-- these blocks are as they were, in a frame -/
def Kf (G : List Nat) (w w' : World) : Prop := ∃ fq, Fr w w' fq ∧ ∀ g ∈ G, g ∉ fq
theorem Kf.row {G : List Nat} {w w' : World} {g : Nat} {e : TypeId} {cs : List Value} (h : Kf G w w') (hr : Row w g e cs) (hg : g ∈ G) : Row w' g e cs := by
  obtain ⟨fq, h1, h2⟩ := h
  exact h1.row hr (h2 g hg)
theorem Kf.own {G : List Nat} {w w' : World} {B e m n : Nat} {v : Value} {xs : List Value} (h : Kf G w w') (ho : w.ownsRow B e m v n xs) (hg : ∀ g, v.ownBlock = some g → g ∈ G) : w'.ownsRow B e m v n xs := by
  obtain ⟨fq, h1, h2⟩ := h
  exact h1.own ho (fun g hv => h2 g (hg g hv))
section
variable {w0 w w' : World} {X : K3} {p g gz : Nat} {S S' : Ma} {G : List Nat} {P : Program} {f : FuncId} {args : Array Value} {v : Ending}
theorem Sg.callF (h : Sg w0 X p S G w) (H : ∀ fp, Hm X p S fp w → Calls P f args w fun e w' => e = v ∧ Hmw X p w fp S' w') : Calls P f args w fun e w' => e = v ∧ Sg w0 X p S' G w' ∧ Kf G w w' := by
  obtain ⟨fp, h1, h2, h3, h4⟩ := h
  refine (H fp h1).mono fun e w' hh => ⟨hh.1, ?_, ?_⟩
  · obtain ⟨fq, k1, k2, k3⟩ := hh.2
    refine ⟨fq, k1, fun b hb => ?_, fun g hg => ⟨Nat.lt_of_lt_of_le (h3 g hg).1 k2.size, fun hq => ?_⟩, h4.trans (k2.below h2 h4.size)⟩
    · rcases k3 b hb with h | h
      · exact h2 b h
      · exact Nat.le_trans h4.size h
    · rcases k3 g hq with h | h
      · exact (h3 g hg).2 h
      · have := (h3 g hg).1; omega
  · exact ⟨fp, hh.2.frame, fun g hg => (h3 g hg).2⟩
theorem Sg.addOwn {e m n : Nat} {v : Value} {xs : List Value} (h : Sg w0 X p S G w) (hb : Below w.heap.size w w') (ho : w'.ownsRow w.heap.size e m v n xs) : Sg w0 X p S (v.ownBlock.toList ++ G) w' := by
  cases hv : v.ownBlock with
  | none => simpa using h.below hb
  | some g =>
    obtain ⟨h1, h2⟩ := ho.lt g hv
    simpa using h.add hb h1 h2
theorem grown_none (h : w.grownBy w' none) : Below w.heap.size w w' := ⟨h.os, h.tape, h.output, h.size, fun k hk => h.block k hk (by simp)⟩
/-- an append to a list of one's own -/
theorem Sg.append {u : Value} (h : Sg w0 X p S G w) (hv : ∀ g, u.ownBlock = some g → g ∈ G ∧ w0.heap.size ≤ g) (hg : w.grownBy w' u.ownBlock) (hz : u.ownBlock = some gz ∨ w.heap.size ≤ gz) (hlt : gz < w'.heap.size) : Sg w0 X p S (gz :: G) w' := by
  cases hu : u.ownBlock with
  | none =>
    rw [hu] at hg hz
    rcases hz with hz | hz
    · cases hz
    · exact h.add (grown_none hg) hz hlt
  | some b =>
    rw [hu] at hg hz
    obtain ⟨h1, h2⟩ := hv b hu
    have hw := h.write hg h1 h2
    rcases hz with hz | hz
    · obtain rfl := Option.some.inj hz
      exact hw.sub (by intro x hx; rcases List.mem_cons.1 hx with rfl | hx <;> assumption)
    · obtain ⟨fp, k1, k2, k3, k4⟩ := hw
      obtain ⟨fp0, j1, j2, j3, j4⟩ := h
      have hf : Fr w w' [b] := (Fr.refl w [b]).grown hg (fun k hk => .inl (by cases hk; simp))
      refine ⟨fp0, j1.fr hf (fun x hx hn => by rw [List.mem_singleton.1 hn] at hx; exact (j3 b h1).2 hx), j2, fun x hx => ?_, k4⟩
      rcases List.mem_cons.1 hx with rfl | hx
      · exact ⟨hlt, fun q => by have := j1.lt _ q; omega⟩
      · exact ⟨Nat.lt_of_lt_of_le (j3 x hx).1 hg.size, (j3 x hx).2⟩
end
theorem own_apart {w : World} {B B' e e' m m' n n' : Nat} {v v' : Value} {xs xs' : List Value} (h : w.ownsRow B e m v n xs) (h' : w.ownsRow B' e' m' v' n' xs') (ne : e ≠ e') : ∀ g, v.ownBlock = some g → v'.ownBlock ≠ some g := fun g hg hg' => by
  obtain ⟨c1, h1⟩ := own_type h hg
  obtain ⟨c2, h2⟩ := own_type h' hg'
  rw [h1] at h2
  simp only [Option.some.injEq, Obj.cells.injEq] at h2
  exact ne h2.2.1
theorem own_grown2 {w w' : World} {B m n : Nat} {r : Option Nat} {e : TypeId} {v : Value} {xs : List Value} (h : w.ownsRow B e m v n xs) (hg : w.grownBy w' r) (hn : ∀ g, r = some g → v.ownBlock ≠ some g) : w'.ownsRow B e m v n xs := by
  refine ⟨h.1, ?_⟩
  rcases h.2 with h2 | ⟨b, cap, cur, rfl, a, hh, rest⟩
  · exact .inl h2
  · refine .inr ⟨b, cap, cur, rfl, a, (hg.block b (Array.getElem?_eq_some_iff.1 hh).1 (fun q => hn b q.symm rfl)).trans hh, rest⟩
end Go.Proofs.YtdimlfjepliflaaGreatDoor
