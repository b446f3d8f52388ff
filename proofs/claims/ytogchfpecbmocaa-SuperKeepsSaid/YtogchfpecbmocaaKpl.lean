/-
  What SuperKeeps asks, in plain words.
-/
import Derived.Test.YtogchfpecbmocaaM19
namespace Go.Proofs.Ytogchfpecbmocaa
open Go.RowKit
set_option maxRecDepth 10000

theorem and_in (n m : Int) (k : Nat) (hm : (BitVec.ofInt 64 m).toNat ≤ k) (hk : k ≤ 1000) : ∃ a : Nat, bits .and .i64 n m = (a : Int) ∧ a ≤ k := by
  have h1 : ((BitVec.ofInt 64 n) &&& (BitVec.ofInt 64 m)).toNat ≤ k := by
    rw [BitVec.toNat_and]
    exact Nat.le_trans Nat.and_le_right hm
  refine ⟨((BitVec.ofInt 64 n) &&& (BitVec.ofInt 64 m)).toNat, ?_, h1⟩
  show IntKind.i64.wrap (((BitVec.ofInt 64 n) &&& (BitVec.ofInt 64 m)).toNat : Int) = _
  rw [IntKind.wrap_i64]
  omega
/-- at most m copies are dead, the others have what A says -/
structure Ph (A : Su → Prop) (S : Sp) (m c : Nat) : Prop where
  cl : Cl S
  k : ∃ K, Ks S K ∧ (∀ i x, i < 4 → K i = some x → A x) ∧ dn K ≤ m
  cnt : S.count ≤ c
theorem Ph.more {A : Su → Prop} {S : Sp} {m m' c c' : Nat} (h : Ph A S m c) (hm : m ≤ m') (hc : c ≤ c') : Ph A S m' c' := by
  obtain ⟨K, k1, k2, k3⟩ := h.k
  exact ⟨h.cl, ⟨K, k1, k2, Nat.le_trans k3 hm⟩, Nat.le_trans h.cnt hc⟩
theorem ph_rot {A : Su → Prop} {S : Sp} {m c : Nat} (h : Ph A S m c) {i a b : Nat} (hi : i < 4) (ha : a ≤ 255) (hb : b ≤ 127) :
    ∃ S' x, S.rot i a (1 + (b : Int)) = (S', x) ∧ ((x = 0 ∧ Ph A S' (m + 1) c) ∨ (x = 7 ∧ Ph A S' m c)) := by
  obtain ⟨K, k1, k2, k3⟩ := h.k
  rw [show (1 + (b : Int)) = ((1 + b : Nat) : Int) by omega]
  rcases rot_cl h.cl.way h.cl.ln k1 (i := i) (a := a) (m := 1 + b) hi (by omega) (by omega) (by omega) with ⟨e, _⟩ | ⟨S', x, e, hx, o1, o2, _, o4, _, ln, ks⟩
  · exact ⟨S, 7, e, .inr ⟨rfl, h⟩⟩
  · refine ⟨S', 0, e, .inl ⟨rfl, ⟨by rw [o1]; exact h.cl.on, by rw [o2]; exact h.cl.way, ln⟩, ⟨upd K i none, ks, fun j y hj hy => ?_, ?_⟩, by rw [o4]; exact h.cnt⟩⟩
    · unfold upd at hy
      by_cases hji : j = i
      · rw [if_pos hji] at hy
        cases hy
      · rw [if_neg hji] at hy
        exact k2 j y hj hy
    · have h1 := dn_upd K hi none
      have h2 : on1 (none : Option Su) = 1 := rfl
      omega
theorem ph_fuse {A : Su → Prop} {S : Sp} {m c : Nat} (h : Ph A S m c) (n : Int) : ∃ S', S.fuse n = (S', 0) ∧ Ph A S' m c ∧ S'.left = n.toNat := by
  refine ⟨{ S with left := n.toNat }, ?_, ⟨⟨h.cl.on, h.cl.way, ⟨h.cl.ln.n, h.cl.ln.len⟩⟩, h.k, h.cnt⟩, rfl⟩
  unfold Sp.fuse
  rw [if_neg (by rw [h.cl.on]; simp)]
theorem ph_read {A : Su → Prop} {S : Sp} {m c : Nat} (h : Ph A S m c) (hm : m ≤ 3) : ∃ t n, readU S = (t, n, 0) ∧ A t ∧ SR t ∧ t.fits := by
  obtain ⟨K, k1, k2, k3⟩ := h.k
  obtain ⟨t, n, e, i, hi, hk⟩ := read_some h.cl k1 (by omega)
  have := k1 i hi
  rw [hk] at this
  exact ⟨t, n, e, k2 i t hi hk, this.2.2.1, this.2.2.2⟩
theorem ph_hk {A : Su → Prop} {S : Sp} {m c : Nat} (h : Ph A S m c) (t : Su) (ht : SR t) : ∀ i, i < 4 → hasU (sec S i).lasts ≠ t ∨ Al t (sec S i) := fun i hi => by
  obtain ⟨K, k1, k2, k3⟩ := h.k
  have h1 := k1 i hi
  have h2 := has_kc h1
  by_cases e : hasU (sec S i).lasts = t
  · right
    cases ho : K i with
    | none =>
      rw [ho] at h2
      exact absurd (h2.symm.trans e) (su_ne ht)
    | some x =>
      rw [ho] at h2 h1
      have : x = t := h2.symm.trans e
      rw [← this]
      exact h1
  · exact .inl e
theorem ph_write2 {A : Su → Prop} {S : Sp} {m c : Nat} (h : Ph A S m c) (h0 : S.left = 0) (t : Su) (ht : SR t) (hf : t.fits) : ∃ S', writeU S t = (S', 0) ∧ readU S' = (t, 4, 0) ∧ S'.count ≤ c + 8 := by
  obtain ⟨S', e, hc, hk, _, _⟩ := write_ok_cl t ht hf h.cl h0 (ph_hk h t ht)
  refine ⟨S', e, read_all hc t ht fun i hi => al_has (hk i hi), ?_⟩
  have h1 := writeU_count S t
  rw [e] at h1
  have h1 : S'.count ≤ S.count + 8 := h1
  have := h.cnt
  omega
theorem ph_first (s : Su) (hs : SR s) (hf : s.fits) : ∃ S', writeU (Sp.mk0 4) s = (S', 0) ∧ Ph (fun x => x = s) S' 0 8 := by
  obtain ⟨S', e, hc, hk, _, _⟩ := first_ok 4 (Nat.le_refl _) s hs hf
  have h1 := writeU_count (Sp.mk0 4) s
  rw [e] at h1
  exact ⟨S', e, hc, ⟨fun _ => some s, fun i hi => hk i hi, fun i x _ hx => (Option.some.inj hx).symm, by simp [dn, on1]⟩, h1⟩
theorem ph_write1 {s nx : Su} {S : Sp} {m c : Nat} (h : Ph (fun x => x = s) S m c) (ht : SR nx) (hf : nx.fits) :
    (∃ S', writeU S nx = (S', 0) ∧ Ph (fun x => x = nx) S' m (c + 8)) ∨
    (∃ S', writeU S nx = (S', 6) ∧ S'.on = false ∧ S'.count ≤ c + 8 ∧ ∀ picks, ∃ S2, S'.start picks = (S2, 0) ∧ Ph (fun x => x = s ∨ x = nx) S2 (m + 1) (c + 8)) := by
  have hcn := writeU_count S nx
  have hcc := h.cnt
  have hw : writeU S nx = wrK S nx 4 := by unfold writeU; rw [if_pos ht]
  rw [hw] at hcn ⊢
  rcases wrK_cl nx ht hf h.cl (ph_hk h nx ht) 4 (Nat.le_refl _) with ⟨S', e, hc, hk, _, _⟩ | ⟨_, S', k, hk4, e, ho, hln, hk, _, hwy⟩
  · rw [e] at hcn ⊢
    have hcn : S'.count ≤ S.count + 8 := hcn
    refine .inl ⟨S', rfl, hc, ⟨fun _ => some nx, fun i hi => ?_, fun i x _ hx => (Option.some.inj hx).symm, by simp [dn, on1]⟩, by omega⟩
    have := hk i hi
    rw [if_pos hi] at this
    exact this
  · rw [e] at hcn ⊢
    have hcn : S'.count ≤ S.count + 8 := hcn
    refine .inr ⟨S', rfl, ho, by omega, fun picks => ?_⟩
    obtain ⟨S2, e2, c2, _, cn2, _, k2⟩ := start_cl ho hln nx ht hf hk4 hwy picks
    obtain ⟨K, q1, q2, q3⟩ := h.k
    refine ⟨S2, e2, c2, ?_, by rw [cn2]; omega⟩
    have hthird : ∀ z : Option Su, Kc z (sec S2 k) → (∀ x, z = some x → x = s ∨ x = nx) → ∃ K2, Ks S2 K2 ∧ (∀ i x, i < 4 → K2 i = some x → x = s ∨ x = nx) ∧ dn K2 ≤ m + 1 := fun z hz hz2 => by
      refine ⟨upd (Kw nx k K) k z, fun i hi => ?_, fun i x hi hx => ?_, ?_⟩
      · unfold upd Kw
        by_cases hik : i = k
        · rw [if_pos hik, hik]
          exact hz
        · rw [if_neg hik]
          have h1 := hk i hi
          have h2 : sec S2 i = sec S' i := (k2 i hi).resolve_right (fun h => hik h.1)
          rw [h2]
          by_cases hlt : i < k
          · rw [if_pos hlt] at h1 ⊢
            exact h1
          · rw [if_neg hlt] at h1 ⊢
            rw [h1]
            exact q1 i hi
      · unfold upd Kw at hx
        by_cases hik : i = k
        · rw [if_pos hik] at hx
          exact hz2 x hx
        · rw [if_neg hik] at hx
          by_cases hlt : i < k
          · rw [if_pos hlt] at hx
            exact .inr (Option.some.inj hx).symm
          · rw [if_neg hlt] at hx
            exact .inl (q2 i x hi hx)
      · have h1 := dn_upd (Kw nx k K) hk4 z
        have h2 := on1_le z
        have h3 : dn (Kw nx k K) ≤ dn K := by
          unfold dn Kw
          have q : ∀ j, on1 (if j < k then some nx else K j) ≤ on1 (K j) := fun j => by
            split
            · exact Nat.zero_le _
            · exact Nat.le_refl _
          have a0 := q 0
          have a1 := q 1
          have a2 := q 2
          have a3 := q 3
          omega
        omega
    have hkk := hk k hk4
    rw [if_neg (Nat.lt_irrefl _)] at hkk
    rcases k2 k hk4 with hs | ⟨_, ha | hd⟩
    · refine hthird (K k) ?_ fun x hx => .inl (q2 k x hk4 hx)
      rw [hs, hkk]
      exact q1 k hk4
    · exact hthird (some nx) ha fun x hx => .inr (Option.some.inj hx).symm
    · exact hthird none hd fun x hx => by cases hx
theorem Dk.rebase {B : Nat} {w0 w w' : World} {p gs g : Nat} {S : Sp} (h : Dk B w0 w p gs S) (hg : w.grownBy w' (some g)) (hlt : g < B) : Dk B w' w' p gs S := by
  obtain ⟨vw, h1, h2, h3, h4⟩ := h
  refine ⟨vw, h1.fr (fp := [g]) ((Fr.refl w [g]).grown hg (fun k hk => .inl (by simp [Option.some.inj hk]))) (fun b hb hn => ?_), h2, Below.refl _ _, Nat.le_trans h4 hg.size⟩
  have := h2 b hb
  have : b = g := by simpa using hn
  omega
theorem Dk.gs_ge {B : Nat} {w0 w : World} {p gs : Nat} {S : Sp} (h : Dk B w0 w p gs S) : B ≤ gs := by
  obtain ⟨vw, _, h2, _⟩ := h
  exact h2 gs (by simp [fpD])
theorem Dk.size_le {B : Nat} {w0 w : World} {p gs : Nat} {S : Sp} (h : Dk B w0 w p gs S) : B ≤ w.heap.size := by
  obtain ⟨_, _, _, _, h4⟩ := h
  exact h4
/-- a superblock lies beside the disk -/
theorem md_new {B : Nat} {w0 w w' : World} {p gs : Nat} {S : Sp} {t : Su} {ob : Obj} (hd : Dk B w0 w p gs S) (hr : Row w' w.heap.size 27 t.cells.toList) (hg : (w.alloc ob).grownBy w' (some w.heap.size)) :
    ∃ vw, Mid w' w' p gs vw w.heap.size t S ∧ ∀ b ∈ fpD p gs vw, B ≤ b := by
  obtain ⟨vw, h1, h2, h3, h4⟩ := hd
  have hb : Below w.heap.size w w' := ((Below.refl w.heap.size w).alloc (Nat.le_refl _) ob).trans (below_grown hg (Nat.le_refl _) (by simp))
  have k1 := h1.below hb
  exact ⟨vw, ⟨DX.same k1, hr, vw, k1, fun hm => Nat.lt_irrefl _ (h1.lt _ hm), Fr.refl _ _, fun g hg => .inl hg⟩, h2⟩
theorem md_below {B : Nat} {w0 w w' : World} {p gs : Nat} {vw : Value} {S' : Sp} (hb : Below B w0 w) (hB : B ≤ w.heap.size) (hdx : DX w p gs vw S' w') (hq : ∀ b ∈ fpD p gs vw, B ≤ b) : Below B w0 w' := by
  obtain ⟨_, _, k2, _⟩ := hdx
  exact hb.trans (k2.below hq hB)
end Go.Proofs.Ytogchfpecbmocaa
