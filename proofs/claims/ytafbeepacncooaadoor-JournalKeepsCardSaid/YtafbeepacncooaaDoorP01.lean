/-
  Plain facts on slots: what is laid is read, what is not whole has nothing; the chapter's examples.
-/
import Derived.Test.YtafbeepacncooaaDoorM16
import Derived.Test.YtafbeepacncooaaDoorM14
namespace Go.Proofs.YtafbeepacncooaaDoor
open Go.RowKit
set_option maxRecDepth 10000

theorem pack_rt {e : En} (he : e.fits) (h : Rt e) : packE e = ((packE e).1, 0) := by rw [← (packE_rt he h).1]
theorem seal_ok {old s : List UInt8} (h : s.length ≤ 376) : sealS old s = (layS (nextS old) s, 0) := by
 unfold sealS
 rw [if_neg (by omega)]
theorem prep_ok {e : En} (he : e.fits) (h : Rt e) (old : List UInt8) : prepS old e = (layS (nextS old) (packE e).1, 0) := by
 have h1 := packE_rt he h
 unfold prepS
 rw [if_pos h1.1, seal_ok (by omega)]
theorem hdr_ok {s : St} (h : SRt s) (old : List UInt8) : hdrS old s = (layS (nextS old) s.bytes, 0) := by
 unfold hdrS
 rw [if_pos h, seal_ok (by rw [sbytes_len]; omega)]
theorem void_ok (old : List UInt8) : voidS old = layS (nextS old) [] := by
 unfold voidS
 rw [seal_ok (by simp)]
theorem entry_lay {e : En} (he : e.fits) (h : Rt e) (g : UInt8) : entryS (layS g (packE e).1) = (e, true, true) := by
 have h1 := packE_rt he h
 unfold entryS
 rw [open_lay g _ (by omega)]
 simp only
 rw [if_neg (fun c => by have h2 := h1.2.1; rw [c, List.length_nil] at h2; omega), unpackE_pack he (pack_rt he h), if_pos rfl]
theorem stub_lay {s : St} (hs : s.fits) (h : SRt s) (g : UInt8) : stubT (layS g s.bytes) = (s, true, true) := by
 unfold stubT
 rw [open_lay g _ (by rw [sbytes_len]; omega)]
 simp only
 rw [if_neg (fun c => by have h2 := sbytes_len s; rw [c, List.length_nil] at h2; omega), unpackT_pack s hs h, if_pos rfl]
theorem entry_none {p : List UInt8} (h : openS p = ([], false)) : entryS p = (en0, false, false) := by
 unfold entryS
 rw [h]
 rfl
theorem stub_none {p : List UInt8} (h : openS p = ([], false)) : stubT p = (st0, false, false) := by
 unfold stubT
 rw [h]
 rfl
theorem open_noughts : openS (List.replicate 384 0) = ([], false) := by decide +kernel
/-- both rows of the table in which the header tells -/
theorem judge_holds {e : En} (h : Rt e) {p q : List UInt8} (hp : entryS p = (e, true, true)) (hq : stubT q = (stubS e, true, true)) : judgeS p q e.opn = ⟨1, stubS e, e⟩ := by
 unfold judgeS
 rw [hp, hq]
 simp only
 rw [if_pos ⟨trivial, by rw [stubS_rt h], trivial⟩]
end Go.Proofs.YtafbeepacncooaaDoor
/-
  A disk of two sectors, in plain words: what calls leave, wherever the power goes.
-/
namespace Go.Proofs.YtafbeepacncooaaDoor
open Go.RowKit
set_option maxRecDepth 10000

theorem Fr.of_below {w w' : World} (h : Below w.heap.size w w') : Fr w w' [] := ⟨h.os, h.tape, h.output, h.size, fun b hb _ => h.block b hb⟩
section
variable {a b s p h : List UInt8} {way : List Wr} {l c : Nat}
end
theorem next_own (l : List UInt8) (h : l.length = 384) : l.getD 383 0 ≠ nextS l := by
 unfold nextS
 rw [if_neg (by omega), h]
 intro c
 have h1 := congrArg UInt8.toNat c
 rw [UInt8.toNat_add] at h1
 have h2 := UInt8.toNat_lt (l.getD 383 0)
 have h3 : (l.getD (384 - 1) 0) = l.getD 383 0 := rfl
 rw [h3] at h1
 have h4 : (1 : UInt8).toNat = 1 := rfl
 omega
end Go.Proofs.YtafbeepacncooaaDoor
/-
  Texts on a disk, in plain words: what a sector has, laying, what the power leaves, what rots.
-/
namespace Go.Proofs.YtafbeepacncooaaDoor
open Go.RowKit
set_option maxRecDepth 10000

def secJ (S : Sp) (k : Nat) : Sec := S.secs.getD k ⟨[], false⟩
/-- every sector has its size -/
structure LnJ (S : Sp) : Prop where
 len : ∀ s ∈ S.secs, s.lasts.length = 384
/-- what a sector has: a text, or nothing that can be read -/
def KcJ : Option (List UInt8) → Sec → Prop
 | some t, s => (∃ g, s.lasts = layS g t) ∧ s.marked = false ∧ t.length ≤ 376
 | none, s => s.marked = true ∧ openS s.lasts = ([], false)
theorem secJ_mem {S : Sp} {k : Nat} (hk : k < S.secs.length) : secJ S k = S.secs[k] := by
 rw [secJ, List.getD_eq_getElem?_getD, List.getElem?_eq_getElem hk]
 rfl
theorem secJ_len {S : Sp} (h : LnJ S) {k : Nat} (hk : k < S.secs.length) : (secJ S k).lasts.length = 384 := by
 rw [secJ_mem hk]
 exact h.len _ (List.getElem_mem hk)
theorem secJ_mod {S S' : Sp} {k : Nat} {f : Sec → Sec} (hk : k < S.secs.length) (h : S'.secs = S.secs.modify k f) (i : Nat) : secJ S' i = if i = k then f (secJ S i) else secJ S i := by
 unfold secJ
 rw [h, List.getD_eq_getElem?_getD, List.getD_eq_getElem?_getD, List.getElem?_modify]
 by_cases e : i = k
 ·
  subst e
  simp [hk]
 ·
  have e' : ¬ k = i := fun h => e h.symm
  simp [e, e']
/-- the power is on, nothing is under way -/
structure ClJ (S : Sp) : Prop where
 on : S.on = true
 way : S.way = []
 ln : LnJ S
theorem readJ {S : Sp} (h : ClJ S) {k : Nat} (hk : k < S.secs.length) : S.read (k : Int) = ((secJ S k).lasts, 0) := by
 unfold Sp.read
 rw [if_neg (by simp only [Decidable.not_not]; exact ⟨by omega, by omega⟩), if_neg (by rw [h.on]; simp), h.way]
 rfl
/-- a text is laid -/
def layJ (S : Sp) (i : Int) (f : List UInt8 → List UInt8) : Sp × Int :=
 if (S.read i).2 ≠ 0 then (S, (S.read i).2) else if (S.write i (f (S.read i).1)).2 ≠ 0 then S.write i (f (S.read i).1) else (S.write i (f (S.read i).1)).1.flush
/-- the first c bytes of a write over a sector -/
theorem modJ_len {secs : List Sec} (h : ∀ s ∈ secs, s.lasts.length = 384) (k : Nat) (f : Sec → Sec) (hf : ∀ s : Sec, s.lasts.length = 384 → (f s).lasts.length = 384) : ∀ s ∈ secs.modify k f, s.lasts.length = 384 := by
 intro s hs
 obtain ⟨j, hj, hje⟩ := List.getElem_of_mem hs
 rw [List.getElem_modify] at hje
 split at hje
 ·
  subst hje
  exact hf _ (h _ (List.getElem_mem (by simpa using hj)))
 ·
  subst hje
  exact h _ (List.getElem_mem (by simpa using hj))
theorem takeJ_len {b : List UInt8} (hb : b.length = 384) (c : Nat) (s : Sec) (h : s.lasts.length = 384) : (takeS3 s b c).lasts.length = 384 := by
 unfold takeS3
 simp only [List.length_append, List.length_take, List.length_drop, hb, h]
 omega
/-- of a write that lays a text over a sector, whatever lasts -/
theorem take_kc {s : Sec} {o : Option (List UInt8)} {t : List UInt8} (hl : s.lasts.length = 384) (ht : t.length ≤ 376) (ho : KcJ o s) (c : Nat) (hc : c ≤ 384) :
  KcJ o (takeS3 s (layS (nextS s.lasts) t) c) ∨ KcJ (some t) (takeS3 s (layS (nextS s.lasts) t) c) ∨ KcJ none (takeS3 s (layS (nextS s.lasts) t) c) := by
 by_cases h0 : c = 0
 ·
  subst h0
  left
  have e : takeS3 s (layS (nextS s.lasts) t) 0 = s := by
   unfold takeS3
   simp
  rw [e]
  exact ho
 ·
  by_cases h1 : c = 384
  ·
   subst h1
   right; left
   have e : takeS3 s (layS (nextS s.lasts) t) 384 = ⟨layS (nextS s.lasts) t, false⟩ := by
    unfold takeS3
    rw [List.take_of_length_le (by rw [layS_len _ _ ht]; exact Nat.le_refl _), List.drop_eq_nil_of_le (by omega)]
    simp
   rw [e]
   exact ⟨⟨_, rfl⟩, rfl, ht⟩
  ·
   right; right
   refine ⟨?_, tears_not _ t s.lasts c ht (next_own _ hl) (by omega) (by omega)⟩
   unfold takeS3
   simp [h0]
   omega
theorem take_all_kc {s : Sec} {t : List UInt8} (hl : s.lasts.length = 384) (ht : t.length ≤ 376) : KcJ (some t) (takeS3 s (layS (nextS s.lasts) t) 384) := by
 have e : takeS3 s (layS (nextS s.lasts) t) 384 = ⟨layS (nextS s.lasts) t, false⟩ := by
  unfold takeS3
  rw [List.take_of_length_le (by rw [layS_len _ _ ht]; exact Nat.le_refl _), List.drop_eq_nil_of_le (by omega)]
  simp
 rw [e]
 exact ⟨⟨_, rfl⟩, rfl, ht⟩
/-- what the sectors from 4 on have (those of a journal) -/
def KsJ (S : Sp) (K : Nat → Option (List UInt8)) : Prop := ∀ i, 4 ≤ i → i < 20 → KcJ (K i) (secJ S i)
def updJ (K : Nat → Option (List UInt8)) (i : Nat) (o : Option (List UInt8)) : Nat → Option (List UInt8) := fun j => if j = i then o else K j
theorem updJ_same (K : Nat → Option (List UInt8)) (i : Nat) : updJ K i (K i) = K := by
 funext j
 unfold updJ
 split
 ·
  rename_i h; rw [h]
 ·
  rfl
/-- a disk of the journal's at rest -/
structure TdJ (S : Sp) (K : Nat → Option (List UInt8)) : Prop where
 cl : ClJ S
 n : 20 ≤ S.secs.length
 ks : KsJ S K
/-- the power is gone; what it may leave: K1, or one sector more -/
structure OffJ (S : Sp) (K : Nat → Option (List UInt8)) (pend : Option (Nat × List UInt8)) : Prop where
 off : S.on = false
 ln : LnJ S
 n : 20 ≤ S.secs.length
 ks : KsJ S K
 way : match pend with
  | none => S.way = []
  | some (i, t) => 4 ≤ i ∧ i < 20 ∧ t.length ≤ 376 ∧ S.way = [⟨i, layS (nextS (secJ S i).lasts) t⟩]
theorem lay_steps {S : Sp} {K : Nat → Option (List UInt8)} (h : TdJ S K) {i : Nat} (h4 : 4 ≤ i) (h20 : i < 20) (f : List UInt8 → List UInt8) {t : List UInt8} (ht : t.length ≤ 376) (hf : ∀ old, old.length = 384 → f old = layS (nextS old) t) :
  (∃ S', layJ S i f = (S', 0) ∧ TdJ S' (updJ K i (some t)) ∧ S'.count = S.count + 2 ∧ S'.left = S.left - 1 - 1 ∧ (S.left = 0 ∨ 2 < S.left)) ∨
  (∃ S', layJ S i f = (S', 6) ∧ OffJ S' K none ∧ S'.count = S.count + 1 ∧ S.left = 1) ∨
  (∃ S', layJ S i f = (S', 6) ∧ OffJ S' K (some (i, t)) ∧ S'.count = S.count + 2 ∧ S.left = 2) := by
 have hn := h.n
 have hil : i < S.secs.length := by omega
 have hr := readJ h.cl hil
 have hlen := secJ_len h.cl.ln hil
 have hfl := hf _ hlen
 have hll : (layS (nextS (secJ S i).lasts) t).length = 384 := layS_len _ _ ht
 have e0 : layJ S i f = if (S.write i (layS (nextS (secJ S i).lasts) t)).2 ≠ 0 then S.write i (layS (nextS (secJ S i).lasts) t) else (S.write i (layS (nextS (secJ S i).lasts) t)).1.flush := by
  unfold layJ
  rw [hr, if_neg (by simp)]
  simp only [hfl]
 rw [e0]
 generalize hl : layS (nextS (secJ S i).lasts) t = l at *
 by_cases h1 : S.left = 1
 ·
  right; left
  have hw : S.write i l = ({ S with on := false, left := 0, count := S.count + 1 }, 6) := by
   unfold Sp.write
   rw [if_neg (by rintro (q | q); exact q ⟨by omega, by omega⟩; exact q hll), Sp.goes_one h.cl.on h1, if_neg (by simp)]
  rw [hw, if_pos (by simp)]
  exact ⟨_, rfl, ⟨rfl, ⟨h.cl.ln.len⟩, hn, h.ks, h.cl.way⟩, rfl, h1⟩
 ·
  have hw : S.write i l = ({ S with left := S.left - 1, count := S.count + 1, way := S.way ++ [⟨i, l⟩] }, 0) := Sp.write_ok hil hll h.cl.on h1
  rw [hw, if_neg (by simp)]
  simp only
  rw [h.cl.way, List.nil_append]
  by_cases h2 : S.left = 2
  ·
   right; right
   refine ⟨{ S with on := false, left := 0, count := S.count + 2, way := [⟨i, l⟩] }, ?_, ⟨rfl, ⟨h.cl.ln.len⟩, hn, h.ks, h4, h20, ht, ?_⟩, rfl, h2⟩
   ·
    unfold Sp.flush
    rw [Sp.goes_one (S := { S with left := S.left - 1, count := S.count + 1, way := [⟨i, l⟩] }) h.cl.on (by show S.left - 1 = 1; omega), if_neg (by simp)]
   ·
    show [(⟨i, l⟩ : Wr)] = [⟨i, layS (nextS (secJ S i).lasts) t⟩]
    rw [hl]
  ·
   left
   refine ⟨{ S with left := S.left - 1 - 1, count := S.count + 2, way := [], secs := sett (fun _ => 384) [⟨i, l⟩] S.secs }, ?_, ⟨⟨h.cl.on, rfl, ⟨?_⟩⟩, ?_, ?_⟩, rfl, rfl, by omega⟩
   ·
    exact Sp.flush_ok (S := { S with left := S.left - 1, count := S.count + 1, way := [⟨i, l⟩] }) h.cl.on (by show S.left - 1 ≠ 1; omega)
   ·
    exact modJ_len h.cl.ln.len i _ fun s hs => takeJ_len hll 384 s hs
   ·
    show 20 ≤ (sett (fun _ => 384) [⟨i, l⟩] S.secs).length
    rw [sett_length]
    exact hn
   ·
    intro j j4 j20
    have hs : secJ { S with left := S.left - 1 - 1, count := S.count + 2, way := [], secs := sett (fun _ => 384) [⟨i, l⟩] S.secs } j = if j = i then takeS3 (secJ S j) l 384 else secJ S j := secJ_mod (S := S) (f := fun s => takeS3 s l 384) hil rfl j
    rw [hs]
    unfold updJ
    by_cases e : j = i
    ·
     subst e
     rw [if_pos rfl, if_pos rfl, ← hl]
     exact take_all_kc hlen ht
    ·
     rw [if_neg e, if_neg e]
     exact h.ks j j4 j20
/-- what is there when the power is back -/
theorem start_steps {S : Sp} {K : Nat → Option (List UInt8)} {pend : Option (Nat × List UInt8)} (h : OffJ S K pend) (picks : List Int) :
  ∃ S' K', S.start picks = (S', 0) ∧ TdJ S' K' ∧ S'.count = S.count ∧ S'.left = S.left ∧
   match pend with
   | none => K' = K
   | some (i, t) => K' = K ∨ K' = updJ K i (some t) ∨ K' = updJ K i none := by
 rw [Sp.start_ok h.off]
 obtain ⟨ho, hl, hn, hks, hw⟩ := h
 cases pend with
 | none =>
  simp only at hw
  refine ⟨_, K, rfl, ⟨⟨rfl, rfl, ?_⟩, ?_, ?_⟩, rfl, rfl, rfl⟩
  ·
   rw [hw]; exact ⟨hl.len⟩
  ·
   rw [hw]; exact hn
  ·
   intro j j4 j20
   rw [hw]
   exact hks j j4 j20
 | some it =>
  obtain ⟨i, t⟩ := it
  obtain ⟨i4, i20, ht, hw⟩ := hw
  have hil : i < S.secs.length := by omega
  have hlen := secJ_len hl hil
  have hll : (layS (nextS (secJ S i).lasts) t).length = 384 := layS_len _ _ ht
  have hkc := take_kc hlen ht (hks i i4 i20) (pickOf picks 0) (pickOf_le _ _)
  have hs : ∀ j, secJ { S with secs := sett (pickOf picks) S.way S.secs, way := [], on := true } j = if j = i then takeS3 (secJ S j) (layS (nextS (secJ S i).lasts) t) (pickOf picks 0) else secJ S j := fun j => by
   refine secJ_mod (S := S) (f := fun s => takeS3 s (layS (nextS (secJ S i).lasts) t) (pickOf picks 0)) hil ?_ j
   show sett (pickOf picks) S.way S.secs = _
   rw [hw]
   rfl
  have hT : ∀ o, KcJ o (takeS3 (secJ S i) (layS (nextS (secJ S i).lasts) t) (pickOf picks 0)) → TdJ { S with secs := sett (pickOf picks) S.way S.secs, way := [], on := true } (updJ K i o) := fun o hk => by
   refine ⟨⟨rfl, rfl, ⟨?_⟩⟩, ?_, ?_⟩
   ·
    show ∀ s ∈ sett (pickOf picks) S.way S.secs, _
    rw [hw]
    exact modJ_len hl.len i _ fun s q => takeJ_len hll _ s q
   ·
    show 20 ≤ (sett (pickOf picks) S.way S.secs).length
    rw [sett_length]
    exact hn
   ·
    intro j j4 j20
    rw [hs j]
    unfold updJ
    by_cases e : j = i
    ·
     subst e
     rw [if_pos rfl, if_pos rfl]
     exact hk
    ·
     rw [if_neg e, if_neg e]
     exact hks j j4 j20
  rcases hkc with hk | hk | hk
  ·
   refine ⟨_, K, rfl, ?_, rfl, rfl, .inl rfl⟩
   have := hT _ hk
   rw [updJ_same] at this
   exact this
  ·
   exact ⟨_, _, rfl, hT _ hk, rfl, rfl, .inr (.inl rfl)⟩
  ·
   exact ⟨_, _, rfl, hT _ hk, rfl, rfl, .inr (.inr rfl)⟩
end Go.Proofs.YtafbeepacncooaaDoor
/-
  Texts on a disk, in plain words: what rots; what entries and stubs are there.
-/
namespace Go.Proofs.YtafbeepacncooaaDoor
open Go.RowKit
set_option maxRecDepth 10000

theorem xorJ_ne (x : UInt8) (m : Nat) (h1 : 1 ≤ m) (h2 : m ≤ 255) : x ^^^ UInt8.ofNat m ≠ x := by
 intro e
 have h3 : UInt8.ofNat m = 0 := by
  have h4 : x ^^^ (x ^^^ UInt8.ofNat m) = x ^^^ x := by rw [e]
  rw [← UInt8.xor_assoc, UInt8.xor_self, UInt8.zero_xor] at h4
  exact h4
 have h5 := congrArg UInt8.toNat h3
 simp at h5
 omega
/-- what rot does -/
theorem rot_or (S : Sp) (i a m : Int) : (∃ x, S.rot i a m = (S, x) ∧ x ≠ 0) ∨
  (∃ k : Nat, i = k ∧ k < S.secs.length ∧ newest S.way k = 0 ∧ (secJ S k).marked = false ∧ 0 ≤ a ∧ a < 384 ∧ 1 ≤ m ∧ m ≤ 255 ∧ S.rot i a m = ({ S with secs := S.secs.modify k (fun s => turnS s a.toNat m.toNat) }, 0)) := by
 unfold Sp.rot
 by_cases h0 : ¬ S.is i ∨ a < 0 ∨ 384 ≤ a ∨ m < 1 ∨ 255 < m
 ·
  rw [if_pos h0]
  exact .inl ⟨1, rfl, by decide⟩
 ·
  rw [if_neg h0]
  have hi : S.is i := Decidable.not_not.1 fun h => h0 (.inl h)
  obtain ⟨i0, il⟩ := hi
  by_cases h1 : newest S.way i.toNat ≠ 0
  ·
   rw [if_pos h1]
   exact .inl ⟨10, rfl, by decide⟩
  ·
   rw [if_neg h1]
   by_cases h2 : (S.secs.getD i.toNat ⟨[], false⟩).marked = true
   ·
    rw [if_pos h2]
    exact .inl ⟨7, rfl, by decide⟩
   ·
    rw [if_neg h2]
    refine .inr ⟨i.toNat, by omega, by omega, Decidable.not_not.1 h1, by simpa [secJ] using h2, ?_, ?_, ?_, ?_, rfl⟩ <;> omega
theorem turn_kc {s : Sec} {t : List UInt8} (h : KcJ (some t) s) {a m : Nat} (ha : a < 384) (h1 : 1 ≤ m) (h2 : m ≤ 255) : KcJ none (turnS s a m) := by
 obtain ⟨⟨g, hg⟩, _, ht⟩ := h
 refine ⟨rfl, ?_⟩
 have hlen : s.lasts.length = 384 := by rw [hg, layS_len _ _ ht]
 refine turns_not s.lasts a _ (by rw [hg]; exact lay_good _ _ ht) ha ?_
 rw [List.getD_eq_getElem?_getD, List.getElem?_eq_getElem (by omega)]
 simp only [Option.getD_some, ne_eq, Option.some.injEq]
 exact fun h => xorJ_ne _ m h1 h2 h.symm
theorem kc_some {o : Option (List UInt8)} {s : Sec} (h : KcJ o s) (hm : s.marked = false) : ∃ t, o = some t := by
 cases o with
 | none =>
  rw [h.1] at hm
  cases hm
 | some t => exact ⟨t, rfl⟩
theorem ks_rot {S : Sp} {K : Nat → Option (List UInt8)} (hk : KsJ S K) {k a m : Nat} (hkl : k < S.secs.length) (hm : (secJ S k).marked = false) (ha : a < 384) (h1 : 1 ≤ m) (h2 : m ≤ 255) :
  KsJ { S with secs := S.secs.modify k (fun s => turnS s a m) } (updJ K k none) := fun j j4 j20 => by
 have hs : secJ { S with secs := S.secs.modify k (fun s => turnS s a m) } j = if j = k then turnS (secJ S j) a m else secJ S j := secJ_mod (S := S) (f := fun s => turnS s a m) hkl rfl j
 rw [hs]
 unfold updJ
 by_cases e : j = k
 ·
  subst e
  rw [if_pos rfl, if_pos rfl]
  obtain ⟨t, ht⟩ := kc_some (hk j j4 j20) hm
  have h := hk j j4 j20
  rw [ht] at h
  exact turn_kc h ha h1 h2
 ·
  rw [if_neg e, if_neg e]
  exact hk j j4 j20
theorem turnJ_len (s : Sec) (a m : Nat) (h : s.lasts.length = 384) : (turnS s a m).lasts.length = 384 := by simp [turnS, h]
theorem rot_steps {S : Sp} {K : Nat → Option (List UInt8)} (h : TdJ S K) (i a m : Int) : (∃ x, S.rot i a m = (S, x) ∧ x ≠ 0) ∨
  (∃ (k : Nat) (S' : Sp), i = k ∧ S.rot i a m = (S', 0) ∧ TdJ S' (updJ K k none) ∧ S'.count = S.count ∧ S'.left = S.left) := by
 rcases rot_or S i a m with h1 | ⟨k, e, hk, _, hm, a0, a1, m1, m2, hr⟩
 ·
  exact .inl h1
 ·
  refine .inr ⟨k, _, e, hr, ⟨⟨h.cl.on, h.cl.way, ⟨modJ_len h.cl.ln.len k _ fun s hs => turnJ_len s _ _ hs⟩⟩, by show 20 ≤ (S.secs.modify k _).length; rw [List.length_modify]; exact h.n, ks_rot h.ks hk hm (by omega) (by omega) (by omega)⟩, rfl, rfl⟩
theorem rot_off {S : Sp} {K : Nat → Option (List UInt8)} {pend : Option (Nat × List UInt8)} (h : OffJ S K pend) (i a m : Int) : (∃ x, S.rot i a m = (S, x) ∧ x ≠ 0) ∨
  (∃ (k : Nat) (S' : Sp), i = k ∧ S.rot i a m = (S', 0) ∧ OffJ S' (updJ K k none) pend ∧ S'.count = S.count ∧ S'.left = S.left) := by
 rcases rot_or S i a m with h1 | ⟨k, e, hk, hnw, hm, a0, a1, m1, m2, hr⟩
 ·
  exact .inl h1
 ·
  obtain ⟨ho, hl, hn, hks, hw⟩ := h
  refine .inr ⟨k, _, e, hr, ⟨ho, ⟨modJ_len hl.len k _ fun s hs => turnJ_len s _ _ hs⟩, by show 20 ≤ (S.secs.modify k _).length; rw [List.length_modify]; exact hn, ks_rot hks hk hm (by omega) (by omega) (by omega), ?_⟩, rfl, rfl⟩
  cases pend with
  | none => exact hw
  | some it =>
   obtain ⟨j, t⟩ := it
   obtain ⟨j4, j20, ht, hw⟩ := hw
   refine ⟨j4, j20, ht, ?_⟩
   show S.way = _
   have hjk : j ≠ k := by
    intro q
    subst q
    rw [hw] at hnw
    have := (newest_zero [⟨j, layS (nextS (secJ S j).lasts) t⟩] j).1 hnw ⟨j, layS (nextS (secJ S j).lasts) t⟩ (by simp)
    exact this rfl
   have hs : secJ { S with secs := S.secs.modify k (fun s => turnS s a.toNat m.toNat) } j = secJ S j := by
    rw [secJ_mod (S := S) (f := fun s => turnS s a.toNat m.toNat) hk rfl j, if_neg hjk]
   rw [hs]
   exact hw
/-- what a sector's text is as an entry's, as a stub's -/
def eK : Option (List UInt8) → En × Bool × Bool
 | none => (en0, false, false)
 | some t => if t = [] then (en0, false, true) else if (unpackE t).2 = 0 then ((unpackE t).1, true, true) else (en0, false, false)
def sK : Option (List UInt8) → St × Bool × Bool
 | none => (st0, false, false)
 | some t => if t = [] then (st0, false, true) else if (unpackT t).2 = 0 then ((unpackT t).1, true, true) else (st0, false, false)
theorem entry_kc {o : Option (List UInt8)} {s : Sec} (h : KcJ o s) : entryS s.lasts = eK o := by
 cases o with
 | none => exact entry_none h.2
 | some t =>
  obtain ⟨⟨g, hg⟩, _, ht⟩ := h
  unfold entryS
  rw [hg, open_lay g t ht]
  rfl
theorem stub_kc {o : Option (List UInt8)} {s : Sec} (h : KcJ o s) : stubT s.lasts = sK o := by
 cases o with
 | none => exact stub_none h.2
 | some t =>
  obtain ⟨⟨g, hg⟩, _, ht⟩ := h
  unfold stubT
  rw [hg, open_lay g t ht]
  rfl
theorem eK_entry {e : En} (he : e.fits) (h : Rt e) : eK (some (packE e).1) = (e, true, true) := by
 have h1 := entry_lay he h 0
 unfold entryS at h1
 rw [open_lay 0 _ (by have := packE_rt he h; omega)] at h1
 exact h1
theorem sK_stub {s : St} (hs : s.fits) (h : SRt s) : sK (some s.bytes) = (s, true, true) := by
 have h1 := stub_lay hs h 0
 unfold stubT at h1
 rw [open_lay 0 _ (by rw [sbytes_len]; omega)] at h1
 exact h1
theorem eK_void : eK (some []) = (en0, false, true) := rfl
theorem sK_void : sK (some []) = (st0, false, true) := rfl
/-- what two texts are together for an operation -/
def judgeK (p h : Option (List UInt8)) (n : Int) : It :=
 if (sK h).2.1 = true ∧ (sK h).1.opn = n ∧ stubS (eK p).1 = (sK h).1 then ⟨1, stubS (eK p).1, (eK p).1⟩
 else if (sK h).2.1 = true ∧ (sK h).1.opn = n then ⟨2, (sK h).1, en0⟩
 else if (sK h).2.2 = true then it0
 else if (eK p).2.1 = true ∧ (eK p).1.opn = n then ⟨1, stubS (eK p).1, (eK p).1⟩
 else if (eK p).2.2 = true then it0
 else ⟨3, st0, en0⟩
theorem judge_kc {p h : Option (List UInt8)} {s1 s2 : Sec} (h1 : KcJ p s1) (h2 : KcJ h s2) (n : Int) : judgeS s1.lasts s2.lasts n = judgeK p h n := by
 unfold judgeS judgeK
 rw [entry_kc h1, stub_kc h2]
end Go.Proofs.YtafbeepacncooaaDoor
/-
  Journals, in plain words: what each call does to the disk and to what is known of the slots; laying texts one behind the other.
-/
namespace Go.Proofs.YtafbeepacncooaaDoor
open Go.RowKit
set_option maxRecDepth 10000

/-! ### one text behind the other -/
abbrev Lay := Nat × (List UInt8 → List UInt8) × List UInt8
/-- laid till the first error -/
def layL (S : Sp) : List Lay → Sp × Int
 | [] => (S, 0)
 | x :: r => if (layJ S x.1 x.2.1).2 ≠ 0 then layJ S x.1 x.2.1 else layL (layJ S x.1 x.2.1).1 r
/-- the contents behind them -/
def appK (K : Nat → Option (List UInt8)) : List Lay → Nat → Option (List UInt8)
 | [] => K
 | x :: r => appK (updJ K x.1 (some x.2.2)) r
/-- what may be laid -/
def LayOk (x : Lay) : Prop := 4 ≤ x.1 ∧ x.1 < 20 ∧ x.2.2.length ≤ 376 ∧ ∀ old : List UInt8, old.length = 384 → x.2.1 old = layS (nextS old) x.2.2
/-- what may be there when the power went in the middle -/
def CrK (K : Nat → Option (List UInt8)) (pl : List Lay) (K' : Nat → Option (List UInt8)) : Prop :=
 ∃ a b, pl = a ++ b ∧ (K' = appK K a ∨ ∃ x r, b = x :: r ∧ (K' = updJ (appK K a) x.1 none ∨ K' = updJ (appK K a) x.1 (some x.2.2)))
theorem appK_app (K : Nat → Option (List UInt8)) (a b : List Lay) : appK K (a ++ b) = appK (appK K a) b := by
 induction a generalizing K with
 | nil => rfl
 | cons y r ih => exact ih _
theorem layL_app (S : Sp) (a b : List Lay) : layL S (a ++ b) = if (layL S a).2 ≠ 0 then layL S a else layL (layL S a).1 b := by
 induction a generalizing S with
 | nil => simp [layL]
 | cons x r ih =>
  have e1 : ∀ q, layL S (x :: q) = if (layJ S x.1 x.2.1).2 ≠ 0 then layJ S x.1 x.2.1 else layL (layJ S x.1 x.2.1).1 q := fun _ => rfl
  by_cases h : (layJ S x.1 x.2.1).2 ≠ 0
  ·
   have e2 : ∀ q, layL S (x :: q) = layJ S x.1 x.2.1 := fun q => by rw [e1 q]; exact if_pos h
   rw [List.cons_append, e2, e2, if_pos h]
  ·
   have e2 : ∀ q, layL S (x :: q) = layL (layJ S x.1 x.2.1).1 q := fun q => by rw [e1 q]; exact if_neg h
   rw [List.cons_append, e2, e2, ih]
theorem layL_steps : ∀ (pl : List Lay) {S : Sp} {K : Nat → Option (List UInt8)}, TdJ S K → (∀ x ∈ pl, LayOk x) →
  (∃ S', layL S pl = (S', 0) ∧ TdJ S' (appK K pl) ∧ S'.count = S.count + 2 * pl.length) ∨
  (∃ S' a x r pend, layL S pl = (S', 6) ∧ pl = a ++ x :: r ∧ OffJ S' (appK K a) pend ∧ (pend = none ∨ pend = some (x.1, x.2.2)) ∧ S'.count ≤ S.count + 2 * pl.length)
 | [], S, K, h, _ => .inl ⟨S, rfl, h, rfl⟩
 | x :: r, S, K, h, ho => by
  obtain ⟨x4, x20, xt, xf⟩ := ho x (by simp)
  rcases lay_steps h x4 x20 x.2.1 xt xf with ⟨S1, e, h1, hc, _, _⟩ | ⟨S1, e, h1, hc, _⟩ | ⟨S1, e, h1, hc, _⟩
  ·
   have e1 : layL S (x :: r) = layL S1 r := by
    rw [layL, e, if_neg (by simp)]
   rw [e1]
   rcases layL_steps r h1 (fun y hy => ho y (by simp [hy])) with ⟨S2, e2, h2, hc2⟩ | ⟨S2, a, y, q, pend, e2, ep, h2, hp, hc2⟩
   ·
    exact .inl ⟨S2, e2, h2, by rw [hc2, hc]; simp; omega⟩
   ·
    exact .inr ⟨S2, x :: a, y, q, pend, e2, by rw [ep]; rfl, h2, hp, by rw [hc] at hc2; simp; omega⟩
  ·
   have e1 : layL S (x :: r) = (S1, 6) := by
    rw [layL, e, if_pos (by simp)]
   exact .inr ⟨S1, [], x, r, none, e1, rfl, h1, .inl rfl, by rw [hc]; simp; omega⟩
  ·
   have e1 : layL S (x :: r) = (S1, 6) := by
    rw [layL, e, if_pos (by simp)]
   exact .inr ⟨S1, [], x, r, some (x.1, x.2.2), e1, rfl, h1, .inr rfl, by rw [hc]; simp; omega⟩
/-! ### a journal -/
/-- a checkpoint, and what each operation behind it is -/
structure Jn where
 c : Int
 x : List It
/-- an operation's sectors -/
def pN (n : Int) : Nat := (4 + n % 8).toNat
def hN (n : Int) : Nat := (12 + n % 8).toNat
theorem pN_lt (n : Int) : 4 ≤ pN n ∧ pN n < 12 := by unfold pN; omega
theorem hN_lt (n : Int) : 12 ≤ hN n ∧ hN n < 20 := by unfold hN; omega
theorem pN_eq (n m : Int) : pN n = pN m ↔ n % 8 = m % 8 := by unfold pN; omega
theorem hN_eq (n m : Int) : hN n = hN m ↔ n % 8 = m % 8 := by unfold hN; omega
theorem ph_ne (n m : Int) : pN n ≠ hN m := by unfold pN hN; omega
/-- what is laid: nothing, an entry, a stub -/
def lV (i : Nat) : Lay := (i, voidS, [])
noncomputable def lE (e : En) : Lay := (pN e.opn, fun old => (prepS old e).1, (packE e).1)
def lS (s : St) : Lay := (hN s.opn, fun old => (hdrS old s).1, s.bytes)
theorem lV_ok {i : Nat} (h4 : 4 ≤ i) (h20 : i < 20) : LayOk (lV i) := ⟨h4, h20, by simp [lV], fun old _ => void_ok old⟩
theorem lE_ok {e : En} (he : e.fits) (h : Rt e) : LayOk (lE e) := ⟨(pN_lt _).1, Nat.lt_of_lt_of_le (pN_lt _).2 (by decide), by have := packE_rt he h; show (packE e).1.length ≤ 376; omega, fun old _ => by show (prepS old e).1 = _; rw [prep_ok he h]; rfl⟩
theorem lS_ok {s : St} (h : SRt s) : LayOk (lS s) := ⟨Nat.le_trans (by decide) (hN_lt _).1, (hN_lt _).2, by show s.bytes.length ≤ 376; rw [sbytes_len]; omega, fun old _ => by show (hdrS old s).1 = _; rw [hdr_ok h]; rfl⟩
/-- is an operation in the window? -/
def Jn.has (J : Jn) (n : Int) : Prop := J.c < n ∧ n ≤ J.c + 8
instance (J : Jn) (n : Int) : Decidable (J.has n) := by unfold Jn.has; infer_instance
def Jn.item (J : Jn) (n : Int) : It := if J.has n then J.x.getD (n - J.c - 1).toNat it0 else it0
def Jn.set (J : Jn) (n : Int) (i : It) : Jn := ⟨J.c, J.x.set (n - J.c - 1).toNat i⟩
/-- the texts that Put lays -/
noncomputable def putP (x : It) (e : En) : List Lay :=
 (if x.kind = 1 ∨ (x.kind = 2 ∧ x.stub ≠ stubS e) then [lV (hN e.opn)] else []) ++ [lE e] ++ (if x.kind = 2 ∧ x.stub = stubS e then [] else [lS (stubS e)])
/-- the texts that Void lays -/
def voidP (x : It) (n : Int) : List Lay := if x.kind = 0 then [] else if x.kind = 3 then [lV (pN n), lV (hN n)] else [lV (hN n), lV (pN n)]
/-- the texts that a cleaning lays -/
def cleanP (p h : List UInt8) (n : Int) : List Lay :=
 (if (entryS p).2.2 = false ∨ ((entryS p).2.1 = true ∧ (entryS p).1.opn = n) then [lV (pN n)] else []) ++ (if (stubT h).2.2 = false ∨ ((stubT h).2.1 = true ∧ (stubT h).1.opn = n) then [lV (hN n)] else [])
/-- the texts that Open lays for a slot -/
def openP (p h : List UInt8) (n : Int) : List Lay :=
 if (judgeS p h n).kind = 0 then cleanP p h n else if (judgeS p h n).kind = 1 ∧ (stubT h).2.2 = false then [lS (judgeS p h n).stub] else []
/-- the texts that Scrub lays for a slot -/
def scrubP (x : It) (p h : List UInt8) (n : Int) : List Lay :=
 if x.kind = 0 then cleanP p h n else if (x.kind = 1 ∨ x.kind = 2) ∧ ((stubT h).2.1 = false ∨ (stubT h).1 ≠ x.stub) then [lS x.stub] else []
/-- what Scrub knows of a slot -/
def scrubX (x : It) (p : List UInt8) : It := if x.kind = 1 ∧ ((entryS p).2.1 = false ∨ stubS (entryS p).1 ≠ x.stub) then ⟨2, x.stub, en0⟩ else x
open Classical in
/-- Put -/
noncomputable def putJ (S : Sp) (J : Jn) (e : En) : Sp × Jn × Int :=
 if ¬ Rt e then (S, J, 4) else if ¬ J.has e.opn then (S, J, 1)
 else if (J.item e.opn).kind = 1 ∧ (J.item e.opn).entry = e then (S, J, 0)
 else if (layL S (putP (J.item e.opn) e)).2 = 0 then ((layL S (putP (J.item e.opn) e)).1, J.set e.opn ⟨1, stubS e, e⟩, 0)
 else ((layL S (putP (J.item e.opn) e)).1, J, (layL S (putP (J.item e.opn) e)).2)
/-- Void -/
def voidJ (S : Sp) (J : Jn) (n : Int) : Sp × Jn × Int :=
 if ¬ J.has n then (S, J, 1) else if (J.item n).kind = 0 then (S, J, 0)
 else if (layL S (voidP (J.item n) n)).2 = 0 then ((layL S (voidP (J.item n) n)).1, J.set n it0, 0)
 else ((layL S (voidP (J.item n) n)).1, J, (layL S (voidP (J.item n) n)).2)
/-- Shift -/
def shiftJ (J : Jn) (c : Int) : Jn × Int :=
 if c < J.c ∨ 72057594037927927 < c then (J, 1) else (⟨c, (List.range 8).map fun (k : Nat) => J.item (c + 1 + (k : Int))⟩, 0)
/-- Read -/
def readJn (S : Sp) (J : Jn) (n : Int) : Jn × En × Int :=
 if ¬ J.has n then (J, en0, 1) else if (J.item n).kind = 0 then (J, en0, 8) else if (J.item n).kind ≠ 1 then (J, en0, 11)
 else if (S.read (pN n)).2 ≠ 0 then (J, en0, (S.read (pN n)).2)
 else if (entryS (S.read (pN n)).1).2.1 = false ∨ stubS (entryS (S.read (pN n)).1).1 ≠ (J.item n).stub then (J.set n ⟨2, (J.item n).stub, en0⟩, en0, 11)
 else (J, (entryS (S.read (pN n)).1).1, 0)
/-- the operation of a window that has a slot -/
def slotN (c : Int) (s : Nat) : Int := c + 1 + ((s : Int) - c - 1) % 8
theorem slotN_in (c : Int) (s : Nat) : c < slotN c s ∧ slotN c s ≤ c + 8 := by unfold slotN; omega
theorem slotN_mod (c : Int) (s : Nat) (h : s < 8) : slotN c s % 8 = s := by unfold slotN; omega
theorem slotN_of {c n : Int} (h : c < n ∧ n ≤ c + 8) : slotN c (n % 8).toNat = n := by unfold slotN; omega
/-- Open, behind s slots -/
def openK (S : Sp) (c : Int) : Nat → Sp × List It × Int
 | 0 => (S, List.replicate 8 it0, 0)
 | s + 1 =>
  if (openK S c s).2.2 ≠ 0 then openK S c s
  else if ((openK S c s).1.read (pN (slotN c s))).2 ≠ 0 then ((openK S c s).1, (openK S c s).2.1, ((openK S c s).1.read (pN (slotN c s))).2)
  else if ((openK S c s).1.read (hN (slotN c s))).2 ≠ 0 then ((openK S c s).1, (openK S c s).2.1, ((openK S c s).1.read (hN (slotN c s))).2)
  else if (layL (openK S c s).1 (openP ((openK S c s).1.read (pN (slotN c s))).1 ((openK S c s).1.read (hN (slotN c s))).1 (slotN c s))).2 ≠ 0 then
   ((layL (openK S c s).1 (openP ((openK S c s).1.read (pN (slotN c s))).1 ((openK S c s).1.read (hN (slotN c s))).1 (slotN c s))).1, (openK S c s).2.1, (layL (openK S c s).1 (openP ((openK S c s).1.read (pN (slotN c s))).1 ((openK S c s).1.read (hN (slotN c s))).1 (slotN c s))).2)
  else ((layL (openK S c s).1 (openP ((openK S c s).1.read (pN (slotN c s))).1 ((openK S c s).1.read (hN (slotN c s))).1 (slotN c s))).1, (openK S c s).2.1.set (slotN c s - c - 1).toNat (judgeS ((openK S c s).1.read (pN (slotN c s))).1 ((openK S c s).1.read (hN (slotN c s))).1 (slotN c s)), 0)
/-- Scrub, behind s slots -/
def scrubK (S : Sp) (J : Jn) : Nat → Sp × Jn × Int
 | 0 => (S, J, 0)
 | s + 1 =>
  if (scrubK S J s).2.2 ≠ 0 then scrubK S J s
  else if ((scrubK S J s).1.read (pN (slotN J.c s))).2 ≠ 0 then ((scrubK S J s).1, (scrubK S J s).2.1, ((scrubK S J s).1.read (pN (slotN J.c s))).2)
  else if ((scrubK S J s).1.read (hN (slotN J.c s))).2 ≠ 0 then ((scrubK S J s).1, (scrubK S J s).2.1, ((scrubK S J s).1.read (hN (slotN J.c s))).2)
  else ((layL (scrubK S J s).1 (scrubP (J.item (slotN J.c s)) ((scrubK S J s).1.read (pN (slotN J.c s))).1 ((scrubK S J s).1.read (hN (slotN J.c s))).1 (slotN J.c s))).1, (scrubK S J s).2.1.set (slotN J.c s) (scrubX (J.item (slotN J.c s)) ((scrubK S J s).1.read (pN (slotN J.c s))).1), (layL (scrubK S J s).1 (scrubP (J.item (slotN J.c s)) ((scrubK S J s).1.read (pN (slotN J.c s))).1 ((scrubK S J s).1.read (hN (slotN J.c s))).1 (slotN J.c s))).2)
end Go.Proofs.YtafbeepacncooaaDoor
/-
  What was kept is never lacked, in plain words: what calls may lay over a kept entry's sectors.
-/
namespace Go.Proofs.YtafbeepacncooaaDoor
open Go.RowKit
set_option maxRecDepth 10000

/-- an entry's two sectors have it, or can't be read -/
def SafeK (K : Nat → Option (List UInt8)) (e : En) : Prop :=
 (K (pN e.opn) = none ∨ K (pN e.opn) = some (packE e).1) ∧ (K (hN e.opn) = none ∨ K (hN e.opn) = some (stubS e).bytes)
/-- what is known of a kept entry's slot -/
def MemE (i : It) (e : En) : Prop := i = ⟨1, stubS e, e⟩ ∨ i = ⟨2, stubS e, en0⟩ ∨ i = ⟨3, st0, en0⟩
/-- texts that may be laid over a kept entry -/
def okP (e : En) (pl : List Lay) : Prop := ∀ x ∈ pl, (x.1 = pN e.opn → x.2.2 = (packE e).1) ∧ (x.1 = hN e.opn → x.2.2 = (stubS e).bytes)
theorem safe_upd {K : Nat → Option (List UInt8)} {e : En} (h : SafeK K e) {i : Nat} {t : List UInt8} (hp : i = pN e.opn → t = (packE e).1) (hh : i = hN e.opn → t = (stubS e).bytes) : SafeK (updJ K i (some t)) e := by
 obtain ⟨h1, h2⟩ := h
 unfold SafeK updJ
 constructor
 ·
  by_cases q : pN e.opn = i
  ·
   rw [if_pos q, hp q.symm]
   exact .inr rfl
  ·
   rw [if_neg q]
   exact h1
 ·
  by_cases q : hN e.opn = i
  ·
   rw [if_pos q, hh q.symm]
   exact .inr rfl
  ·
   rw [if_neg q]
   exact h2
theorem safe_none {K : Nat → Option (List UInt8)} {e : En} (h : SafeK K e) (i : Nat) : SafeK (updJ K i none) e := by
 obtain ⟨h1, h2⟩ := h
 unfold SafeK updJ
 constructor
 ·
  by_cases q : pN e.opn = i
  ·
   rw [if_pos q]; exact .inl rfl
  ·
   rw [if_neg q]; exact h1
 ·
  by_cases q : hN e.opn = i
  ·
   rw [if_pos q]; exact .inl rfl
  ·
   rw [if_neg q]; exact h2
theorem safe_app {e : En} : ∀ (pl : List Lay) {K : Nat → Option (List UInt8)}, SafeK K e → okP e pl → SafeK (appK K pl) e
 | [], _, h, _ => h
 | x :: r, K, h, ho => safe_app r (safe_upd h (ho x (by simp)).1 (ho x (by simp)).2) (fun y hy => ho y (by simp [hy]))
/-- what a kept entry's sectors tell -/
theorem judge_safe {K : Nat → Option (List UInt8)} {e : En} (he : e.fits) (hr : Rt e) (h : SafeK K e) : MemE (judgeK (K (pN e.opn)) (K (hN e.opn)) e.opn) e := by
 have p1 := eK_entry he hr
 have s1 := sK_stub (stubS_fits he) (stubS_ok hr)
 have hop : (stubS e).opn = e.opn := by rw [stubS_rt hr]
 have h0 : stubS en0 = st0 := if_neg (by unfold Rt en0; simp)
 have hz : ¬ st0 = stubS e := fun q => st0_not (q ▸ stubS_ok hr)
 obtain ⟨h1 | h1, h2 | h2⟩ := h <;> rw [h1, h2] <;> unfold judgeK MemE
 ·
  right; right
  simp [eK, sK]
 ·
  right; left
  rw [s1]
  simp [eK, hop, h0, hz]
 ·
  left
  rw [p1]
  simp [sK]
 ·
  left
  rw [p1, s1]
  simp [hop]
theorem mod_inj {c n m : Int} (hn : c < n ∧ n ≤ c + 8) (hm : c < m ∧ m ≤ c + 8) (h : n % 8 = m % 8) : n = m := by omega
/-! ### what is laid for another slot -/
theorem okP_other {e : En} {pl : List Lay} (h : ∀ x ∈ pl, x.1 ≠ pN e.opn ∧ x.1 ≠ hN e.opn) : okP e pl := fun x hx => ⟨fun q => absurd q (h x hx).1, fun q => absurd q (h x hx).2⟩
/-- a slot's own sectors -/
def ofN (n : Int) (pl : List Lay) : Prop := ∀ l ∈ pl, l.1 = pN n ∨ l.1 = hN n
theorem okP_of {e : En} {n : Int} {pl : List Lay} (h : ofN n pl) (hn : n % 8 ≠ e.opn % 8) : okP e pl := okP_other fun x hx => by
 rcases h x hx with q | q <;> rw [q]
 ·
  exact ⟨fun r => hn ((pN_eq _ _).1 r), ph_ne _ _⟩
 ·
  exact ⟨fun r => ph_ne _ _ r.symm, fun r => hn ((hN_eq _ _).1 r)⟩
theorem put_of (x : It) {y : En} (hy : Rt y) : ofN y.opn (putP x y) := by
 intro l hl
 have hs : hN (stubS y).opn = hN y.opn := by rw [stubS_rt hy]
 unfold putP at hl
 simp only [List.mem_append] at hl
 rcases hl with (hl | hl) | hl
 ·
  split at hl
  ·
   simp only [List.mem_singleton] at hl
   subst hl
   exact .inr rfl
  ·
   cases hl
 ·
  simp only [List.mem_singleton] at hl
  subst hl
  exact .inl rfl
 ·
  split at hl
  ·
   cases hl
  ·
   simp only [List.mem_singleton] at hl
   subst hl
   exact .inr hs
theorem void_of (x : It) (n : Int) : ofN n (voidP x n) := by
 intro l hl
 unfold voidP at hl
 split at hl
 ·
  cases hl
 ·
  split at hl <;> simp only [List.mem_cons, List.not_mem_nil, or_false] at hl <;> rcases hl with rfl | rfl
  ·
   exact .inl rfl
  ·
   exact .inr rfl
  ·
   exact .inr rfl
  ·
   exact .inl rfl
theorem clean_of (p h : List UInt8) (n : Int) : ofN n (cleanP p h n) := by
 intro l hl
 unfold cleanP at hl
 simp only [List.mem_append] at hl
 rcases hl with hl | hl
 ·
  split at hl
  ·
   simp only [List.mem_singleton] at hl
   subst hl
   exact .inl rfl
  ·
   cases hl
 ·
  split at hl
  ·
   simp only [List.mem_singleton] at hl
   subst hl
   exact .inr rfl
  ·
   cases hl
/-- an entry that a sector has may be -/
theorem entryS_rt (p : List UInt8) (h : (entryS p).2.1 = true) : Rt (entryS p).1 := by
 unfold entryS at h ⊢
 split at h
 ·
  cases h
 ·
  split at h
  ·
   rename_i h1 h2
   rw [if_neg h1, if_pos h2]
   show Rt (unpackE _).1
   unfold unpackE at h2 ⊢
   split at h2
   ·
    rename_i h3
    rw [if_pos h3]
    exact h3.2.1
   ·
    cases h2
  ·
   cases h
/-- what a slot holds, or is faulty of, is of its operation -/
theorem judgeS_opn (p h : List UInt8) (n : Int) : ((judgeS p h n).kind = 1 ∨ (judgeS p h n).kind = 2) → (judgeS p h n).stub.opn = n ∧ SRt (judgeS p h n).stub := by
 have r4 := stubT_rt h
 have r5 := entryS_rt p
 unfold judgeS
 split
 ·
  rename_i h1
  intro _
  exact ⟨by show (stubS _).opn = n; rw [h1.2.2]; exact h1.2.1, by show SRt (stubS _); rw [h1.2.2]; exact r4 h1.1⟩
 ·
  split
  ·
   rename_i _ h1
   intro _
   exact ⟨h1.2, r4 h1.1⟩
  ·
   split
   ·
    intro q
    rcases q with q | q <;> cases q
   ·
    split
    ·
     rename_i _ _ _ h1
     intro _
     have := r5 h1.1
     exact ⟨by show (stubS _).opn = n; rw [stubS_rt this]; exact h1.2, stubS_ok this⟩
    ·
     split
     ·
      intro q
      rcases q with q | q <;> cases q
     ·
      intro q
      rcases q with q | q <;> cases q
theorem open_of (p h : List UInt8) (n : Int) : ofN n (openP p h n) := by
 intro l hl
 have hj := judgeS_opn p h n
 unfold openP at hl
 split at hl
 ·
  exact clean_of p h n l hl
 ·
  split at hl
  ·
   rename_i h1
   simp only [List.mem_singleton] at hl
   subst hl
   refine .inr ?_
   show hN (judgeS p h n).stub.opn = hN n
   rw [(hj (.inl h1.1)).1]
  ·
   cases hl
theorem scrub_of {x : It} (p h : List UInt8) (n : Int) (hx : x.kind = 1 ∨ x.kind = 2 → x.stub.opn = n) : ofN n (scrubP x p h n) := by
 intro l hl
 unfold scrubP at hl
 split at hl
 ·
  exact clean_of p h n l hl
 ·
  split at hl
  ·
   rename_i h1
   simp only [List.mem_singleton] at hl
   subst hl
   refine .inr ?_
   show hN x.stub.opn = hN n
   rw [hx h1.1]
  ·
   cases hl
/-! ### what is laid for a kept entry's own slot -/
theorem okP_lE (e : En) : okP e [lE e] := fun x hx => by
 simp only [List.mem_singleton] at hx
 subst hx
 exact ⟨fun _ => rfl, fun q => absurd q (ph_ne _ _)⟩
theorem okP_lS {e : En} (_hr : Rt e) : okP e [lS (stubS e)] := fun x hx => by
 simp only [List.mem_singleton] at hx
 subst hx
 refine ⟨fun q => ?_, fun _ => rfl⟩
 have h1 : hN (stubS e).opn = pN e.opn := q
 exact absurd h1.symm (ph_ne _ _)
theorem okP_nil (e : En) : okP e [] := fun x hx => by cases hx
theorem okP_app {e : En} {a b : List Lay} (h1 : okP e a) (h2 : okP e b) : okP e (a ++ b) := fun x hx => by
 rcases List.mem_append.1 hx with h | h
 ·
  exact h1 x h
 ·
  exact h2 x h
theorem okP_put {e : En} (hr : Rt e) {i : It} (hm : MemE i e) (hne : ¬ (i.kind = 1 ∧ i.entry = e)) : okP e (putP i e) := by
 unfold putP
 rcases hm with rfl | rfl | rfl
 ·
  exact absurd ⟨rfl, rfl⟩ hne
 ·
  simp only [ne_eq, not_true_eq_false, and_false, or_false, if_true, and_true]
  rw [if_neg (by decide)]
  exact okP_app (okP_app (okP_nil e) (okP_lE e)) (okP_nil e)
 ·
  simp only
  rw [if_neg (by simp), if_neg (by simp)]
  exact okP_app (okP_app (okP_nil e) (okP_lE e)) (okP_lS hr)
theorem okP_open {e : En} (hr : Rt e) {p h : List UInt8} (hm : MemE (judgeS p h e.opn) e) : okP e (openP p h e.opn) := by
 unfold openP
 rcases hm with q | q | q <;> rw [q]
 ·
  simp only
  rw [if_neg (by decide)]
  split
  ·
   exact okP_lS hr
  ·
   exact okP_nil e
 ·
  simp only
  rw [if_neg (by decide), if_neg (by simp)]
  exact okP_nil e
 ·
  simp only
  rw [if_neg (by decide), if_neg (by simp)]
  exact okP_nil e
theorem okP_scrub {e : En} (hr : Rt e) {i : It} (p h : List UInt8) (hm : MemE i e) : okP e (scrubP i p h e.opn) := by
 unfold scrubP
 rcases hm with rfl | rfl | rfl
 ·
  simp only
  rw [if_neg (by decide)]
  split
  ·
   exact okP_lS hr
  ·
   exact okP_nil e
 ·
  simp only
  rw [if_neg (by decide)]
  split
  ·
   exact okP_lS hr
  ·
   exact okP_nil e
 ·
  simp only
  rw [if_neg (by decide), if_neg (by simp)]
  exact okP_nil e
theorem mem_scrub {e : En} {i : It} (p : List UInt8) (hm : MemE i e) : MemE (scrubX i p) e := by
 unfold scrubX
 split
 ·
  rename_i h
  rcases hm with rfl | rfl | rfl
  ·
   exact .inr (.inl rfl)
  ·
   exact .inr (.inl rfl)
  ·
   exact absurd h.1 (by decide)
 ·
  exact hm
end Go.Proofs.YtafbeepacncooaaDoor
/-
  Open, in plain words: slot by slot, wherever the power goes.
-/
namespace Go.Proofs.YtafbeepacncooaaDoor
open Go.RowKit
set_option maxRecDepth 10000

/-- the texts that a cleaning, Open, Scrub lay, by what the sectors have -/
def cleanKp (p h : Option (List UInt8)) (n : Int) : List Lay :=
 (if (eK p).2.2 = false ∨ ((eK p).2.1 = true ∧ (eK p).1.opn = n) then [lV (pN n)] else []) ++ (if (sK h).2.2 = false ∨ ((sK h).2.1 = true ∧ (sK h).1.opn = n) then [lV (hN n)] else [])
def openKp (p h : Option (List UInt8)) (n : Int) : List Lay :=
 if (judgeK p h n).kind = 0 then cleanKp p h n else if (judgeK p h n).kind = 1 ∧ (sK h).2.2 = false then [lS (judgeK p h n).stub] else []
def scrubKp (x : It) (p h : Option (List UInt8)) (n : Int) : List Lay :=
 if x.kind = 0 then cleanKp p h n else if (x.kind = 1 ∨ x.kind = 2) ∧ ((sK h).2.1 = false ∨ (sK h).1 ≠ x.stub) then [lS x.stub] else []
def scrubKx (x : It) (p : Option (List UInt8)) : It := if x.kind = 1 ∧ ((eK p).2.1 = false ∨ stubS (eK p).1 ≠ x.stub) then ⟨2, x.stub, en0⟩ else x
theorem clean_kc {p h : Option (List UInt8)} {s1 s2 : Sec} (h1 : KcJ p s1) (h2 : KcJ h s2) (n : Int) : cleanP s1.lasts s2.lasts n = cleanKp p h n := by
 unfold cleanP cleanKp
 rw [entry_kc h1, stub_kc h2]
theorem open_kc {p h : Option (List UInt8)} {s1 s2 : Sec} (h1 : KcJ p s1) (h2 : KcJ h s2) (n : Int) : openP s1.lasts s2.lasts n = openKp p h n := by
 unfold openP openKp
 rw [judge_kc h1 h2, clean_kc h1 h2, stub_kc h2]
theorem scrub_kc {p h : Option (List UInt8)} {s1 s2 : Sec} (h1 : KcJ p s1) (h2 : KcJ h s2) (x : It) (n : Int) : scrubP x s1.lasts s2.lasts n = scrubKp x p h n := by
 unfold scrubP scrubKp
 rw [clean_kc h1 h2, stub_kc h2]
theorem scrubx_kc {p : Option (List UInt8)} {s1 : Sec} (h1 : KcJ p s1) (x : It) : scrubX x s1.lasts = scrubKx x p := by
 unfold scrubX scrubKx
 rw [entry_kc h1]
theorem clean_ok (p h : List UInt8) (n : Int) : ∀ x ∈ cleanP p h n, LayOk x := by
 intro x hx
 have hp := pN_lt n
 have hh := hN_lt n
 unfold cleanP at hx
 simp only [List.mem_append] at hx
 rcases hx with hx | hx
 ·
  split at hx
  ·
   simp only [List.mem_singleton] at hx
   subst hx
   exact lV_ok (by omega) (by omega)
  ·
   cases hx
 ·
  split at hx
  ·
   simp only [List.mem_singleton] at hx
   subst hx
   exact lV_ok (by omega) (by omega)
  ·
   cases hx
theorem open_ok (p h : List UInt8) (n : Int) : ∀ x ∈ openP p h n, LayOk x := by
 intro x hx
 have hj := judgeS_opn p h n
 unfold openP at hx
 split at hx
 ·
  exact clean_ok p h n x hx
 ·
  split at hx
  ·
   rename_i h1
   simp only [List.mem_singleton] at hx
   subst hx
   exact lS_ok (hj (.inl h1.1)).2
  ·
   cases hx
theorem scrub_ok {i : It} (p h : List UInt8) (n : Int) (hi : i.kind = 1 ∨ i.kind = 2 → SRt i.stub) : ∀ x ∈ scrubP i p h n, LayOk x := by
 intro x hx
 unfold scrubP at hx
 split at hx
 ·
  exact clean_ok p h n x hx
 ·
  split at hx
  ·
   rename_i h1
   simp only [List.mem_singleton] at hx
   subst hx
   exact lS_ok (hi h1.1)
  ·
   cases hx
theorem clean_two (p h : List UInt8) (n : Int) : (cleanP p h n).length ≤ 2 := by
 unfold cleanP
 split <;> split <;> simp
theorem open_two (p h : List UInt8) (n : Int) : (openP p h n).length ≤ 2 := by
 unfold openP
 split
 ·
  exact clean_two p h n
 ·
  split <;> simp
theorem scrub_two (i : It) (p h : List UInt8) (n : Int) : (scrubP i p h n).length ≤ 2 := by
 unfold scrubP
 split
 ·
  exact clean_two p h n
 ·
  split <;> simp
/-- the contents behind s slots of Open -/
def openKs (K : Nat → Option (List UInt8)) (c : Int) : Nat → Nat → Option (List UInt8)
 | 0 => K
 | s + 1 => appK (openKs K c s) (openKp (openKs K c s (pN (slotN c s))) (openKs K c s (hN (slotN c s))) (slotN c s))
/-- a slot's lays leave the other slots' sectors -/
theorem appK_other {n : Int} {i : Nat} (h1 : i ≠ pN n) (h2 : i ≠ hN n) : ∀ (pl : List Lay) (K : Nat → Option (List UInt8)), ofN n pl → appK K pl i = K i
 | [], _, _ => rfl
 | x :: r, K, h => by
  rw [appK, appK_other h1 h2 r _ fun y hy => h y (by simp [hy])]
  unfold updJ
  rw [if_neg]
  intro q
  rcases h x (by simp) with e | e
  ·
   exact h1 (q.trans e)
  ·
   exact h2 (q.trans e)
structure ReadsJ (S : Sp) (K : Nat → Option (List UInt8)) (n : Int) : Prop where
 p : S.read (pN n) = ((secJ S (pN n)).lasts, 0)
 h : S.read (hN n) = ((secJ S (hN n)).lasts, 0)
 kp : KcJ (K (pN n)) (secJ S (pN n))
 kh : KcJ (K (hN n)) (secJ S (hN n))
theorem reads_of {S : Sp} {K : Nat → Option (List UInt8)} (h : TdJ S K) (n : Int) : ReadsJ S K n := by
 have hp := pN_lt n
 have hh := hN_lt n
 have hn := h.n
 exact ⟨readJ h.cl (by omega), readJ h.cl (by omega), h.ks _ (by omega) (by omega), h.ks _ (by omega) (by omega)⟩
/-- Open, as far as s slots -/
theorem openK_cl {S : Sp} {K : Nat → Option (List UInt8)} (h : TdJ S K) (c : Int) : ∀ s, s ≤ 8 →
  (∃ S' X, openK S c s = (S', X, 0) ∧ TdJ S' (openKs K c s) ∧ X.length = 8 ∧ S'.count ≤ S.count + 4 * s ∧ ∀ s', s' < s → X.getD (slotN c s' - c - 1).toNat it0 = judgeK (openKs K c s' (pN (slotN c s'))) (openKs K c s' (hN (slotN c s'))) (slotN c s')) ∨
  (∃ S' X s' a x r pend, openK S c s = (S', X, 6) ∧ s' < s ∧ openKp (openKs K c s' (pN (slotN c s'))) (openKs K c s' (hN (slotN c s'))) (slotN c s') = a ++ x :: r ∧ OffJ S' (appK (openKs K c s') a) pend ∧ (pend = none ∨ pend = some (x.1, x.2.2)) ∧ S'.count ≤ S.count + 4 * s)
 | 0, _ => .inl ⟨S, _, rfl, h, List.length_replicate, by omega, fun s' h => by omega⟩
 | s + 1, hs => by
  rcases openK_cl h c s (by omega) with ⟨S1, X, e, h1, hX, hc, hx⟩ | ⟨S1, X, s', a, x, r, pend, e, hs', ep, h1, hp, hc⟩
  ·
   have hr := reads_of h1 (slotN c s)
   have e1 : openK S c (s + 1) = if (layL S1 (openKp (openKs K c s (pN (slotN c s))) (openKs K c s (hN (slotN c s))) (slotN c s))).2 ≠ 0 then ((layL S1 (openKp (openKs K c s (pN (slotN c s))) (openKs K c s (hN (slotN c s))) (slotN c s))).1, X, (layL S1 (openKp (openKs K c s (pN (slotN c s))) (openKs K c s (hN (slotN c s))) (slotN c s))).2)
     else ((layL S1 (openKp (openKs K c s (pN (slotN c s))) (openKs K c s (hN (slotN c s))) (slotN c s))).1, X.set (slotN c s - c - 1).toNat (judgeK (openKs K c s (pN (slotN c s))) (openKs K c s (hN (slotN c s))) (slotN c s)), 0) := by
    rw [openK, e]
    simp only
    rw [if_neg (by simp), hr.p, hr.h]
    simp only
    rw [if_neg (by simp), if_neg (by simp), open_kc hr.kp hr.kh, judge_kc hr.kp hr.kh]
   rw [e1]
   have ho := open_ok (secJ S1 (pN (slotN c s))).lasts (secJ S1 (hN (slotN c s))).lasts (slotN c s)
   have h2 := open_two (secJ S1 (pN (slotN c s))).lasts (secJ S1 (hN (slotN c s))).lasts (slotN c s)
   rw [open_kc hr.kp hr.kh] at ho h2
   rcases layL_steps _ h1 ho with ⟨S2, e2, t2, c2⟩ | ⟨S2, a, x, r, pend, e2, ep, o2, hp, c2⟩
   ·
    rw [e2, if_neg (by simp)]
    refine .inl ⟨S2, _, rfl, t2, by rw [List.length_set, hX], by omega, fun s' hs' => ?_⟩
    have hin := slotN_in c s
    have hin' := slotN_in c s'
    by_cases q : s' = s
    ·
     subst q
     rw [List.getD_eq_getElem?_getD, List.getElem?_set_self (by omega)]
     rfl
    ·
     have hne : slotN c s' ≠ slotN c s := fun w => by
      have m1 := slotN_mod c s (by omega)
      have m2 := slotN_mod c s' (by omega)
      rw [w, m1] at m2
      omega
     rw [List.getD_eq_getElem?_getD, List.getElem?_set_ne (by omega), ← List.getD_eq_getElem?_getD]
     exact hx s' (by omega)
   ·
    rw [e2, if_pos (by simp)]
    exact .inr ⟨S2, X, s, a, x, r, pend, rfl, by omega, ep, o2, hp, by omega⟩
  ·
   have e1 : openK S c (s + 1) = (S1, X, 6) := by
    rw [openK, e]
    simp
   exact .inr ⟨S1, X, s', a, x, r, pend, e1, by omega, ep, h1, hp, by omega⟩
end Go.Proofs.YtafbeepacncooaaDoor
/-
  Items that may be; Scrub, in plain words: slot by slot, wherever the power goes.
-/
namespace Go.Proofs.YtafbeepacncooaaDoor
open Go.RowKit
set_option maxRecDepth 10000

/-- what a slot may be for an operation -/
def WfI (n : Int) (i : It) : Prop := i = it0 ∨ (∃ e : En, e.fits ∧ Rt e ∧ e.opn = n ∧ i = ⟨1, stubS e, e⟩) ∨ (∃ s : St, s.fits ∧ SRt s ∧ s.opn = n ∧ i = ⟨2, s, en0⟩) ∨ i = ⟨3, st0, en0⟩
theorem stubT_fits (h : List UInt8) : (stubT h).1.fits := by
 unfold stubT
 split
 ·
  exact st0_fits
 ·
  split
  ·
   exact unpackT_fits _
  ·
   exact st0_fits
theorem stubS_of_rt {e : En} (h : SRt (stubS e)) : Rt e := by
 by_cases q : Rt e
 ·
  exact q
 ·
  rw [show stubS e = st0 from if_neg q] at h
  exact absurd h st0_not
theorem judge_wf (p h : List UInt8) (n : Int) : WfI n (judgeS p h n) := by
 have r4 := stubT_rt h
 have r5 := entryS_rt p
 have f1 := entryS_fits p
 have f2 := stubT_fits h
 unfold judgeS
 split
 ·
  rename_i h1
  have hs := r4 h1.1
  have hr : Rt (entryS p).1 := stubS_of_rt (by rw [h1.2.2]; exact hs)
  refine .inr (.inl ⟨_, f1, hr, ?_, rfl⟩)
  have h2 : (stubS (entryS p).1).opn = n := by rw [h1.2.2]; exact h1.2.1
  rw [stubS_rt hr] at h2
  exact h2
 ·
  split
  ·
   rename_i _ h1
   exact .inr (.inr (.inl ⟨_, f2, r4 h1.1, h1.2, rfl⟩))
  ·
   split
   ·
    exact .inl rfl
   ·
    split
    ·
     rename_i _ _ _ h1
     exact .inr (.inl ⟨_, f1, r5 h1.1, h1.2, rfl⟩)
    ·
     split
     ·
      exact .inl rfl
     ·
      exact .inr (.inr (.inr rfl))
theorem wf_stub {n : Int} {i : It} (h : WfI n i) : i.kind = 1 ∨ i.kind = 2 → i.stub.opn = n ∧ SRt i.stub := by
 rcases h with rfl | ⟨e, _, hr, ho, rfl⟩ | ⟨s, _, hs, ho, rfl⟩ | rfl
 ·
  rintro (q | q) <;> cases q
 ·
  intro _
  exact ⟨by show (stubS e).opn = n; rw [stubS_rt hr]; exact ho, stubS_ok hr⟩
 ·
  intro _
  exact ⟨ho, hs⟩
 ·
  rintro (q | q) <;> cases q
theorem wf_scrub {n : Int} {i : It} (h : WfI n i) (p : List UInt8) : WfI n (scrubX i p) := by
 unfold scrubX
 split
 ·
  rename_i h1
  rcases h with rfl | ⟨e, he, hr, ho, rfl⟩ | ⟨s, hf, hs, ho, rfl⟩ | rfl
  ·
   exact absurd h1.1 (by decide)
  ·
   exact .inr (.inr (.inl ⟨_, stubS_fits he, stubS_ok hr, by rw [stubS_rt hr]; exact ho, rfl⟩))
  ·
   exact .inr (.inr (.inl ⟨_, hf, hs, ho, rfl⟩))
  ·
   exact absurd h1.1 (by decide)
 ·
  exact h
/-- a journal that may be -/
structure JWf (J : Jn) : Prop where
 len : J.x.length = 8
 c0 : 0 ≤ J.c
 c1 : J.c ≤ 72057594037927927
 it : ∀ n, J.has n → WfI n (J.item n)
theorem set_item {J : Jn} (hl : J.x.length = 8) {n m : Int} (i : It) (hn : J.has n) : (J.set n i).item m = if m = n then i else J.item m := by
 obtain ⟨n1, n2⟩ := hn
 have hc : (J.set n i).c = J.c := rfl
 unfold Jn.item
 have hh : (J.set n i).has m ↔ J.has m := Iff.rfl
 by_cases hm : J.has m
 ·
  rw [if_pos (hh.2 hm), if_pos hm]
  obtain ⟨m1, m2⟩ := hm
  show (J.x.set (n - J.c - 1).toNat i).getD (m - J.c - 1).toNat it0 = _
  by_cases q : m = n
  ·
   subst q
   rw [if_pos rfl, List.getD_eq_getElem?_getD, List.getElem?_set_self (by omega)]
   rfl
  ·
   rw [if_neg q, List.getD_eq_getElem?_getD, List.getElem?_set_ne (by omega), ← List.getD_eq_getElem?_getD]
 ·
  rw [if_neg (fun h => hm (hh.1 h)), if_neg hm, if_neg]
  rintro rfl
  exact hm ⟨n1, n2⟩
theorem jset_wf {J : Jn} (h : JWf J) {n : Int} {i : It} (hn : J.has n) (hi : WfI n i) : JWf (J.set n i) :=
 ⟨by show (J.x.set _ _).length = 8; rw [List.length_set, h.len], h.c0, h.c1, fun m hm => by
  rw [set_item h.len i hn]
  by_cases q : m = n
  ·
   subst q
   rw [if_pos rfl]
   exact hi
  ·
   rw [if_neg q]
   exact h.it m hm⟩
/-- the contents behind s slots of Scrub -/
def scrubKs (K : Nat → Option (List UInt8)) (J : Jn) : Nat → Nat → Option (List UInt8)
 | 0 => K
 | s + 1 => appK (scrubKs K J s) (scrubKp (J.item (slotN J.c s)) (scrubKs K J s (pN (slotN J.c s))) (scrubKs K J s (hN (slotN J.c s))) (slotN J.c s))
theorem slot_has (J : Jn) (s : Nat) : J.has (slotN J.c s) := slotN_in J.c s
theorem scrub_item_of (J : Jn) (hJ : JWf J) (s : Nat) (p h : List UInt8) : ofN (slotN J.c s) (scrubP (J.item (slotN J.c s)) p h (slotN J.c s)) := scrub_of p h _ fun q => (wf_stub (hJ.it _ (slot_has J s)) q).1
/-- Scrub, as far as s slots -/
theorem scrubK_cl {S : Sp} {K : Nat → Option (List UInt8)} (h : TdJ S K) {J : Jn} (hJ : JWf J) : ∀ s, s ≤ 8 →
  (∃ S' J', scrubK S J s = (S', J', 0) ∧ TdJ S' (scrubKs K J s) ∧ J'.c = J.c ∧ J'.x.length = 8 ∧ S'.count ≤ S.count + 4 * s ∧ ∀ n, J.has n → J'.item n = if (n % 8).toNat < s then scrubKx (J.item n) (scrubKs K J (n % 8).toNat (pN n)) else J.item n) ∨
  (∃ S' J' s' a x r pend, scrubK S J s = (S', J', 6) ∧ s' < s ∧ scrubKp (J.item (slotN J.c s')) (scrubKs K J s' (pN (slotN J.c s'))) (scrubKs K J s' (hN (slotN J.c s'))) (slotN J.c s') = a ++ x :: r ∧ OffJ S' (appK (scrubKs K J s') a) pend ∧ (pend = none ∨ pend = some (x.1, x.2.2)) ∧ S'.count ≤ S.count + 4 * s)
 | 0, _ => .inl ⟨S, J, rfl, h, rfl, hJ.len, by omega, fun n _ => by simp⟩
 | s + 1, hs => by
  rcases scrubK_cl h hJ s (by omega) with ⟨S1, J1, e, h1, hc1, hl1, hc, hx⟩ | ⟨S1, J1, s', a, x, r, pend, e, hs', ep, h1, hp, hc⟩
  ·
   have hr := reads_of h1 (slotN J.c s)
   have e1 : scrubK S J (s + 1) = ((layL S1 (scrubKp (J.item (slotN J.c s)) (scrubKs K J s (pN (slotN J.c s))) (scrubKs K J s (hN (slotN J.c s))) (slotN J.c s))).1, J1.set (slotN J.c s) (scrubKx (J.item (slotN J.c s)) (scrubKs K J s (pN (slotN J.c s)))), (layL S1 (scrubKp (J.item (slotN J.c s)) (scrubKs K J s (pN (slotN J.c s))) (scrubKs K J s (hN (slotN J.c s))) (slotN J.c s))).2) := by
    rw [scrubK, e]
    simp only
    rw [if_neg (by simp), hr.p, hr.h]
    simp only
    rw [if_neg (by simp), if_neg (by simp), scrub_kc hr.kp hr.kh, scrubx_kc hr.kp]
   rw [e1]
   have hst := wf_stub (hJ.it _ (slot_has J s))
   have ho := scrub_ok (secJ S1 (pN (slotN J.c s))).lasts (secJ S1 (hN (slotN J.c s))).lasts (slotN J.c s) fun q => (hst q).2
   have h2 := scrub_two (J.item (slotN J.c s)) (secJ S1 (pN (slotN J.c s))).lasts (secJ S1 (hN (slotN J.c s))).lasts (slotN J.c s)
   rw [scrub_kc hr.kp hr.kh] at ho h2
   have hm := slotN_mod J.c s (by omega)
   have hhas : J1.has (slotN J.c s) := by
    have := slot_has J s
    unfold Jn.has at this ⊢
    rw [hc1]
    exact this
   rcases layL_steps _ h1 ho with ⟨S2, e2, t2, c2⟩ | ⟨S2, a, x, r, pend, e2, ep, o2, hp, c2⟩
   ·
    rw [e2]
    refine .inl ⟨S2, _, rfl, t2, hc1, by show (J1.x.set _ _).length = 8; rw [List.length_set, hl1], by omega, fun n hn => ?_⟩
    rw [set_item hl1 _ hhas]
    by_cases q : n = slotN J.c s
    ·
     subst q
     rw [if_pos rfl, if_pos (by omega), show ((slotN J.c s) % 8).toNat = s by omega]
    ·
     rw [if_neg q, hx n hn]
     have hq : (n % 8).toNat ≠ s := fun w => q (by
      have := slotN_of (c := J.c) (n := n) hn
      rw [w] at this
      exact this.symm)
     by_cases q2 : (n % 8).toNat < s
     ·
      rw [if_pos q2, if_pos (by omega)]
     ·
      rw [if_neg q2, if_neg (by omega)]
   ·
    rw [e2]
    exact .inr ⟨S2, _, s, a, x, r, pend, rfl, by omega, ep, o2, hp, by omega⟩
  ·
   have e1 : scrubK S J (s + 1) = (S1, J1, 6) := by
    rw [scrubK, e]
    simp
   exact .inr ⟨S1, J1, s', a, x, r, pend, e1, by omega, ep, h1, hp, by omega⟩
end Go.Proofs.YtafbeepacncooaaDoor
/-
  What the sectors have, and what the journal knows, agree up to what can't be read.
-/
namespace Go.Proofs.YtafbeepacncooaaDoor
open Go.RowKit
set_option maxRecDepth 10000

/-- what a sector may have: nothing that can be read, nothing, an entry or a stub of its slot, none behind the window -/
def Ct (c : Int) (i : Nat) (o : Option (List UInt8)) : Prop :=
 o = none ∨ o = some [] ∨ (∃ e : En, e.fits ∧ Rt e ∧ pN e.opn = i ∧ e.opn ≤ c + 8 ∧ o = some (packE e).1) ∨ (∃ s : St, s.fits ∧ SRt s ∧ hN s.opn = i ∧ s.opn ≤ c + 8 ∧ o = some s.bytes)
def CtK (K : Nat → Option (List UInt8)) (c : Int) : Prop := ∀ i, 4 ≤ i → i < 20 → Ct c i (K i)
def ctP (c : Int) (pl : List Lay) : Prop := ∀ x ∈ pl, Ct c x.1 (some x.2.2)
theorem ct_more {c c' : Int} (h : c ≤ c') {i : Nat} {o : Option (List UInt8)} (ho : Ct c i o) : Ct c' i o := by
 rcases ho with q | q | ⟨e, a1, a2, a3, a4, q⟩ | ⟨s, a1, a2, a3, a4, q⟩
 ·
  exact .inl q
 ·
  exact .inr (.inl q)
 ·
  exact .inr (.inr (.inl ⟨e, a1, a2, a3, by omega, q⟩))
 ·
  exact .inr (.inr (.inr ⟨s, a1, a2, a3, by omega, q⟩))
theorem ct_upd {K : Nat → Option (List UInt8)} {c : Int} (h : CtK K c) {i : Nat} {o : Option (List UInt8)} (ho : Ct c i o) : CtK (updJ K i o) c := fun j j4 j20 => by
 unfold updJ
 by_cases q : j = i
 ·
  subst q
  rw [if_pos rfl]
  exact ho
 ·
  rw [if_neg q]
  exact h j j4 j20
theorem ct_app {c : Int} : ∀ (pl : List Lay) {K : Nat → Option (List UInt8)}, CtK K c → ctP c pl → CtK (appK K pl) c
 | [], _, h, _ => h
 | x :: r, _, h, ho => ct_app r (ct_upd h (ho x (by simp))) (fun y hy => ho y (by simp [hy]))
theorem ct_lV (c : Int) (i : Nat) : ctP c [lV i] := fun x hx => by
 simp only [List.mem_singleton] at hx
 subst hx
 exact .inr (.inl rfl)
theorem ct_lE {c : Int} {e : En} (he : e.fits) (hr : Rt e) (h : e.opn ≤ c + 8) : ctP c [lE e] := fun x hx => by
 simp only [List.mem_singleton] at hx
 subst hx
 exact .inr (.inr (.inl ⟨e, he, hr, rfl, h, rfl⟩))
theorem ct_lS {c : Int} {s : St} (hs : s.fits) (hr : SRt s) (h : s.opn ≤ c + 8) : ctP c [lS s] := fun x hx => by
 simp only [List.mem_singleton] at hx
 subst hx
 exact .inr (.inr (.inr ⟨s, hs, hr, rfl, h, rfl⟩))
theorem ctP_nil (c : Int) : ctP c [] := fun x hx => by cases hx
theorem ctP_app {c : Int} {a b : List Lay} (h1 : ctP c a) (h2 : ctP c b) : ctP c (a ++ b) := fun x hx => by
 rcases List.mem_append.1 hx with h | h
 ·
  exact h1 x h
 ·
  exact h2 x h
/-- a prepare sector's -/
theorem ct_p {c : Int} {n : Int} {o : Option (List UInt8)} (h : Ct c (pN n) o) : o = none ∨ o = some [] ∨ ∃ e : En, e.fits ∧ Rt e ∧ pN e.opn = pN n ∧ e.opn ≤ c + 8 ∧ o = some (packE e).1 := by
 rcases h with q | q | q | ⟨s, _, _, a3, _, _⟩
 ·
  exact .inl q
 ·
  exact .inr (.inl q)
 ·
  exact .inr (.inr q)
 ·
  exact absurd a3.symm (ph_ne _ _)
theorem ct_h {c : Int} {n : Int} {o : Option (List UInt8)} (h : Ct c (hN n) o) : o = none ∨ o = some [] ∨ ∃ s : St, s.fits ∧ SRt s ∧ hN s.opn = hN n ∧ s.opn ≤ c + 8 ∧ o = some s.bytes := by
 rcases h with q | q | ⟨e, _, _, a3, _, _⟩ | q
 ·
  exact .inl q
 ·
  exact .inr (.inl q)
 ·
  exact absurd a3 (ph_ne _ _)
 ·
  exact .inr (.inr q)
/-- what is known of a slot, and what it has -/
def AgI (K : Nat → Option (List UInt8)) (n : Int) (i : It) : Prop :=
 (i = it0 → ((eK (K (pN n))).2.1 = true → (eK (K (pN n))).1.opn ≠ n) ∧ ((sK (K (hN n))).2.1 = true → (sK (K (hN n))).1.opn ≠ n)) ∧
 (i.kind = 1 → SafeK K i.entry) ∧ (i.kind = 2 → (K (hN n) = none ∨ K (hN n) = some i.stub.bytes)) ∧ (i.kind = 3 → K (pN n) = none ∧ K (hN n) = none)
theorem ag_congr {K K' : Nat → Option (List UInt8)} {n : Int} {i : It} (hw : WfI n i) (h1 : K' (pN n) = K (pN n)) (h2 : K' (hN n) = K (hN n)) (h : AgI K n i) : AgI K' n i := by
 obtain ⟨a, b, c, d⟩ := h
 refine ⟨fun q => by rw [h1, h2]; exact a q, fun q => ?_, fun q => by rw [h2]; exact c q, fun q => by rw [h1, h2]; exact d q⟩
 have hb := b q
 rcases hw with rfl | ⟨e, _, _, ho, rfl⟩ | ⟨s, _, _, _, rfl⟩ | rfl
 ·
  cases q
 ·
  subst ho
  unfold SafeK at hb ⊢
  simp only at hb ⊢
  rw [h1, h2]
  exact hb
 ·
  cases q
 ·
  cases q
theorem ag_other {K : Nat → Option (List UInt8)} {n m : Int} {i : It} (hw : WfI n i) {pl : List Lay} (hp : ofN m pl) (hm : m % 8 ≠ n % 8) (h : AgI K n i) : AgI (appK K pl) n i :=
 ag_congr hw (appK_other (fun q => hm ((pN_eq _ _).1 q).symm) (ph_ne _ _) pl K hp) (appK_other (fun q => ph_ne _ _ q.symm) (fun q => hm ((hN_eq _ _).1 q).symm) pl K hp) h
theorem ag_none {K : Nat → Option (List UInt8)} {n : Int} {i : It} (k : Nat) (h : AgI K n i) : AgI (updJ K k none) n i := by
 obtain ⟨a, b, c, d⟩ := h
 have u : ∀ j, updJ K k none j = none ∨ updJ K k none j = K j := fun j => by
  unfold updJ
  split
  ·
   exact .inl rfl
  ·
   exact .inr rfl
 refine ⟨fun q => ⟨fun r => ?_, fun r => ?_⟩, fun q => safe_none (b q) k, fun q => ?_, fun q => ?_⟩
 ·
  rcases u (pN n) with e | e <;> rw [e] at r ⊢
  ·
   cases r
  ·
   exact (a q).1 r
 ·
  rcases u (hN n) with e | e <;> rw [e] at r ⊢
  ·
   cases r
  ·
   exact (a q).2 r
 ·
  rcases u (hN n) with e | e <;> rw [e]
  ·
   exact .inl rfl
  ·
   exact c q
 ·
  obtain ⟨d1, d2⟩ := d q
  constructor
  ·
   rcases u (pN n) with e | e <;> rw [e]
   exact d1
  ·
   rcases u (hN n) with e | e <;> rw [e]
   exact d2
theorem upd_at (K : Nat → Option (List UInt8)) (i : Nat) (o : Option (List UInt8)) : updJ K i o i = o := if_pos rfl
theorem upd_off {K : Nat → Option (List UInt8)} {i j : Nat} {o : Option (List UInt8)} (h : j ≠ i) : updJ K i o j = K j := if_neg h
/-- behind Put the slot has the entry, or can't be read -/
theorem ag_put {K : Nat → Option (List UInt8)} {i : It} {e : En} (hr : Rt e) (h : AgI K e.opn i) : SafeK (appK K (putP i e)) e := by
 have hop : (stubS e).opn = e.opn := by rw [stubS_rt hr]
 have hhp : hN e.opn ≠ pN e.opn := fun q => ph_ne _ _ q.symm
 have hph : pN e.opn ≠ hN e.opn := ph_ne _ _
 unfold putP
 rw [appK_app, appK_app]
 by_cases q : i.kind = 2 ∧ i.stub = stubS e
 ·
  rw [if_pos q, if_neg (by rintro (w | w); rw [q.1] at w; exact absurd w (by decide); exact w.2 q.2)]
  have h2 := h.2.2.1 q.1
  rw [q.2] at h2
  show SafeK (updJ K (pN e.opn) (some (packE e).1)) e
  unfold SafeK
  rw [upd_at, upd_off hhp]
  exact ⟨.inr rfl, h2⟩
 ·
  rw [if_neg q]
  show SafeK (updJ (updJ (appK K _) (pN e.opn) (some (packE e).1)) (hN (stubS e).opn) (some (stubS e).bytes)) e
  rw [hop]
  unfold SafeK
  rw [upd_at, upd_off hph, upd_at]
  exact ⟨.inr rfl, .inr rfl⟩
theorem ag_holds {K : Nat → Option (List UInt8)} {e : En} (h : SafeK K e) : AgI K e.opn ⟨1, stubS e, e⟩ :=
 ⟨fun q => absurd (congrArg It.kind q) (show ¬ (1 : Int) = 0 by decide), fun _ => h, fun q => (by cases q), fun q => (by cases q)⟩
theorem ag_void {K : Nat → Option (List UInt8)} {n : Int} (h1 : K (pN n) = some []) (h2 : K (hN n) = some []) : AgI K n it0 := by
 refine ⟨fun _ => ⟨fun r => ?_, fun r => ?_⟩, fun q => (by cases q), fun q => (by cases q), fun q => (by cases q)⟩
 ·
  rw [h1] at r
  cases r
 ·
  rw [h2] at r
  cases r
theorem ag_voidP {K : Nat → Option (List UInt8)} {n : Int} {i : It} (h : i.kind ≠ 0) : AgI (appK K (voidP i n)) n it0 := by
 have hhp : hN n ≠ pN n := fun q => ph_ne _ _ q.symm
 have hph : pN n ≠ hN n := ph_ne _ _
 unfold voidP
 rw [if_neg h]
 split
 ·
  refine ag_void ?_ ?_
  ·
   show updJ (updJ K (pN n) (some [])) (hN n) (some []) (pN n) = _
   rw [upd_off hph, upd_at]
  ·
   exact upd_at _ _ _
 ·
  refine ag_void ?_ ?_
  ·
   exact upd_at _ _ _
  ·
   show updJ (updJ K (hN n) (some [])) (pN n) (some []) (hN n) = _
   rw [upd_off hhp, upd_at]
theorem app_if (K : Nat → Option (List UInt8)) (i : Nat) (C : Prop) [Decidable C] : appK K (if C then [lV i] else []) i = if C then some [] else K i := by
 split
 ·
  exact upd_at _ _ _
 ·
  rfl
/-- behind a cleaning -/
theorem ag_clean (K : Nat → Option (List UInt8)) (n : Int) : AgI (appK K (cleanKp (K (pN n)) (K (hN n)) n)) n it0 := by
 have hhp : hN n ≠ pN n := fun q => ph_ne _ _ q.symm
 have hph : pN n ≠ hN n := ph_ne _ _
 unfold cleanKp
 rw [appK_app]
 refine ⟨fun _ => ?_, fun q => (by cases q), fun q => (by cases q), fun q => (by cases q)⟩
 have e1 : ∀ L : List Lay, (L = [lV (hN n)] ∨ L = []) → appK (appK K (if (eK (K (pN n))).2.2 = false ∨ ((eK (K (pN n))).2.1 = true ∧ (eK (K (pN n))).1.opn = n) then [lV (pN n)] else [])) L (pN n) = if (eK (K (pN n))).2.2 = false ∨ ((eK (K (pN n))).2.1 = true ∧ (eK (K (pN n))).1.opn = n) then some [] else K (pN n) := by
  intro L hL
  have e0 : appK K (if (eK (K (pN n))).2.2 = false ∨ ((eK (K (pN n))).2.1 = true ∧ (eK (K (pN n))).1.opn = n) then [lV (pN n)] else []) (pN n) = if (eK (K (pN n))).2.2 = false ∨ ((eK (K (pN n))).2.1 = true ∧ (eK (K (pN n))).1.opn = n) then some [] else K (pN n) := by
   split
   ·
    exact upd_at _ _ _
   ·
    rfl
  rcases hL with rfl | rfl
  ·
   show updJ _ (hN n) (some []) (pN n) = _
   rw [upd_off hph]
   exact e0
  ·
   exact e0
 have e2 := app_if (appK K (if (eK (K (pN n))).2.2 = false ∨ ((eK (K (pN n))).2.1 = true ∧ (eK (K (pN n))).1.opn = n) then [lV (pN n)] else [])) (hN n) ((sK (K (hN n))).2.2 = false ∨ ((sK (K (hN n))).2.1 = true ∧ (sK (K (hN n))).1.opn = n))
 have e3 : appK K (if (eK (K (pN n))).2.2 = false ∨ ((eK (K (pN n))).2.1 = true ∧ (eK (K (pN n))).1.opn = n) then [lV (pN n)] else []) (hN n) = K (hN n) := by
  split
  ·
   exact upd_off hhp
  ·
   rfl
 rw [e3] at e2
 rw [e1 _ (by split <;> simp), e2]
 constructor
 ·
  split
  ·
   intro r
   cases r
  ·
   rename_i h
   intro r q
   exact h (.inr ⟨r, q⟩)
 ·
  split
  ·
   intro r
   cases r
  ·
   rename_i h
   intro r q
   exact h (.inr ⟨r, q⟩)
/-- what a content is as an entry's -/
theorem eK_ct {c : Int} {n : Int} {o : Option (List UInt8)} (h : Ct c (pN n) o) : (eK o = (en0, false, false) ∧ o = none) ∨ (eK o = (en0, false, true) ∧ o = some []) ∨ ∃ e : En, e.fits ∧ Rt e ∧ pN e.opn = pN n ∧ e.opn ≤ c + 8 ∧ o = some (packE e).1 ∧ eK o = (e, true, true) := by
 rcases ct_p h with rfl | rfl | ⟨e, a1, a2, a3, a4, rfl⟩
 ·
  exact .inl ⟨rfl, rfl⟩
 ·
  exact .inr (.inl ⟨rfl, rfl⟩)
 ·
  exact .inr (.inr ⟨e, a1, a2, a3, a4, rfl, eK_entry a1 a2⟩)
theorem sK_ct {c : Int} {n : Int} {o : Option (List UInt8)} (h : Ct c (hN n) o) : (sK o = (st0, false, false) ∧ o = none) ∨ (sK o = (st0, false, true) ∧ o = some []) ∨ ∃ s : St, s.fits ∧ SRt s ∧ hN s.opn = hN n ∧ s.opn ≤ c + 8 ∧ o = some s.bytes ∧ sK o = (s, true, true) := by
 rcases ct_h h with rfl | rfl | ⟨s, a1, a2, a3, a4, rfl⟩
 ·
  exact .inl ⟨rfl, rfl⟩
 ·
  exact .inr (.inl ⟨rfl, rfl⟩)
 ·
  exact .inr (.inr ⟨s, a1, a2, a3, a4, rfl, sK_stub a1 a2⟩)
/-- behind Open a slot has what is known of it -/
theorem ag_open {K : Nat → Option (List UInt8)} {c : Int} {n : Int} (h1 : Ct c (pN n) (K (pN n))) (h2 : Ct c (hN n) (K (hN n))) : AgI (appK K (openKp (K (pN n)) (K (hN n)) n)) n (judgeK (K (pN n)) (K (hN n)) n) := by
 have hhp : hN n ≠ pN n := fun q => ph_ne _ _ q.symm
 have hph : pN n ≠ hN n := ph_ne _ _
 have hcl := ag_clean K n
 have h0 : stubS en0 = st0 := if_neg (by unfold Rt en0; simp)
 unfold openKp
 rcases sK_ct h2 with ⟨s2, k2⟩ | ⟨s2, k2⟩ | ⟨s, fs, rs, os, ls, k2, s2⟩
 ·
  -- the header can't be read
  rcases eK_ct h1 with ⟨s1, k1⟩ | ⟨s1, k1⟩ | ⟨e, fe, re, oe, le, k1, s1⟩
  ·
   have hj : judgeK (K (pN n)) (K (hN n)) n = ⟨3, st0, en0⟩ := by
    unfold judgeK
    rw [s1, s2]
    simp
   rw [hj]
   simp only
   rw [if_neg (by decide), if_neg (by simp)]
   exact ⟨fun q => absurd (congrArg It.kind q) (by decide), fun q => absurd q (by decide), fun q => absurd q (by decide), fun _ => ⟨k1, k2⟩⟩
  ·
   have hj : judgeK (K (pN n)) (K (hN n)) n = it0 := by
    unfold judgeK
    rw [s1, s2]
    simp
   rw [hj, if_pos (show it0.kind = 0 from rfl)]
   exact hcl
  ·
   by_cases hn : e.opn = n
   ·
    have hj : judgeK (K (pN n)) (K (hN n)) n = ⟨1, stubS e, e⟩ := by
     unfold judgeK
     rw [s1, s2]
     simp [hn]
    rw [hj]
    simp only
    rw [if_neg (by decide), s2, if_pos ⟨trivial, rfl⟩]
    subst hn
    refine ag_holds ?_
    show SafeK (updJ K (hN (stubS e).opn) (some (stubS e).bytes)) e
    rw [show (stubS e).opn = e.opn by rw [stubS_rt re]]
    unfold SafeK
    rw [upd_at, upd_off hph]
    exact ⟨.inr k1, .inr rfl⟩
   ·
    have hj : judgeK (K (pN n)) (K (hN n)) n = it0 := by
     unfold judgeK
     rw [s1, s2]
     simp [hn]
    rw [hj, if_pos (show it0.kind = 0 from rfl)]
    exact hcl
 ·
  have hj : judgeK (K (pN n)) (K (hN n)) n = it0 := by
   unfold judgeK
   rw [s2]
   simp
  rw [hj, if_pos (show it0.kind = 0 from rfl)]
  exact hcl
 ·
  by_cases hn : s.opn = n
  ·
   have hne : ¬ st0 = s := fun q => st0_not (q ▸ rs)
   have hF : (¬ stubS (eK (K (pN n))).1 = s) → AgI (appK K (if (judgeK (K (pN n)) (K (hN n)) n).kind = 0 then cleanKp (K (pN n)) (K (hN n)) n else if (judgeK (K (pN n)) (K (hN n)) n).kind = 1 ∧ (sK (K (hN n))).2.2 = false then [lS (judgeK (K (pN n)) (K (hN n)) n).stub] else [])) n (judgeK (K (pN n)) (K (hN n)) n) := fun hq => by
    have hj : judgeK (K (pN n)) (K (hN n)) n = ⟨2, s, en0⟩ := by
     unfold judgeK
     rw [s2]
     simp [hn, hq]
    rw [hj]
    simp only
    rw [if_neg (by decide), if_neg (by simp)]
    exact ⟨fun q => absurd (congrArg It.kind q) (show ¬ (2 : Int) = 0 by decide), fun q => absurd q (show ¬ (2 : Int) = 1 by decide), fun _ => .inr k2, fun q => absurd q (show ¬ (2 : Int) = 3 by decide)⟩
   rcases eK_ct h1 with ⟨s1, k1⟩ | ⟨s1, k1⟩ | ⟨e, fe, re, oe, le, k1, s1⟩
   ·
    exact hF (by rw [s1]; show ¬ stubS en0 = s; rw [h0]; exact hne)
   ·
    exact hF (by rw [s1]; show ¬ stubS en0 = s; rw [h0]; exact hne)
   ·
    by_cases hq : stubS e = s
    ·
     have hj : judgeK (K (pN n)) (K (hN n)) n = ⟨1, stubS e, e⟩ := by
      unfold judgeK
      rw [s1, s2]
      simp [hn, hq]
     rw [hj]
     simp only
     rw [if_neg (by decide), s2, if_neg (by simp)]
     have heo : e.opn = n := by
      have := congrArg St.opn hq
      rw [stubS_rt re] at this
      exact this.trans hn
     subst heo
     refine ag_holds ?_
     show SafeK K e
     exact ⟨.inr k1, .inr (by rw [k2, hq])⟩
    ·
     exact hF (by rw [s1]; exact hq)
  ·
   have hj : judgeK (K (pN n)) (K (hN n)) n = it0 := by
    unfold judgeK
    rw [s2]
    simp [hn]
   rw [hj, if_pos (show it0.kind = 0 from rfl)]
   exact hcl
/-- behind Scrub -/
theorem ag_scrub {K : Nat → Option (List UInt8)} {n : Int} {i : It} (hw : WfI n i) (h : AgI K n i) : AgI (appK K (scrubKp i (K (pN n)) (K (hN n)) n)) n (scrubKx i (K (pN n))) := by
 have hph : pN n ≠ hN n := ph_ne _ _
 have hcl := ag_clean K n
 -- a stub that is laid if it is not there
 have hl : ∀ s : St, s.opn = n → (K (hN n) = none ∨ K (hN n) = some s.bytes) → (appK K (if (sK (K (hN n))).2.1 = false ∨ (sK (K (hN n))).1 ≠ s then [lS s] else [])) (hN n) = some s.bytes ∨ (appK K (if (sK (K (hN n))).2.1 = false ∨ (sK (K (hN n))).1 ≠ s then [lS s] else [])) (hN n) = K (hN n) := fun s hs _ => by
  split
  ·
   left
   show updJ K (hN s.opn) (some s.bytes) (hN n) = _
   rw [hs, upd_at]
  ·
   exact .inr rfl
 have hlp : ∀ s : St, s.opn = n → (appK K (if (sK (K (hN n))).2.1 = false ∨ (sK (K (hN n))).1 ≠ s then [lS s] else [])) (pN n) = K (pN n) := fun s hs => by
  split
  ·
   show updJ K (hN s.opn) (some s.bytes) (pN n) = _
   rw [hs, upd_off hph]
  ·
   rfl
 rcases hw with rfl | ⟨e, fe, re, oe, rfl⟩ | ⟨s, fs, rs, os, rfl⟩ | rfl
 ·
  have e1 : scrubKx it0 (K (pN n)) = it0 := by
   unfold scrubKx
   rw [if_neg (by rintro ⟨q, -⟩; cases q)]
  rw [e1]
  unfold scrubKp
  rw [if_pos (show it0.kind = 0 from rfl)]
  exact hcl
 ·
  have hs := h.2.1 rfl
  have hso : (stubS e).opn = n := by rw [stubS_rt re]; exact oe
  subst oe
  have e1 : scrubKp ⟨1, stubS e, e⟩ (K (pN e.opn)) (K (hN e.opn)) e.opn = if (sK (K (hN e.opn))).2.1 = false ∨ (sK (K (hN e.opn))).1 ≠ stubS e then [lS (stubS e)] else [] := by
   unfold scrubKp
   rw [if_neg (show ¬ (1 : Int) = 0 by decide)]
   by_cases q : (sK (K (hN e.opn))).2.1 = false ∨ (sK (K (hN e.opn))).1 ≠ stubS e
   ·
    rw [if_pos ⟨.inl rfl, q⟩, if_pos q]
   ·
    rw [if_neg (fun w => q w.2), if_neg q]
  rw [e1]
  unfold scrubKx
  have a1 := hl (stubS e) hso hs.2
  have a2 := hlp (stubS e) hso
  have a3 : SafeK (appK K (if (sK (K (hN e.opn))).2.1 = false ∨ (sK (K (hN e.opn))).1 ≠ stubS e then [lS (stubS e)] else [])) e := by
   refine ⟨by rw [a2]; exact hs.1, ?_⟩
   rcases a1 with a1 | a1 <;> rw [a1]
   ·
    exact .inr rfl
   ·
    exact hs.2
  clear a1 a2
  generalize appK K (if (sK (K (hN e.opn))).2.1 = false ∨ (sK (K (hN e.opn))).1 ≠ stubS e then [lS (stubS e)] else []) = K1 at a3 ⊢
  split
  ·
   exact ⟨fun q => absurd (congrArg It.kind q) (show ¬ (2 : Int) = 0 by decide), fun q => absurd q (show ¬ (2 : Int) = 1 by decide), fun _ => a3.2, fun q => absurd q (show ¬ (2 : Int) = 3 by decide)⟩
  ·
   exact ag_holds a3
 ·
  have hs := h.2.2.1 rfl
  have ex : scrubKx ⟨2, s, en0⟩ (K (pN n)) = ⟨2, s, en0⟩ := by
   unfold scrubKx
   rw [if_neg (by rintro ⟨q, -⟩; exact absurd q (show ¬ (2 : Int) = 1 by decide))]
  rw [ex]
  have e1 : scrubKp ⟨2, s, en0⟩ (K (pN n)) (K (hN n)) n = if (sK (K (hN n))).2.1 = false ∨ (sK (K (hN n))).1 ≠ s then [lS s] else [] := by
   unfold scrubKp
   rw [if_neg (show ¬ (2 : Int) = 0 by decide)]
   by_cases q : (sK (K (hN n))).2.1 = false ∨ (sK (K (hN n))).1 ≠ s
   ·
    rw [if_pos ⟨.inr rfl, q⟩, if_pos q]
   ·
    rw [if_neg (fun w => q w.2), if_neg q]
  rw [e1]
  refine ⟨fun q => absurd (congrArg It.kind q) (show ¬ (2 : Int) = 0 by decide), fun q => absurd q (show ¬ (2 : Int) = 1 by decide), fun _ => ?_, fun q => absurd q (show ¬ (2 : Int) = 3 by decide)⟩
  rcases hl s os hs with a1 | a1 <;> rw [a1]
  ·
   exact .inr rfl
  ·
   exact hs
 ·
  have ex : scrubKx ⟨3, st0, en0⟩ (K (pN n)) = ⟨3, st0, en0⟩ := by
   unfold scrubKx
   rw [if_neg (by rintro ⟨q, -⟩; exact absurd q (show ¬ (3 : Int) = 1 by decide))]
  rw [ex]
  unfold scrubKp
  simp only
  rw [if_neg (by decide), if_neg (by rintro ⟨q, -⟩; rcases q with q | q <;> exact absurd q (by decide))]
  exact h
end Go.Proofs.YtafbeepacncooaaDoor
/-
  What was kept is never lacked, in plain words: every call, wherever the power goes.
-/
namespace Go.Proofs.YtafbeepacncooaaDoor
open Go.RowKit
set_option maxRecDepth 10000

/-- the entries that are kept; one that is behind the checkpoint counts -/
structure Kept (c : Int) (E : Nat → En) : Prop where
 fits : ∀ k, k < 8 → c < (E k).opn → (E k).fits
 rt : ∀ k, k < 8 → c < (E k).opn → Rt (E k)
 slot : ∀ k, k < 8 → c < (E k).opn → (E k).opn % 8 = k
 win : ∀ k, k < 8 → c < (E k).opn → (E k).opn ≤ c + 8
/-- their sectors -/
def SafeA (K : Nat → Option (List UInt8)) (c : Int) (E : Nat → En) : Prop := ∀ k, k < 8 → c < (E k).opn → SafeK K (E k)
/-- what is known of them -/
def MemA (J : Jn) (E : Nat → En) : Prop := ∀ k, k < 8 → J.c < (E k).opn → MemE (J.item (E k).opn) (E k)
/-- texts that may be laid over all of them -/
def okA (c : Int) (E : Nat → En) (pl : List Lay) : Prop := ∀ k, k < 8 → c < (E k).opn → okP (E k) pl
theorem safeA_app {K : Nat → Option (List UInt8)} {c : Int} {E : Nat → En} {pl : List Lay} (h : SafeA K c E) (ho : okA c E pl) : SafeA (appK K pl) c E := fun k hk hc => safe_app pl (h k hk hc) (ho k hk hc)
theorem okA_pre {c : Int} {E : Nat → En} {a b : List Lay} (h : okA c E (a ++ b)) : okA c E a := fun k hk hc x hx => h k hk hc x (by simp [hx])
theorem okA_mid {c : Int} {E : Nat → En} {a r : List Lay} {x : Lay} (h : okA c E (a ++ x :: r)) : okA c E [x] := fun k hk hc y hy => h k hk hc y (by
 simp only [List.mem_singleton] at hy
 subst hy
 simp)
/-- a write that was under way when the power went -/
def PendA (c : Int) (E : Nat → En) (pend : Option (Nat × List UInt8)) : Prop := ∀ i t, pend = some (i, t) → ∀ k, k < 8 → c < (E k).opn → (i = pN (E k).opn → t = (packE (E k)).1) ∧ (i = hN (E k).opn → t = (stubS (E k)).bytes)
theorem pendA_of {c : Int} {E : Nat → En} {x : Lay} {pend : Option (Nat × List UInt8)} (h : okA c E [x]) (hp : pend = none ∨ pend = some (x.1, x.2.2)) : PendA c E pend := by
 intro i t e k hk hc
 rcases hp with rfl | rfl
 ·
  cases e
 ·
  cases e
  exact h k hk hc x (by simp)
/-- the power is gone: what was kept is there still -/
structure GoneA (S : Sp) (c : Int) (E : Nat → En) : Prop where
 kept : Kept c E
 ex : ∃ K pend, OffJ S K pend ∧ CtK K c ∧ SafeA K c E ∧ PendA c E pend ∧ ∀ i t, pend = some (i, t) → Ct c i (some t)
/-- the power is on, the journal knows -/
structure HereA (S : Sp) (J : Jn) (E : Nat → En) : Prop where
 wf : JWf J
 kept : Kept J.c E
 ex : ∃ K, TdJ S K ∧ CtK K J.c ∧ (∀ n, J.has n → AgI K n (J.item n)) ∧ SafeA K J.c E
 mem : MemA J E
theorem gone_of {S : Sp} {K : Nat → Option (List UInt8)} {c : Int} {E : Nat → En} {a r : List Lay} {x : Lay} {pend : Option (Nat × List UInt8)} (hK : Kept c E) (h : OffJ S (appK K a) pend) (ht : CtK K c) (hs : SafeA K c E) (ho : okA c E (a ++ x :: r)) (hc : ctP c (a ++ x :: r)) (hp : pend = none ∨ pend = some (x.1, x.2.2)) : GoneA S c E :=
 ⟨hK, _, _, h, ct_app a ht (fun y hy => hc y (by simp [hy])), safeA_app hs (okA_pre ho), pendA_of (okA_mid ho) hp, fun i t e => by
  rcases hp with rfl | rfl
  ·
   cases e
  ·
   cases e
   exact hc x (by simp)⟩
theorem other_slot {c : Int} {E : Nat → En} (hK : Kept c E) {n : Int} (hn : c < n ∧ n ≤ c + 8) {k : Nat} (hk : k < 8) (hc : c < (E k).opn) (hne : (E k).opn ≠ n) : n % 8 ≠ (E k).opn % 8 := fun q => hne (mod_inj ⟨hc, hK.win k hk hc⟩ hn q.symm)
theorem slot_ne {c n m : Int} (hn : c < n ∧ n ≤ c + 8) (hm : c < m ∧ m ≤ c + 8) (h : m ≠ n) : n % 8 ≠ m % 8 := fun q => h (mod_inj hm hn q.symm)
theorem put_ct {c : Int} {i : It} {e : En} (he : e.fits) (hr : Rt e) (h : e.opn ≤ c + 8) : ctP c (putP i e) := by
 unfold putP
 refine ctP_app (ctP_app ?_ (ct_lE he hr h)) ?_
 ·
  split
  ·
   exact ct_lV _ _
  ·
   exact ctP_nil _
 ·
  split
  ·
   exact ctP_nil _
  ·
   exact ct_lS (stubS_fits he) (stubS_ok hr) (by rw [stubS_rt hr]; exact h)
theorem put_lays {i : It} {e : En} (he : e.fits) (hr : Rt e) : ∀ x ∈ putP i e, LayOk x := by
 intro x hx
 have hh := hN_lt e.opn
 unfold putP at hx
 simp only [List.mem_append] at hx
 rcases hx with (hx | hx) | hx
 ·
  split at hx
  ·
   simp only [List.mem_singleton] at hx
   subst hx
   exact lV_ok (by omega) (by omega)
  ·
   cases hx
 ·
  simp only [List.mem_singleton] at hx
  subst hx
  exact lE_ok he hr
 ·
  split at hx
  ·
   cases hx
  ·
   simp only [List.mem_singleton] at hx
   subst hx
   exact lS_ok (stubS_ok hr)
theorem void_ct (c : Int) (i : It) (n : Int) : ctP c (voidP i n) := by
 unfold voidP
 split
 ·
  exact ctP_nil _
 ·
  split <;> exact ctP_app (a := [_]) (ct_lV _ _) (ct_lV _ _)
theorem void_lays (i : It) (n : Int) : ∀ x ∈ voidP i n, LayOk x := by
 intro x hx
 have hp := pN_lt n
 have hh := hN_lt n
 unfold voidP at hx
 split at hx
 ·
  cases hx
 ·
  split at hx <;> simp only [List.mem_cons, List.not_mem_nil, or_false] at hx <;> rcases hx with rfl | rfl <;> exact lV_ok (by omega) (by omega)
/-! ### Put -/
theorem keep_put {S : Sp} {J : Jn} {E : Nat → En} (h : HereA S J E) (e : En) (he : e.fits) (hE : Rt e → J.has e.opn → ∀ k, k < 8 → J.c < (E k).opn → (E k).opn = e.opn → E k = e) :
  (∃ S' J', putJ S J e = (S', J', 0) ∧ HereA S' J' E ∧ J'.c = J.c ∧ Rt e ∧ J.has e.opn ∧ J'.item e.opn = ⟨1, stubS e, e⟩) ∨ (∃ x, putJ S J e = (S, J, x) ∧ x ≠ 0) ∨ (∃ S', putJ S J e = (S', J, 6) ∧ GoneA S' J.c E) := by
 obtain ⟨hw, hK, ⟨K, hT, hC, hA, hS⟩, hM⟩ := id h
 unfold putJ
 by_cases hr : Rt e
 ·
  rw [if_neg (not_not_intro hr)]
  by_cases hh : J.has e.opn
  ·
   rw [if_neg (not_not_intro hh)]
   by_cases hq : (J.item e.opn).kind = 1 ∧ (J.item e.opn).entry = e
   ·
    rw [if_pos hq]
    refine .inl ⟨S, J, rfl, h, rfl, hr, hh, ?_⟩
    rcases hw.it _ hh with q | ⟨y, _, _, _, q⟩ | ⟨s, _, _, _, q⟩ | q
    ·
     rw [q] at hq; exact absurd hq.1 (by decide)
    ·
     rw [q] at hq ⊢
     obtain rfl : y = e := hq.2
     rfl
    ·
     rw [q] at hq; exact absurd hq.1 (by simp)
    ·
     rw [q] at hq; exact absurd hq.1 (by simp)
   ·
    rw [if_neg hq]
    have hok : okA J.c E (putP (J.item e.opn) e) := fun k hk hc => by
     by_cases q : (E k).opn = e.opn
     ·
      have hek := hE hr hh k hk hc q
      have hm := hM k hk hc
      rw [hek] at hm ⊢
      exact okP_put hr hm hq
     ·
      exact okP_of (put_of _ hr) (other_slot hK hh hk hc q)
    have hct := put_ct (c := J.c) (i := J.item e.opn) he hr hh.2
    rcases layL_steps _ hT (put_lays (i := J.item e.opn) he hr) with ⟨S', e1, t1, _⟩ | ⟨S', a, x, r, pend, e1, ep, o1, hp, _⟩
    ·
     rw [e1, if_pos rfl]
     have hsf := ag_put hr (hA _ hh)
     refine .inl ⟨S', _, rfl, ⟨jset_wf hw hh (.inr (.inl ⟨e, he, hr, rfl, rfl⟩)), hK, ⟨_, t1, ct_app _ hC hct, fun n hn => ?_, safeA_app hS hok⟩, fun k hk hc => ?_⟩, rfl, hr, hh, by rw [set_item hw.len _ hh, if_pos rfl]⟩
     ·
      rw [set_item hw.len _ hh]
      by_cases q : n = e.opn
      ·
       rw [if_pos q, q]
       exact ag_holds hsf
      ·
       rw [if_neg q]
       exact ag_other (hw.it n hn) (put_of _ hr) (slot_ne hh hn q) (hA n hn)
     ·
      rw [set_item hw.len _ hh]
      by_cases q : (E k).opn = e.opn
      ·
       rw [if_pos q, hE hr hh k hk hc q]
       exact .inl rfl
      ·
       rw [if_neg q]
       exact hM k hk hc
    ·
     rw [e1, if_neg (by simp)]
     rw [ep] at hok hct
     exact .inr (.inr ⟨S', rfl, gone_of hK o1 hC hS hok hct hp⟩)
  ·
   rw [if_pos hh]
   exact .inr (.inl ⟨1, rfl, by decide⟩)
 ·
  rw [if_pos hr]
  exact .inr (.inl ⟨4, rfl, by decide⟩)
/-! ### Void -/
theorem keep_void {S : Sp} {J : Jn} {E : Nat → En} (h : HereA S J E) (n : Int) (hE : J.has n → ∀ k, k < 8 → J.c < (E k).opn → (E k).opn ≠ n) :
  (∃ S' J', voidJ S J n = (S', J', 0) ∧ HereA S' J' E ∧ J'.c = J.c ∧ J.has n ∧ J'.item n = it0) ∨ (∃ x, voidJ S J n = (S, J, x) ∧ x ≠ 0) ∨ (∃ S', voidJ S J n = (S', J, 6) ∧ GoneA S' J.c E) := by
 obtain ⟨hw, hK, ⟨K, hT, hC, hA, hS⟩, hM⟩ := id h
 unfold voidJ
 by_cases hh : J.has n
 ·
  rw [if_neg (not_not_intro hh)]
  by_cases hq : (J.item n).kind = 0
  ·
   rw [if_pos hq]
   refine .inl ⟨S, J, rfl, h, rfl, hh, ?_⟩
   rcases hw.it _ hh with q | ⟨y, _, _, _, q⟩ | ⟨s, _, _, _, q⟩ | q
   ·
    exact q
   ·
    rw [q] at hq; exact absurd hq (by simp)
   ·
    rw [q] at hq; exact absurd hq (by simp)
   ·
    rw [q] at hq; exact absurd hq (by simp)
  ·
   rw [if_neg hq]
   have hok : okA J.c E (voidP (J.item n) n) := fun k hk hc => okP_of (void_of _ n) (other_slot hK hh hk hc (hE hh k hk hc))
   have hct := void_ct J.c (J.item n) n
   rcases layL_steps _ hT (void_lays (J.item n) n) with ⟨S', e1, t1, _⟩ | ⟨S', a, x, r, pend, e1, ep, o1, hp, _⟩
   ·
    rw [e1, if_pos rfl]
    refine .inl ⟨S', _, rfl, ⟨jset_wf hw hh (.inl rfl), hK, ⟨_, t1, ct_app _ hC hct, fun m hm => ?_, safeA_app hS hok⟩, fun k hk hc => ?_⟩, rfl, hh, by rw [set_item hw.len _ hh, if_pos rfl]⟩
    ·
     rw [set_item hw.len _ hh]
     by_cases q : m = n
     ·
      rw [if_pos q, q]
      exact ag_voidP hq
     ·
      rw [if_neg q]
      exact ag_other (hw.it m hm) (void_of _ n) (slot_ne hh hm q) (hA m hm)
    ·
     rw [set_item hw.len _ hh, if_neg (hE hh k hk hc)]
     exact hM k hk hc
   ·
    rw [e1, if_neg (by simp)]
    rw [ep] at hok hct
    exact .inr (.inr ⟨S', rfl, gone_of hK o1 hC hS hok hct hp⟩)
 ·
  rw [if_pos hh]
  exact .inr (.inl ⟨1, rfl, by decide⟩)
/-! ### Shift -/
theorem shift_item {J : Jn} {c n : Int} (hn : c < n ∧ n ≤ c + 8) : (⟨c, (List.range 8).map fun (k : Nat) => J.item (c + 1 + (k : Int))⟩ : Jn).item n = J.item n := by
 unfold Jn.item
 rw [if_pos (show Jn.has ⟨c, _⟩ n from hn)]
 show ((List.range 8).map fun (k : Nat) => J.item (c + 1 + (k : Int))).getD (n - c - 1).toNat it0 = _
 rw [List.getD_eq_getElem?_getD, List.getElem?_map, List.getElem?_range (by omega)]
 show J.item (c + 1 + (((n - c - 1).toNat : Nat) : Int)) = _
 rw [show c + 1 + (((n - c - 1).toNat : Nat) : Int) = n by omega]
 rfl
theorem ct_not {K : Nat → Option (List UInt8)} {c n : Int} (hC : CtK K c) (hn : c + 8 < n) : AgI K n it0 := by
 have hp := pN_lt n
 have hh := hN_lt n
 refine ⟨fun _ => ⟨fun r => ?_, fun r => ?_⟩, fun q => (by cases q), fun q => (by cases q), fun q => (by cases q)⟩
 ·
  rcases eK_ct (hC (pN n) (by omega) (by omega)) with ⟨s1, _⟩ | ⟨s1, _⟩ | ⟨e, _, _, _, le, _, s1⟩ <;> rw [s1] at r ⊢
  ·
   cases r
  ·
   cases r
  ·
   show e.opn ≠ n
   omega
 ·
  rcases sK_ct (hC (hN n) (by omega) (by omega)) with ⟨s1, _⟩ | ⟨s1, _⟩ | ⟨e, _, _, _, le, _, s1⟩ <;> rw [s1] at r ⊢
  ·
   cases r
  ·
   cases r
  ·
   show e.opn ≠ n
   omega
theorem item_out {J : Jn} {n : Int} (h : ¬ J.has n) : J.item n = it0 := if_neg h
theorem keep_shift {S : Sp} {J : Jn} {E : Nat → En} (h : HereA S J E) (c : Int) :
  (∃ x, shiftJ J c = (J, x) ∧ x ≠ 0) ∨ (∃ J', shiftJ J c = (J', 0) ∧ J'.c = c ∧ J.c ≤ c ∧ HereA S J' E) := by
 obtain ⟨hw, hK, ⟨K, hT, hC, hA, hS⟩, hM⟩ := h
 unfold shiftJ
 by_cases hc : c < J.c ∨ 72057594037927927 < c
 ·
  rw [if_pos hc]
  exact .inl ⟨1, rfl, by decide⟩
 ·
  rw [if_neg hc]
  have h1 : J.c ≤ c := by omega
  have hlt : ∀ {m : Int}, c < m → J.c < m := fun q => by omega
  refine .inr ⟨_, rfl, rfl, h1, ⟨⟨by simp, by show 0 ≤ c; have := hw.c0; omega, by show c ≤ _; omega, fun n hn => ?_⟩, ⟨fun k hk q => hK.fits k hk (hlt q), fun k hk q => hK.rt k hk (hlt q), fun k hk q => hK.slot k hk (hlt q), fun k hk q => by have := hK.win k hk (hlt q); show (E k).opn ≤ c + 8; omega⟩, ⟨K, hT, fun i i4 i20 => ct_more h1 (hC i i4 i20), fun n hn => ?_, fun k hk q => hS k hk (hlt q)⟩, fun k hk q => ?_⟩⟩
  ·
   rw [shift_item hn]
   by_cases q : J.has n
   ·
    exact hw.it n q
   ·
    rw [item_out q]
    exact .inl rfl
  ·
   rw [shift_item hn]
   by_cases q : J.has n
   ·
    exact hA n q
   ·
    rw [item_out q]
    refine ct_not hC ?_
    obtain ⟨n1, n2⟩ := hn
    have n1 : c < n := n1
    unfold Jn.has at q
    omega
  ·
   have q : c < (E k).opn := q
   have := hK.win k hk (hlt q)
   rw [shift_item ⟨q, by omega⟩]
   exact hM k hk (hlt q)
end Go.Proofs.YtafbeepacncooaaDoor
/-
  What was kept is never lacked, in plain words: Read, Scrub, rot, the power, Open.
-/
namespace Go.Proofs.YtafbeepacncooaaDoor
open Go.RowKit
set_option maxRecDepth 10000

/-! ### Read -/
theorem keep_read {S : Sp} {J : Jn} {E : Nat → En} (h : HereA S J E) (n : Int) : ∃ J' e x, readJn S J n = (J', e, x) ∧ HereA S J' E ∧ J'.c = J.c := by
 obtain ⟨hw, hK, ⟨K, hT, hC, hA, hS⟩, hM⟩ := id h
 unfold readJn
 by_cases hh : J.has n
 ·
  rw [if_neg (not_not_intro hh)]
  by_cases h0 : (J.item n).kind = 0
  ·
   rw [if_pos h0]
   exact ⟨J, _, _, rfl, h, rfl⟩
  ·
   rw [if_neg h0]
   by_cases h1 : (J.item n).kind = 1
   ·
    rw [if_neg (not_not_intro h1)]
    have hr := reads_of hT n
    rw [hr.p]
    simp only
    rw [if_neg (by simp)]
    by_cases hq : (entryS (secJ S (pN n)).lasts).2.1 = false ∨ stubS (entryS (secJ S (pN n)).lasts).1 ≠ (J.item n).stub
    ·
     rw [if_pos hq]
     obtain ⟨e, fe, re, oe, he⟩ : ∃ e : En, e.fits ∧ Rt e ∧ e.opn = n ∧ J.item n = ⟨1, stubS e, e⟩ := by
      rcases hw.it n hh with q | q | ⟨s, _, _, _, q⟩ | q
      ·
       rw [q] at h0; exact absurd rfl h0
      ·
       exact q
      ·
       rw [q] at h1; exact absurd h1 (by simp)
      ·
       rw [q] at h1; exact absurd h1 (by simp)
     refine ⟨_, _, _, rfl, ⟨jset_wf hw hh ?_, hK, ⟨K, hT, hC, fun m hm => ?_, hS⟩, fun k hk hc => ?_⟩, rfl⟩
     ·
      rw [he]
      exact .inr (.inr (.inl ⟨stubS e, stubS_fits fe, stubS_ok re, by rw [stubS_rt re]; exact oe, rfl⟩))
     ·
      rw [set_item hw.len _ hh]
      by_cases q : m = n
      ·
       rw [if_pos q, q]
       have ha := (hA n hh).2.1 h1
       rw [he] at ha ⊢
       subst oe
       exact ⟨fun q => absurd (congrArg It.kind q) (show ¬ (2 : Int) = 0 by decide), fun q => absurd q (show ¬ (2 : Int) = 1 by decide), fun _ => ha.2, fun q => absurd q (show ¬ (2 : Int) = 3 by decide)⟩
      ·
       rw [if_neg q]
       exact hA m hm
     ·
      rw [set_item hw.len _ hh]
      by_cases q : (E k).opn = n
      ·
       rw [if_pos q]
       have hm := hM k hk hc
       rw [q] at hm
       rcases hm with w | w | w
       ·
        rw [w]; exact .inr (.inl rfl)
       ·
        rw [w] at h1; exact absurd h1 (by simp)
       ·
        rw [w] at h1; exact absurd h1 (by simp)
      ·
       rw [if_neg q]
       exact hM k hk hc
    ·
     rw [if_neg hq]
     exact ⟨J, _, _, rfl, h, rfl⟩
   ·
    rw [if_pos h1]
    exact ⟨J, _, _, rfl, h, rfl⟩
 ·
  rw [if_pos hh]
  exact ⟨J, _, _, rfl, h, rfl⟩
/-! ### a sector for a content -/
theorem kc_ex {c : Int} {i : Nat} {o : Option (List UInt8)} (h : Ct c i o) : ∃ s, KcJ o s := by
 have hl : ∀ t : List UInt8, t.length ≤ 376 → ∃ s, KcJ (some t) s := fun t ht => ⟨⟨layS 0 t, false⟩, ⟨0, rfl⟩, rfl, ht⟩
 rcases h with rfl | rfl | ⟨e, he, hr, _, _, rfl⟩ | ⟨s, _, _, _, _, rfl⟩
 ·
  exact ⟨⟨List.replicate 384 0, true⟩, rfl, open_noughts⟩
 ·
  exact hl _ (by simp)
 ·
  exact hl _ (by have := packE_rt he hr; omega)
 ·
  exact hl _ (by rw [sbytes_len]; omega)
theorem ct_clean (c : Int) (p h : List UInt8) (n : Int) : ctP c (cleanP p h n) := by
 unfold cleanP
 refine ctP_app ?_ ?_
 ·
  split
  ·
   exact ct_lV _ _
  ·
   exact ctP_nil _
 ·
  split
  ·
   exact ct_lV _ _
  ·
   exact ctP_nil _
theorem wf_fits {n : Int} {i : It} (h : WfI n i) : i.stub.fits := by
 rcases h with rfl | ⟨e, he, _, _, rfl⟩ | ⟨s, hs, _, _, rfl⟩ | rfl
 ·
  exact st0_fits
 ·
  exact stubS_fits he
 ·
  exact hs
 ·
  exact st0_fits
theorem ct_scrub {c n : Int} {i : It} (hw : WfI n i) (hn : n ≤ c + 8) (p h : List UInt8) : ctP c (scrubP i p h n) := by
 unfold scrubP
 split
 ·
  exact ct_clean c p h n
 ·
  split
  ·
   rename_i h1
   obtain ⟨a, b⟩ := wf_stub hw h1.1
   exact ct_lS (wf_fits hw) b (by omega)
  ·
   exact ctP_nil _
theorem ct_open {c n : Int} (hn : n ≤ c + 8) (p h : List UInt8) : ctP c (openP p h n) := by
 unfold openP
 split
 ·
  exact ct_clean c p h n
 ·
  split
  ·
   rename_i h1
   obtain ⟨a, b⟩ := wf_stub (judge_wf p h n) (.inl h1.1)
   exact ct_lS (wf_fits (judge_wf p h n)) b (by omega)
  ·
   exact ctP_nil _
/-! ### Scrub -/
theorem scrub_inv {K : Nat → Option (List UInt8)} {J : Jn} {E : Nat → En} (hw : JWf J) (hK : Kept J.c E) (hC : CtK K J.c) (hA : ∀ n, J.has n → AgI K n (J.item n)) (hS : SafeA K J.c E) (hM : MemA J E) : ∀ s, s ≤ 8 →
  CtK (scrubKs K J s) J.c ∧ SafeA (scrubKs K J s) J.c E ∧ (∀ n, J.has n → AgI (scrubKs K J s) n (if (n % 8).toNat < s then scrubKx (J.item n) (scrubKs K J (n % 8).toNat (pN n)) else J.item n)) ∧
   (∀ n, J.has n → (if (n % 8).toNat < s then scrubKx (J.item n) (scrubKs K J (n % 8).toNat (pN n)) else J.item n) = J.item n ∨ ∃ p, (if (n % 8).toNat < s then scrubKx (J.item n) (scrubKs K J (n % 8).toNat (pN n)) else J.item n) = scrubX (J.item n) p) ∧
   (s < 8 → okA J.c E (scrubKp (J.item (slotN J.c s)) (scrubKs K J s (pN (slotN J.c s))) (scrubKs K J s (hN (slotN J.c s))) (slotN J.c s)) ∧ ctP J.c (scrubKp (J.item (slotN J.c s)) (scrubKs K J s (pN (slotN J.c s))) (scrubKs K J s (hN (slotN J.c s))) (slotN J.c s)) ∧ ofN (slotN J.c s) (scrubKp (J.item (slotN J.c s)) (scrubKs K J s (pN (slotN J.c s))) (scrubKs K J s (hN (slotN J.c s))) (slotN J.c s))) := by
 have plan : ∀ s, s < 8 → CtK (scrubKs K J s) J.c → okA J.c E (scrubKp (J.item (slotN J.c s)) (scrubKs K J s (pN (slotN J.c s))) (scrubKs K J s (hN (slotN J.c s))) (slotN J.c s)) ∧ ctP J.c (scrubKp (J.item (slotN J.c s)) (scrubKs K J s (pN (slotN J.c s))) (scrubKs K J s (hN (slotN J.c s))) (slotN J.c s)) ∧ ofN (slotN J.c s) (scrubKp (J.item (slotN J.c s)) (scrubKs K J s (pN (slotN J.c s))) (scrubKs K J s (hN (slotN J.c s))) (slotN J.c s)) := fun s hs c1 => by
  have hp := pN_lt (slotN J.c s)
  have hh := hN_lt (slotN J.c s)
  obtain ⟨s1, k1⟩ := kc_ex (c1 (pN (slotN J.c s)) (by omega) (by omega))
  obtain ⟨s2, k2⟩ := kc_ex (c1 (hN (slotN J.c s)) (by omega) (by omega))
  rw [← scrub_kc k1 k2]
  have hin := slot_has J s
  refine ⟨fun k hk hc => ?_, ct_scrub (hw.it _ hin) hin.2 _ _, scrub_item_of J hw s _ _⟩
  by_cases q : (E k).opn = slotN J.c s
  ·
   have hm := hM k hk hc
   have h3 := okP_scrub (hK.rt k hk hc) s1.lasts s2.lasts hm
   have h4 : ∀ m, (E k).opn = m → okP (E k) (scrubP (J.item m) s1.lasts s2.lasts m) := fun m e => e ▸ h3
   exact h4 _ q
  ·
   exact okP_of (scrub_item_of J hw s _ _) (other_slot hK hin hk hc q)
 have xs : ∀ n, J.has n → ∀ s, CtK (scrubKs K J s) J.c → ∃ p, scrubKx (J.item n) (scrubKs K J s (pN n)) = scrubX (J.item n) p := fun n _ s c1 => by
  have hp := pN_lt n
  obtain ⟨s1, k1⟩ := kc_ex (c1 (pN n) (by omega) (by omega))
  exact ⟨s1.lasts, (scrubx_kc k1 _).symm⟩
 have all : ∀ s, s ≤ 8 → CtK (scrubKs K J s) J.c ∧ SafeA (scrubKs K J s) J.c E ∧ (∀ n, J.has n → AgI (scrubKs K J s) n (if (n % 8).toNat < s then scrubKx (J.item n) (scrubKs K J (n % 8).toNat (pN n)) else J.item n)) ∧ ∀ s', s' ≤ s → CtK (scrubKs K J s') J.c := by
  intro s
  induction s with
  | zero =>
   intro _
   refine ⟨hC, hS, fun n hn => ?_, fun s' hs' => ?_⟩
   ·
    rw [if_neg (Nat.not_lt_zero _)]
    exact hA n hn
   ·
    have e0 : s' = 0 := by omega
    rw [e0]
    exact hC
  | succ s ih =>
   intro hs
   obtain ⟨c1, s1, a1, l1⟩ := ih (by omega)
   obtain ⟨p1, p2, p3⟩ := plan s (by omega) c1
   have c2 : CtK (scrubKs K J (s + 1)) J.c := ct_app _ c1 p2
   refine ⟨c2, safeA_app s1 p1, fun n hn => ?_, fun s' hs' => ?_⟩
   ·
    have hm := slotN_mod J.c s (by omega)
    by_cases q : n = slotN J.c s
    ·
     subst q
     have e1 : ((slotN J.c s) % 8).toNat = s := by omega
     rw [e1, if_pos (by omega)]
     have ha := a1 _ hn
     rw [e1, if_neg (by omega)] at ha
     exact ag_scrub (hw.it _ hn) ha
    ·
     have hq : (n % 8).toNat ≠ s := fun w => q (by
      have := slotN_of (c := J.c) (n := n) hn
      rw [w] at this
      exact this.symm)
     have ha := a1 n hn
     have e2 : (if (n % 8).toNat < s + 1 then scrubKx (J.item n) (scrubKs K J (n % 8).toNat (pN n)) else J.item n) = (if (n % 8).toNat < s then scrubKx (J.item n) (scrubKs K J (n % 8).toNat (pN n)) else J.item n) := by
      by_cases w : (n % 8).toNat < s
      ·
       rw [if_pos w, if_pos (by omega)]
      ·
       rw [if_neg w, if_neg (by omega)]
     rw [e2]
     refine ag_other ?_ p3 (slot_ne (slot_has J s) hn q) ha
     split
     ·
      rename_i w
      obtain ⟨p, hp⟩ := xs n hn (n % 8).toNat (l1 _ (by omega))
      rw [hp]
      exact wf_scrub (hw.it n hn) p
     ·
      exact hw.it n hn
   ·
    by_cases w : s' ≤ s
    ·
     exact l1 s' w
    ·
     have e0 : s' = s + 1 := by omega
     rw [e0]
     exact c2
 intro s hs
 obtain ⟨c1, s1, a1, l1⟩ := all s hs
 refine ⟨c1, s1, a1, fun n hn => ?_, fun h => plan s h c1⟩
 split
 ·
  rename_i w
  exact .inr (xs n hn _ (l1 _ (by omega)))
 ·
  exact .inl rfl
theorem keep_scrub {S : Sp} {J : Jn} {E : Nat → En} (h : HereA S J E) :
  (∃ S' J', scrubK S J 8 = (S', J', 0) ∧ HereA S' J' E ∧ J'.c = J.c) ∨ (∃ S' J', scrubK S J 8 = (S', J', 6) ∧ GoneA S' J.c E) := by
 obtain ⟨hw, hK, ⟨K, hT, hC, hA, hS⟩, hM⟩ := h
 have inv := scrub_inv hw hK hC hA hS hM
 rcases scrubK_cl hT hw 8 (Nat.le_refl _) with ⟨S', J', e, t1, c1, l1, _, hx⟩ | ⟨S', J', s', a, x, r, pend, e, hs', ep, o1, hp, _⟩
 ·
  obtain ⟨i1, i2, i3, i4, _⟩ := inv 8 (Nat.le_refl _)
  have hh : ∀ n, J'.has n ↔ J.has n := fun n => by unfold Jn.has; rw [c1]
  refine .inl ⟨S', J', e, ⟨⟨l1, by rw [c1]; exact hw.c0, by rw [c1]; exact hw.c1, fun n hn => ?_⟩, by rw [c1]; exact hK, ⟨_, t1, by rw [c1]; exact i1, fun n hn => ?_, by rw [c1]; exact i2⟩, fun k hk hc => ?_⟩, c1⟩
  ·
   have hn := (hh n).1 hn
   rw [hx n hn]
   rcases i4 n hn with q | ⟨p, q⟩ <;> rw [q]
   ·
    exact hw.it n hn
   ·
    exact wf_scrub (hw.it n hn) p
  ·
   have hn := (hh n).1 hn
   rw [hx n hn]
   exact i3 n hn
  ·
   rw [c1] at hc
   have hn : J.has (E k).opn := ⟨hc, hK.win k hk hc⟩
   rw [hx _ hn]
   rcases i4 _ hn with q | ⟨p, q⟩ <;> rw [q]
   ·
    exact hM k hk hc
   ·
    exact mem_scrub p (hM k hk hc)
 ·
  obtain ⟨i1, i2, _, _, i5⟩ := inv s' (by omega)
  obtain ⟨q1, q2, _⟩ := i5 hs'
  rw [ep] at q1 q2
  exact .inr ⟨S', J', e, gone_of hK o1 i1 i2 q1 q2 hp⟩
end Go.Proofs.YtafbeepacncooaaDoor
/-
  What was kept is never lacked, in plain words: rot, the power, Open.
-/
namespace Go.Proofs.YtafbeepacncooaaDoor
open Go.RowKit
set_option maxRecDepth 10000

theorem safeA_none {K : Nat → Option (List UInt8)} {c : Int} {E : Nat → En} (h : SafeA K c E) (i : Nat) : SafeA (updJ K i none) c E := fun k hk hc => safe_none (h k hk hc) i
/-! ### rot -/
theorem keep_rot {S : Sp} {J : Jn} {E : Nat → En} (h : HereA S J E) (i a m : Int) : ∃ S' x, S.rot i a m = (S', x) ∧ HereA S' J E ∧ S'.on = S.on := by
 obtain ⟨hw, hK, ⟨K, hT, hC, hA, hS⟩, hM⟩ := id h
 rcases rot_steps hT i a m with ⟨x, e, _⟩ | ⟨k, S', _, e, t, _, _⟩
 ·
  exact ⟨S, x, e, h, rfl⟩
 ·
  exact ⟨S', 0, e, ⟨hw, hK, ⟨_, t, ct_upd hC (.inl rfl), fun n hn => ag_none k (hA n hn), safeA_none hS k⟩, hM⟩, by rw [t.cl.on, hT.cl.on]⟩
theorem gone_rot {S : Sp} {c : Int} {E : Nat → En} (h : GoneA S c E) (i a m : Int) : ∃ S' x, S.rot i a m = (S', x) ∧ GoneA S' c E := by
 obtain ⟨hK, K, pend, hO, hC, hS, hP, hq⟩ := id h
 rcases rot_off hO i a m with ⟨x, e, _⟩ | ⟨k, S', _, e, t, _, _⟩
 ·
  exact ⟨S, x, e, h⟩
 ·
  exact ⟨S', 0, e, hK, _, pend, t, ct_upd hC (.inl rfl), safeA_none hS k, hP, hq⟩
/-! ### the power -/
theorem here_on {S : Sp} {J : Jn} {E : Nat → En} (h : HereA S J E) : S.on = true := by
 obtain ⟨K, hT, _⟩ := h.ex
 exact hT.cl.on
theorem gone_off {S : Sp} {c : Int} {E : Nat → En} (h : GoneA S c E) : S.on = false := by
 obtain ⟨K, pend, hO, _⟩ := h.ex
 exact hO.off
theorem keep_fuse {S : Sp} {J : Jn} {E : Nat → En} (h : HereA S J E) (n : Int) : ∃ S', S.fuse n = (S', 0) ∧ HereA S' J E := by
 obtain ⟨hw, hK, ⟨K, hT, hC, hA, hS⟩, hM⟩ := h
 refine ⟨{ S with left := n.toNat }, ?_, hw, hK, ⟨K, ⟨⟨hT.cl.on, hT.cl.way, ⟨hT.cl.ln.len⟩⟩, hT.n, hT.ks⟩, hC, hA, hS⟩, hM⟩
 unfold Sp.fuse
 rw [if_neg (by rw [hT.cl.on]; simp)]
theorem keep_cut {S : Sp} {J : Jn} {E : Nat → En} (h : HereA S J E) : ∃ S', S.cut = (S', 0) ∧ GoneA S' J.c E := by
 obtain ⟨hw, hK, ⟨K, hT, hC, hA, hS⟩, hM⟩ := h
 exact ⟨_, Sp.cut_ok hT.cl.on, hK, K, none, ⟨rfl, ⟨hT.cl.ln.len⟩, hT.n, hT.ks, hT.cl.way⟩, hC, hS, fun i t e => (by cases e), fun i t e => (by cases e)⟩
/-- the power is back, nobody has looked -/
structure BackA (S : Sp) (c : Int) (E : Nat → En) : Prop where
 kept : Kept c E
 ex : ∃ K, TdJ S K ∧ CtK K c ∧ SafeA K c E
theorem gone_start {S : Sp} {c : Int} {E : Nat → En} (h : GoneA S c E) (picks : List Int) : ∃ S', S.start picks = (S', 0) ∧ BackA S' c E := by
 obtain ⟨hK, K, pend, hO, hC, hS, hP, hq⟩ := h
 obtain ⟨S', K', e, t, _, _, hk⟩ := start_steps hO picks
 refine ⟨S', e, hK, K', t, ?_⟩
 cases pend with
 | none =>
  simp only at hk
  subst hk
  exact ⟨hC, hS⟩
 | some it =>
  obtain ⟨i, tx⟩ := it
  simp only at hk
  rcases hk with rfl | rfl | rfl
  ·
   exact ⟨hC, hS⟩
  ·
   exact ⟨ct_upd hC (hq i tx rfl), fun k hk hc => safe_upd (hS k hk hc) (hP i tx rfl k hk hc).1 (hP i tx rfl k hk hc).2⟩
  ·
   exact ⟨ct_upd hC (.inl rfl), safeA_none hS i⟩
/-! ### Open -/
theorem judgeK_wf {c : Int} {n : Int} {p h : Option (List UInt8)} (h1 : Ct c (pN n) p) (h2 : Ct c (hN n) h) : WfI n (judgeK p h n) := by
 obtain ⟨s1, k1⟩ := kc_ex h1
 obtain ⟨s2, k2⟩ := kc_ex h2
 rw [← judge_kc k1 k2]
 exact judge_wf _ _ _
theorem open_plan {K : Nat → Option (List UInt8)} {c : Int} {E : Nat → En} (hK : Kept c E) (hC : CtK K c) (hS : SafeA K c E) (s : Nat) :
  okA c E (openKp (K (pN (slotN c s))) (K (hN (slotN c s))) (slotN c s)) ∧ ctP c (openKp (K (pN (slotN c s))) (K (hN (slotN c s))) (slotN c s)) ∧ ofN (slotN c s) (openKp (K (pN (slotN c s))) (K (hN (slotN c s))) (slotN c s)) := by
 have hp := pN_lt (slotN c s)
 have hh := hN_lt (slotN c s)
 have hin := slotN_in c s
 obtain ⟨s1, k1⟩ := kc_ex (hC (pN (slotN c s)) (by omega) (by omega))
 obtain ⟨s2, k2⟩ := kc_ex (hC (hN (slotN c s)) (by omega) (by omega))
 rw [← open_kc k1 k2]
 refine ⟨fun k hk hc => ?_, ct_open hin.2 _ _, open_of _ _ _⟩
 by_cases q : (E k).opn = slotN c s
 ·
  have hm := judge_safe (hK.fits k hk hc) (hK.rt k hk hc) (hS k hk hc)
  rw [q, ← judge_kc k1 k2, ← q] at hm
  have h3 := okP_open (hK.rt k hk hc) hm
  have h4 : ∀ m, (E k).opn = m → okP (E k) (openP s1.lasts s2.lasts m) := fun m e => e ▸ h3
  exact h4 _ q
 ·
  exact okP_of (open_of _ _ _) (other_slot hK hin hk hc q)
theorem open_inv {K : Nat → Option (List UInt8)} {c : Int} {E : Nat → En} (hK : Kept c E) (hC : CtK K c) (hS : SafeA K c E) : ∀ s, s ≤ 8 →
  CtK (openKs K c s) c ∧ SafeA (openKs K c s) c E ∧ (∀ s', s' < s → AgI (openKs K c s) (slotN c s') (judgeK (openKs K c s' (pN (slotN c s'))) (openKs K c s' (hN (slotN c s'))) (slotN c s'))) ∧ ∀ s', s' ≤ s → CtK (openKs K c s') c ∧ SafeA (openKs K c s') c E := by
 intro s
 induction s with
 | zero =>
  intro _
  refine ⟨hC, hS, fun s' h => absurd h (Nat.not_lt_zero _), fun s' hs' => ?_⟩
  have e0 : s' = 0 := by omega
  rw [e0]
  exact ⟨hC, hS⟩
 | succ s ih =>
  intro hs
  obtain ⟨c1, s1, a1, l1⟩ := ih (by omega)
  obtain ⟨p1, p2, p3⟩ := open_plan hK c1 s1 s
  have c2 : CtK (openKs K c (s + 1)) c := ct_app _ c1 p2
  have s2 : SafeA (openKs K c (s + 1)) c E := safeA_app s1 p1
  have hp := pN_lt (slotN c s)
  have hh := hN_lt (slotN c s)
  refine ⟨c2, s2, fun s' hs' => ?_, fun s' hs' => ?_⟩
  ·
   by_cases q : s' = s
   ·
    rw [q]
    exact ag_open (c1 _ (by omega) (by omega)) (c1 _ (by omega) (by omega))
   ·
    have hl : s' < s := by omega
    have hp' := pN_lt (slotN c s')
    have hh' := hN_lt (slotN c s')
    obtain ⟨c3, _⟩ := l1 s' (by omega)
    refine ag_other (judgeK_wf (c3 _ (by omega) (by omega)) (c3 _ (by omega) (by omega))) p3 ?_ (a1 s' hl)
    rw [slotN_mod c s (by omega), slotN_mod c s' (by omega)]
    omega
  ·
   by_cases w : s' ≤ s
   ·
    exact l1 s' w
   ·
    have e0 : s' = s + 1 := by omega
    rw [e0]
    exact ⟨c2, s2⟩
theorem back_open {S : Sp} {c : Int} {E : Nat → En} (h : BackA S c E) (h0 : 0 ≤ c) (h1 : c ≤ 72057594037927927) :
  (∃ S' X, openK S c 8 = (S', X, 0) ∧ HereA S' ⟨c, X⟩ E) ∨ (∃ S' X, openK S c 8 = (S', X, 6) ∧ GoneA S' c E) := by
 obtain ⟨hK, K, hT, hC, hS⟩ := h
 have inv := open_inv hK hC hS
 rcases openK_cl hT c 8 (Nat.le_refl _) with ⟨S', X, e, t1, l1, _, hx⟩ | ⟨S', X, s', a, x, r, pend, e, hs', ep, o1, hp, _⟩
 ·
  obtain ⟨i1, i2, i3, i4⟩ := inv 8 (Nat.le_refl _)
  have hit : ∀ n, c < n ∧ n ≤ c + 8 → (⟨c, X⟩ : Jn).item n = judgeK (openKs K c (n % 8).toNat (pN n)) (openKs K c (n % 8).toNat (hN n)) n := fun n hn => by
   have h8 : (n % 8).toNat < 8 := by omega
   have h2 := hx (n % 8).toNat h8
   rw [slotN_of hn] at h2
   unfold Jn.item
   rw [if_pos (show Jn.has ⟨c, X⟩ n from hn)]
   exact h2
  refine .inl ⟨S', X, e, ⟨⟨l1, h0, h1, fun n hn => ?_⟩, hK, ⟨_, t1, i1, fun n hn => ?_, i2⟩, fun k hk hc => ?_⟩⟩
  ·
   have hp := pN_lt n
   have hh := hN_lt n
   rw [hit n hn]
   obtain ⟨c3, _⟩ := i4 (n % 8).toNat (by omega)
   exact judgeK_wf (c3 _ (by omega) (by omega)) (c3 _ (by omega) (by omega))
  ·
   rw [hit n hn]
   have h3 := i3 (n % 8).toNat (by omega)
   rw [slotN_of (c := c) (n := n) hn] at h3
   exact h3
  ·
   have hc : c < (E k).opn := hc
   have hn : c < (E k).opn ∧ (E k).opn ≤ c + 8 := ⟨hc, hK.win k hk hc⟩
   rw [hit _ hn]
   obtain ⟨_, s3⟩ := i4 ((E k).opn % 8).toNat (by omega)
   exact judge_safe (hK.fits k hk hc) (hK.rt k hk hc) (s3 k hk hc)
 ·
  obtain ⟨i1, i2, _, _⟩ := inv s' (by omega)
  obtain ⟨q1, q2, _⟩ := open_plan hK i1 i2 s'
  rw [ep] at q1 q2
  exact .inr ⟨S', X, e, gone_of hK o1 i1 i2 q1 q2 hp⟩
/-! ### what is kept -/
end Go.Proofs.YtafbeepacncooaaDoor
/-
  What is kept, entry by entry; no fuse: every lay is done; a formatted disk.
-/
namespace Go.Proofs.YtafbeepacncooaaDoor
open Go.RowKit
set_option maxRecDepth 10000

/-! ### one entry more, one less -/
def dropE (E : Nat → En) (i : Nat) : Nat → En := fun k => if k = i then en0 else E k
def setE (E : Nat → En) (i : Nat) (e : En) : Nat → En := fun k => if k = i then e else E k
theorem drop_live {c : Int} (h0 : 0 ≤ c) {E : Nat → En} {i k : Nat} (h : c < (dropE E i k).opn) : k ≠ i ∧ dropE E i k = E k := by
 unfold dropE at h ⊢
 by_cases q : k = i
 ·
  rw [if_pos q] at h
  have : c < 0 := h
  omega
 ·
  exact ⟨q, if_neg q⟩
theorem kept_less {c : Int} (h0 : 0 ≤ c) {E : Nat → En} (hK : Kept c E) (i : Nat) : Kept c (dropE E i) := by
 constructor <;> intro k hk hc <;> have hd := drop_live h0 hc <;> rw [hd.2] at hc ⊢
 ·
  exact hK.fits k hk hc
 ·
  exact hK.rt k hk hc
 ·
  exact hK.slot k hk hc
 ·
  exact hK.win k hk hc
theorem safe_less {K : Nat → Option (List UInt8)} {c : Int} (h0 : 0 ≤ c) {E : Nat → En} (h : SafeA K c E) (i : Nat) : SafeA K c (dropE E i) := fun k hk hc => by
 have hd := drop_live h0 hc
 rw [hd.2] at hc ⊢
 exact h k hk hc
theorem here_less {S : Sp} {J : Jn} {E : Nat → En} (h : HereA S J E) (i : Nat) : HereA S J (dropE E i) := by
 obtain ⟨hw, hK, ⟨K, hT, hC, hA, hS⟩, hM⟩ := h
 refine ⟨hw, kept_less hw.c0 hK i, ⟨K, hT, hC, hA, safe_less hw.c0 hS i⟩, fun k hk hc => ?_⟩
 have hd := drop_live hw.c0 hc
 rw [hd.2] at hc ⊢
 exact hM k hk hc
theorem here_more {S : Sp} {J : Jn} {E : Nat → En} (h : HereA S J E) {e : En} (he : e.fits) (hr : Rt e) (hh : J.has e.opn) (hi : J.item e.opn = ⟨1, stubS e, e⟩) : HereA S J (setE E (e.opn % 8).toNat e) := by
 obtain ⟨hw, hK, ⟨K, hT, hC, hA, hS⟩, hM⟩ := h
 have hsf : SafeK K e := by
  have := (hA _ hh).2.1 (by rw [hi])
  rw [hi] at this
  exact this
 have hm : MemE (J.item e.opn) e := .inl hi
 have hs : ∀ k, setE E (e.opn % 8).toNat e k = e ∧ k = (e.opn % 8).toNat ∨ setE E (e.opn % 8).toNat e k = E k := fun k => by
  unfold setE
  by_cases q : k = (e.opn % 8).toNat
  ·
   left; exact ⟨if_pos q, q⟩
  ·
   right; exact if_neg q
 refine ⟨hw, ⟨fun k hk hc => ?_, fun k hk hc => ?_, fun k hk hc => ?_, fun k hk hc => ?_⟩, ⟨K, hT, hC, hA, fun k hk hc => ?_⟩, fun k hk hc => ?_⟩ <;> rcases hs k with ⟨q, qk⟩ | q <;> rw [q] at hc ⊢
 ·
  exact he
 ·
  exact hK.fits k hk hc
 ·
  exact hr
 ·
  exact hK.rt k hk hc
 ·
  omega
 ·
  exact hK.slot k hk hc
 ·
  exact hh.2
 ·
  exact hK.win k hk hc
 ·
  exact hsf
 ·
  exact hS k hk hc
 ·
  exact hm
 ·
  exact hM k hk hc
/-! ### without a fuse -/
theorem layL_zero : ∀ (pl : List Lay) {S : Sp} {K : Nat → Option (List UInt8)}, TdJ S K → S.left = 0 → (∀ x ∈ pl, LayOk x) → ∃ S', layL S pl = (S', 0) ∧ TdJ S' (appK K pl) ∧ S'.left = 0 ∧ S'.count = S.count + 2 * pl.length
 | [], S, K, h, h0, _ => ⟨S, rfl, h, h0, rfl⟩
 | x :: r, S, K, h, h0, ho => by
  obtain ⟨x4, x20, xt, xf⟩ := ho x (by simp)
  rcases lay_steps h x4 x20 x.2.1 xt xf with ⟨S1, e, h1, hc, hl, _⟩ | ⟨S1, e, h1, hc, hl⟩ | ⟨S1, e, h1, hc, hl⟩
  ·
   have e1 : layL S (x :: r) = layL S1 r := by
    rw [layL, e, if_neg (by simp)]
   obtain ⟨S2, e2, h2, z2, c2⟩ := layL_zero r h1 (by omega) (fun y hy => ho y (by simp [hy]))
   exact ⟨S2, by rw [e1, e2], h2, z2, by rw [c2, hc]; simp; omega⟩
  ·
   omega
  ·
   omega
theorem openK_zero {S : Sp} {K : Nat → Option (List UInt8)} (h : TdJ S K) (h0 : S.left = 0) (c : Int) : ∀ s, s ≤ 8 → (openK S c s).2.2 = 0 ∧ (openK S c s).1.left = 0 ∧ TdJ (openK S c s).1 (openKs K c s)
 | 0, _ => ⟨rfl, h0, h⟩
 | s + 1, hs => by
  obtain ⟨e, z, t⟩ := openK_zero h h0 c s (by omega)
  have hr := reads_of t (slotN c s)
  have ho := open_ok (secJ (openK S c s).1 (pN (slotN c s))).lasts (secJ (openK S c s).1 (hN (slotN c s))).lasts (slotN c s)
  rw [open_kc hr.kp hr.kh] at ho
  obtain ⟨S2, e2, t2, z2, _⟩ := layL_zero _ t z ho
  have e1 : openK S c (s + 1) = (S2, (openK S c s).2.1.set (slotN c s - c - 1).toNat (judgeK (openKs K c s (pN (slotN c s))) (openKs K c s (hN (slotN c s))) (slotN c s)), 0) := by
   rw [openK, if_neg (by rw [e]; simp), hr.p, hr.h]
   simp only
   rw [if_neg (by simp), if_neg (by simp), open_kc hr.kp hr.kh, judge_kc hr.kp hr.kh, e2]
   simp
  rw [e1]
  exact ⟨rfl, z2, t2⟩
/-! ### Format -/
/-- the sector of Format's j-th step -/
def fmtI (j : Nat) : Nat := 4 + j / 2 + 8 * (j % 2)
/-- Format, behind j writes -/
def fmtK (S : Sp) : Nat → Sp × Int
 | 0 => (S, 0)
 | j + 1 =>
  if (fmtK S j).2 ≠ 0 then fmtK S j
  else if ((fmtK S j).1.read (fmtI j)).2 ≠ 0 then ((fmtK S j).1, ((fmtK S j).1.read (fmtI j)).2)
  else (fmtK S j).1.write (fmtI j) (voidS ((fmtK S j).1.read (fmtI j)).1)
def formatJ (S : Sp) : Sp × Int := if (fmtK S 16).2 ≠ 0 then fmtK S 16 else (fmtK S 16).1.flush
theorem fmtI_inj {j k : Nat} (h : fmtI j = fmtI k) (hj : j < 16) (hk : k < 16) : j = k := by unfold fmtI at h; omega
theorem fmtI_lt {j : Nat} (hj : j < 16) : 4 ≤ fmtI j ∧ fmtI j < 20 := by unfold fmtI; omega
/-- what is under way behind j writes over noughts -/
def fmtW (z : List UInt8) : Nat → List Wr
 | 0 => []
 | j + 1 => fmtW z j ++ [⟨fmtI j, layS (nextS z) []⟩]
theorem fmtW_mem {z : List UInt8} : ∀ {j : Nat} {x : Wr}, x ∈ fmtW z j → ∃ k, k < j ∧ x = ⟨fmtI k, layS (nextS z) []⟩
 | 0, _, h => by cases h
 | j + 1, x, h => by
  rcases List.mem_append.1 h with h | h
  ·
   obtain ⟨k, hk, e⟩ := fmtW_mem h
   exact ⟨k, by omega, e⟩
  ·
   simp only [List.mem_singleton] at h
   exact ⟨j, by omega, h⟩
theorem fmtK_at (n : Nat) (hn : 20 ≤ n) : ∀ j, j ≤ 16 → fmtK (Sp.mk0 n) j = (⟨List.replicate n sec0, fmtW (b384 0) j, true, 0, j⟩, 0)
 | 0, _ => rfl
 | j + 1, hj => by
  have hl := fmtI_lt (j := j) (by omega)
  have hv : (layS (nextS (b384 0)) []).length = 384 := layS_len _ _ (by simp)
  rw [fmtK, fmtK_at n hn j (by omega)]
  simp only
  rw [if_neg (by simp)]
  have hr : (⟨List.replicate n sec0, fmtW (b384 0) j, true, 0, j⟩ : Sp).read (fmtI j) = (b384 0, 0) := by
   unfold Sp.read
   rw [if_neg (by simp only [Decidable.not_not]; exact ⟨by omega, by simp; omega⟩), if_neg (by simp)]
   have hnz : newest (fmtW (b384 0) j) (fmtI j) = 0 := (newest_zero _ _).2 fun x hx => by
    obtain ⟨k, hk, e⟩ := fmtW_mem hx
    subst e
    intro q
    have := fmtI_inj q (by omega) (by omega)
    omega
   rcases newest_get (fmtW (b384 0) j) (fmtI j) ((List.replicate n sec0).getD (fmtI j) ⟨[], false⟩).lasts with ⟨_, h2, _⟩ | ⟨k, h1, _⟩
   ·
    show (lastw (fmtW (b384 0) j) (fmtI j) ((List.replicate n sec0).getD (fmtI j) ⟨[], false⟩).lasts, _) = _
    rw [h2, List.getD_eq_getElem?_getD, List.getElem?_replicate_of_lt (by omega)]
    rfl
   ·
    rw [hnz] at h1
    cases h1
  rw [hr]
  simp only
  rw [if_neg (by simp), void_ok]
  exact Sp.write_ok (S := ⟨List.replicate n sec0, fmtW (b384 0) j, true, 0, j⟩) (by simp; omega) hv rfl (by simp)
end Go.Proofs.YtafbeepacncooaaDoor
/-
  A formatted disk, and the journal that is opened on it.
-/
namespace Go.Proofs.YtafbeepacncooaaDoor
open Go.RowKit
set_option maxRecDepth 10000

theorem fmt_sec (n : Nat) (hn : 20 ≤ n) : ∀ j, j ≤ 16 → ∀ i, i < n → (sett (fun _ => 384) (fmtW (b384 0) j) (List.replicate n sec0)).getD i ⟨[], false⟩ = if ∃ k, k < j ∧ fmtI k = i then ⟨layS (nextS (b384 0)) [], false⟩ else sec0
 | 0, _, i, hi => by
  rw [if_neg (by rintro ⟨k, hk, _⟩; omega)]
  show (List.replicate n sec0).getD i _ = _
  rw [List.getD_eq_getElem?_getD, List.getElem?_replicate_of_lt hi]
  rfl
 | j + 1, hj, i, hi => by
  have hl := fmtI_lt (j := j) (by omega)
  have hv : (layS (nextS (b384 0)) []).length = 384 := layS_len _ _ (by simp)
  have ih := fmt_sec n hn j (by omega) i hi
  rw [fmtW, sett_snoc]
  rw [List.getD_eq_getElem?_getD] at ih ⊢
  rw [List.getElem?_modify]
  have hlen : (sett (fun _ => 384) (fmtW (b384 0) j) (List.replicate n sec0)).length = n := by rw [sett_length, List.length_replicate]
  have hget : (sett (fun _ => 384) (fmtW (b384 0) j) (List.replicate n sec0))[i]? = some ((sett (fun _ => 384) (fmtW (b384 0) j) (List.replicate n sec0))[i]'(by omega)) := List.getElem?_eq_getElem (by omega)
  rw [hget] at ih ⊢
  simp only [Option.getD_some] at ih
  by_cases q : fmtI j = i
  ·
   rw [if_pos ⟨j, by omega, q⟩]
   simp only [q, if_true, Option.map_eq_map, Option.map_some, Option.getD_some]
   rw [ih, if_neg (by
    rintro ⟨k, hk, e⟩
    have := fmtI_inj (e.trans q.symm) (by omega) (by omega)
    omega)]
   exact takeS_full (b384 0) _ (b384_len 0) hv
  ·
   simp only [q, if_false]
   rw [ih]
   by_cases w : ∃ k, k < j ∧ fmtI k = i
   ·
    obtain ⟨k, hk, e⟩ := w
    rw [if_pos ⟨k, hk, e⟩, if_pos ⟨k, by omega, e⟩]
    rfl
   ·
    have w2 : ¬ ∃ k, k < j + 1 ∧ fmtI k = i := by
     rintro ⟨k, hk, e⟩
     by_cases r : k = j
     ·
      subst r
      exact q e
     ·
      exact w ⟨k, by omega, e⟩
    rw [if_neg w, if_neg w2]
    rfl
theorem fmt_all {i : Nat} (h4 : 4 ≤ i) (h20 : i < 20) : ∃ k, k < 16 ∧ fmtI k = i := by
 by_cases h : i < 12
 ·
  exact ⟨2 * (i - 4), by omega, by unfold fmtI; omega⟩
 ·
  exact ⟨2 * (i - 12) + 1, by omega, by unfold fmtI; omega⟩
theorem format_mk0 (n : Nat) (hn : 20 ≤ n) : ∃ S, formatJ (Sp.mk0 n) = (S, 0) ∧ TdJ S (fun _ => some []) ∧ S.left = 0 ∧ S.count = 17 ∧ S.secs.length = n := by
 have hv : (layS (nextS (b384 0)) []).length = 384 := layS_len _ _ (by simp)
 have e1 := fmtK_at n hn 16 (Nat.le_refl _)
 have e2 : formatJ (Sp.mk0 n) = (⟨sett (fun _ => 384) (fmtW (b384 0) 16) (List.replicate n sec0), [], true, 0, 17⟩, 0) := by
  unfold formatJ
  rw [e1, if_neg (by simp)]
  exact Sp.flush_ok (S := ⟨List.replicate n sec0, fmtW (b384 0) 16, true, 0, 16⟩) rfl (by simp)
 have hlen : (sett (fun _ => 384) (fmtW (b384 0) 16) (List.replicate n sec0)).length = n := by rw [sett_length, List.length_replicate]
 have hwf : ∀ s ∈ sett (fun _ => 384) (fmtW (b384 0) 16) (List.replicate n sec0), s.lasts.length = 384 := by
  refine sett_wf (fun _ => 384) (fun _ => Nat.le_refl _) (fmtW (b384 0) 16) (List.replicate n sec0) (fun s hs => ?_) (fun x hx => ?_)
  ·
   rw [(List.mem_replicate.1 hs).2]
   exact b384_len 0
  ·
   obtain ⟨k, _, e⟩ := fmtW_mem hx
   rw [e]
   exact hv
 have hsec := fun i (h4 : 4 ≤ i) (h20 : i < 20) => fmt_sec n hn 16 (Nat.le_refl _) i (by omega)
 generalize sett (fun _ => 384) (fmtW (b384 0) 16) (List.replicate n sec0) = L at *
 refine ⟨_, e2, ⟨⟨rfl, rfl, ⟨hwf⟩⟩, by show 20 ≤ L.length; omega, fun i h4 h20 => ?_⟩, rfl, rfl, hlen⟩
 have h := hsec i h4 h20
 rw [if_pos (fmt_all h4 h20)] at h
 have e : secJ ⟨L, [], true, 0, 17⟩ i = ⟨layS (nextS (b384 0)) [], false⟩ := h
 rw [e]
 exact ⟨⟨_, rfl⟩, rfl, by simp⟩
/-- the journal that is opened on a formatted disk -/
theorem begin_here (n : Nat) (hn : 20 ≤ n) : ∃ S S' X, formatJ (Sp.mk0 n) = (S, 0) ∧ openK S 0 8 = (S', X, 0) ∧ HereA S' ⟨0, X⟩ (fun _ => en0) ∧ S'.left = 0 := by
 obtain ⟨S, e, t, z, _, _⟩ := format_mk0 n hn
 have hz : ∀ k, ¬ (0 : Int) < ((fun _ : Nat => en0) k).opn := fun k h => by
  have : (0 : Int) < 0 := h
  omega
 have hb : BackA S 0 (fun _ => en0) := ⟨⟨fun k _ h => absurd h (hz k), fun k _ h => absurd h (hz k), fun k _ h => absurd h (hz k), fun k _ h => absurd h (hz k)⟩, _, t, fun i _ _ => .inr (.inl rfl), fun k _ h => absurd h (hz k)⟩
 obtain ⟨o1, o2, _⟩ := openK_zero t z 0 8 (Nat.le_refl _)
 rcases back_open hb (by decide) (by decide) with ⟨S', X, e2, h⟩ | ⟨S', X, e2, _⟩
 ·
  rw [e2] at o2
  exact ⟨S, S', X, e, e2, h, o2⟩
 ·
  rw [e2] at o1
  cases o1
end Go.Proofs.YtafbeepacncooaaDoor
/-
  Where nothing rots nothing is faulty, in plain words: what a slot may be when the power goes.
-/
namespace Go.Proofs.YtafbeepacncooaaDoor
open Go.RowKit
set_option maxRecDepth 10000

theorem cr_nil {K K' : Nat → Option (List UInt8)} (h : CrK K [] K') : K' = K := by
 obtain ⟨a, b, e, h⟩ := h
 obtain ⟨rfl, rfl⟩ := List.append_eq_nil_iff.1 e.symm
 rcases h with h | ⟨x, r, q, _⟩
 ·
  exact h
 ·
  cases q
theorem cr_cons {K K' : Nat → Option (List UInt8)} {x : Lay} {r : List Lay} (h : CrK K (x :: r) K') : K' = K ∨ K' = updJ K x.1 none ∨ CrK (updJ K x.1 (some x.2.2)) r K' := by
 obtain ⟨a, b, e, h⟩ := h
 cases a with
 | nil =>
  rcases h with h | ⟨y, q, e2, h⟩
  ·
   exact .inl h
  ·
   have e3 : x :: r = y :: q := e.trans e2
   obtain ⟨rfl, rfl⟩ := List.cons.inj e3
   rcases h with h | h
   ·
    exact .inr (.inl h)
   ·
    exact .inr (.inr ⟨[], r, rfl, .inl h⟩)
 | cons y a =>
  have e3 : x :: r = y :: (a ++ b) := e
  obtain ⟨rfl, rfl⟩ := List.cons.inj e3
  exact .inr (.inr ⟨a, b, rfl, h⟩)
theorem cr_other {K K' : Nat → Option (List UInt8)} {pl : List Lay} {n : Int} {i : Nat} (h1 : i ≠ pN n) (h2 : i ≠ hN n) (ho : ofN n pl) (h : CrK K pl K') : K' i = K i := by
 obtain ⟨a, b, rfl, h⟩ := h
 have e := appK_other h1 h2 a K fun x hx => ho x (by simp [hx])
 rcases h with rfl | ⟨x, r, rfl, h⟩
 ·
  exact e
 ·
  have hx : i ≠ x.1 := by
   rcases ho x (by simp) with q | q <;> rw [q]
   ·
    exact h1
   ·
    exact h2
  rcases h with rfl | rfl
  ·
   rw [upd_off hx, e]
  ·
   rw [upd_off hx, e]
/-- what a slot may be when the power goes -/
def CO (K : Nat → Option (List UInt8)) (n : Int) : Prop :=
 (K (hN n) = none → K (pN n) ≠ none) ∧ ((sK (K (hN n))).2.1 = true → (sK (K (hN n))).1.opn = n → ∃ e : En, e.fits ∧ Rt e ∧ e.opn = n ∧ K (pN n) = some (packE e).1 ∧ stubS e = (sK (K (hN n))).1)
/-- what a slot is when the power is on -/
def EX (K : Nat → Option (List UInt8)) (n : Int) (i : It) : Prop :=
 (i = it0 ∧ K (pN n) ≠ none ∧ K (hN n) ≠ none ∧ ((eK (K (pN n))).2.1 = true → (eK (K (pN n))).1.opn ≠ n) ∧ ((sK (K (hN n))).2.1 = true → (sK (K (hN n))).1.opn ≠ n)) ∨
 (∃ e : En, e.fits ∧ Rt e ∧ e.opn = n ∧ i = ⟨1, stubS e, e⟩ ∧ K (pN n) = some (packE e).1 ∧ K (hN n) = some (stubS e).bytes)
theorem co_congr {K K' : Nat → Option (List UInt8)} {n : Int} (h1 : K' (pN n) = K (pN n)) (h2 : K' (hN n) = K (hN n)) (h : CO K n) : CO K' n := by
 unfold CO at h ⊢
 rw [h1, h2]
 exact h
theorem ex_congr {K K' : Nat → Option (List UInt8)} {n : Int} {i : It} (h1 : K' (pN n) = K (pN n)) (h2 : K' (hN n) = K (hN n)) (h : EX K n i) : EX K' n i := by
 unfold EX at h ⊢
 rw [h1, h2]
 exact h
theorem sK_own {e : En} (he : e.fits) (hr : Rt e) : sK (some (stubS e).bytes) = (stubS e, true, true) := sK_stub (stubS_fits he) (stubS_ok hr)
theorem ex_co {K : Nat → Option (List UInt8)} {n : Int} {i : It} (h : EX K n i) : CO K n := by
 rcases h with ⟨_, h1, h2, h3, h4⟩ | ⟨e, he, hr, ho, _, h1, h2⟩
 ·
  exact ⟨fun q => absurd q h2, fun q w => absurd w (h4 q)⟩
 ·
  exact ⟨fun q => (by rw [h2] at q; cases q), fun _ _ => ⟨e, he, hr, ho, h1, (by rw [h2, sK_own he hr])⟩⟩
/-- the four kinds of pairs that come up in the middle of a call -/
theorem co_h {K : Nat → Option (List UInt8)} {n : Int} (h1 : K (hN n) ≠ none) (h2 : (sK (K (hN n))).2.1 = true → (sK (K (hN n))).1.opn ≠ n) : CO K n := ⟨fun q => absurd q h1, fun q w => absurd w (h2 q)⟩
theorem co_p {K : Nat → Option (List UInt8)} {n : Int} (h1 : K (hN n) = none) (h2 : K (pN n) ≠ none) : CO K n := ⟨fun _ => h2, fun q => (by rw [h1] at q; cases q)⟩
theorem co_both {K : Nat → Option (List UInt8)} {e : En} (he : e.fits) (hr : Rt e) (h1 : K (pN e.opn) = some (packE e).1) (h2 : K (hN e.opn) = some (stubS e).bytes) : CO K e.opn := ex_co (i := ⟨1, stubS e, e⟩) (.inr ⟨e, he, hr, rfl, rfl, h1, h2⟩)
theorem co_void {K : Nat → Option (List UInt8)} {n : Int} (h : K (hN n) = some []) : CO K n := co_h (by rw [h]; simp) (fun q => by rw [h] at q; cases q)
/-! ### Put -/
/-! ### Void -/
end Go.Proofs.YtafbeepacncooaaDoor
