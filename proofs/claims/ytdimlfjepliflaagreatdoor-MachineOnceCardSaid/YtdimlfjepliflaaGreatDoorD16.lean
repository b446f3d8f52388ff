/-
  What bytes are a ledger's, in plain words; the walk of package ledger's Unpack.
-/
import Derived.Test.YtdimlfjepliflaaGreatDoorD15
import Derived.Test.YtdimlfjepliflaaGreatDoorD14
import Derived.Test.YtdimlfjepliflaaGreatDoorD10
import Derived.Deep.QuietTactic
import Derived.BigQuiet
import Derived.Test.YtdimlfjepliflaaGreatDoorD11
import Derived.Test.YtdimlfjepliflaaGreatDoorD09
namespace Go.Proofs.YtdimlfjepliflaaGreatDoor
open Go.RowKit
set_option maxRecDepth 10000

/-- so many can be taken -/
def okT (most size : Nat) (s : List UInt8) : Prop := 1 ≤ s.length ∧ num0 s ≤ most ∧ 1 + size * num0 s ≤ s.length
instance (most size : Nat) (s : List UInt8) : Decidable (okT most size s) := by unfold okT; infer_instance
def rest1 (size : Nat) (s : List UInt8) : List UInt8 := s.drop (1 + size * num0 s)
def takA (s : List UInt8) : List Ac := firstk 25 decW (s.drop 1) (num0 s)
def takT (s : List UInt8) : List Tr := firstk 32 decT (s.drop 1) (num0 s)
/-- bytes are a ledger's -/
def okU (s : List UInt8) : Prop := okT 8 25 s ∧ okT 16 32 (rest1 25 s) ∧ rest1 32 (rest1 25 s) = []
instance (s : List UInt8) : Decidable (okU s) := by unfold okU; infer_instance
def unpS (s : List UInt8) : Lg := ⟨takA s, takT (rest1 25 s)⟩
/-- no ledger -/
def UN (w : World) (e : Ending) (w' : World) : Prop := e = .returned (.tuple #[.pointer none, .int .i64 4]) ∧ Below w.heap.size w w'
/-! ### what was packed is unpacked -/
theorem pack_len (S : Lg) (h : S.WF) : S.pack.length = 2 + 25 * S.A.length + 32 * S.T.length := by
  have k1 : (S.A.flatMap acB).length = 25 * S.A.length := by
    have key : ∀ l : List Ac, (∀ x ∈ l, x.flat) → (l.flatMap acB).length = 25 * l.length := by
      intro l
      induction l with
      | nil => intro _; rfl
      | cons x r ih =>
        intro hl
        rw [List.flatMap_cons, List.length_append, ih (fun y hy => hl y (by simp [hy])), acB_len x (hl x (by simp)), List.length_cons]
        omega
    exact key _ h.oa
  have k2 : (S.T.flatMap trL).length = 32 * S.T.length := by
    have key : ∀ l : List Tr, (l.flatMap trL).length = 32 * l.length := by
      intro l
      induction l with
      | nil => rfl
      | cons x r ih =>
        rw [List.flatMap_cons, List.length_append, ih, trL_len x, List.length_cons]
        omega
    exact key _
  simp only [Lg.pack, layL, List.length_append, List.length_cons, k1, k2]
  omega
end Go.Proofs.YtdimlfjepliflaaGreatDoor
/-
  The walk of LedgerBack.
-/
namespace Go.Proofs.YtdimlfjepliflaaGreatDoor
open Go.RowKit
set_option maxRecDepth 10000

theorem doo_len (S : Lg) (op : Int) (s : List UInt8) : (S.doo op s).2.length ≤ 200 := by
  have key : ∀ {α : Type} (f : Lg → α → Lg × List UInt8) (r : List α × Bool), (∀ S x, (f S x).2.length ≤ 33) → r.1.length ≤ 4 → (eachL f S r).2.length ≤ 200 := by
    intro α f r hf hr
    unfold eachL
    split
    · have h1 := runL_len f 33 hf S r.1
      have h2 : r.1.length * 33 ≤ 4 * 33 := Nat.mul_le_mul_right _ hr
      omega
    · simp
  unfold Lg.doo
  split
  · exact key mka _ mka_len (takL_le _ _ _)
  split
  · exact key mkt _ mkt_len (takL_le _ _ _)
  split
  · exact key tela _ tela_len (takL_le _ _ _)
  split
  · exact key telt _ telt_len (takL_le _ _ _)
  · simp
end Go.Proofs.YtdimlfjepliflaaGreatDoor
/-
  The walk of the document's Do.
-/
namespace Go.Proofs.YtdimlfjepliflaaGreatDoor
open Go.RowKit
set_option maxRecDepth 10000

set_option maxHeartbeats 400000 in
theorem rdo_4_no (p : Nat) (s : ByteArray) (w : World) (hs : s.size ≤ 140737488355328) (hno : (takL 8 decI (sb s)).2 = false) :
    Calls Tryz.prog 31 #[.pointer (some ⟨p, 0, none⟩), .int .i64 4, .string s] w (SE w [1]) := by
  have HT := hid (fun W => rtaki_list s W hs)
  have HB0 : Hid (∀ W, Calls Tryz.prog 62 #[.int .i64 0] W (SE W [0])) := hid fun W => rbyte_any 0 W (by decide)
  have HB1 : Hid (∀ W, Calls Tryz.prog 62 #[.int .i64 1] W (SE W [1])) := hid fun W => rbyte_any 1 W (by decide)
  obtain ⟨⟨l, b⟩, hr⟩ : ∃ r, takL 8 decI (sb s) = r := ⟨_, rfl⟩
  rw [hr] at hno HT
  obtain rfl : b = false := hno
  have HT2 : Hid (∀ W, Calls Tryz.prog 67 #[.string s] W fun e w' => ∃ A c, e = .returned (.tuple #[.slice A l.length c, .bool false]) ∧ Below W.heap.size W w') := hid fun W => ((HT.out W).mono fun e w' ⟨A, c, h1, _, _, h2, _⟩ => ⟨A, c, h1, h2⟩)
  clear HT hr hs
  go_enter Tryz.func31, Tryz.ntmps31
  go_wp2_with (go_at_call 62; refine (HB0.out _).mono ?_; rintro e w1 ⟨rfl, hb1⟩; clear HB0)
  go_wp2_with (first
    | (go_at_call 67; refine (HT2.out _).mono ?_; rintro e w2 ⟨A, c, rfl, hb2⟩)
    | (go_at_call 62; refine (HB1.out _).mono ?_; rintro e w3 ⟨rfl, hb3⟩))
  go_ret
  exact ⟨rfl, hb1.trans ((hb2.trans (hb3.mono hb2.size)).mono hb1.size)⟩
set_option maxHeartbeats 400000 in
theorem rdo_5_no (p : Nat) (s : ByteArray) (w : World) (hs : s.size ≤ 140737488355328) (hno : (takL 8 decI (sb s)).2 = false) :
    Calls Tryz.prog 31 #[.pointer (some ⟨p, 0, none⟩), .int .i64 5, .string s] w (SE w [1]) := by
  have HT := hid (fun W => rtaki_list s W hs)
  have HB0 : Hid (∀ W, Calls Tryz.prog 62 #[.int .i64 0] W (SE W [0])) := hid fun W => rbyte_any 0 W (by decide)
  have HB1 : Hid (∀ W, Calls Tryz.prog 62 #[.int .i64 1] W (SE W [1])) := hid fun W => rbyte_any 1 W (by decide)
  obtain ⟨⟨l, b⟩, hr⟩ : ∃ r, takL 8 decI (sb s) = r := ⟨_, rfl⟩
  rw [hr] at hno HT
  obtain rfl : b = false := hno
  have HT2 : Hid (∀ W, Calls Tryz.prog 67 #[.string s] W fun e w' => ∃ A c, e = .returned (.tuple #[.slice A l.length c, .bool false]) ∧ Below W.heap.size W w') := hid fun W => ((HT.out W).mono fun e w' ⟨A, c, h1, _, _, h2, _⟩ => ⟨A, c, h1, h2⟩)
  clear HT hr hs
  go_enter Tryz.func31, Tryz.ntmps31
  go_wp2_with (go_at_call 62; refine (HB0.out _).mono ?_; rintro e w1 ⟨rfl, hb1⟩; clear HB0)
  go_wp2_with (first
    | (go_at_call 67; refine (HT2.out _).mono ?_; rintro e w2 ⟨A, c, rfl, hb2⟩)
    | (go_at_call 62; refine (HB1.out _).mono ?_; rintro e w3 ⟨rfl, hb3⟩))
  go_ret
  exact ⟨rfl, hb1.trans ((hb2.trans (hb3.mono hb2.size)).mono hb1.size)⟩
end Go.Proofs.YtdimlfjepliflaaGreatDoor
/-
  The walk of the document's Unpack.
-/
namespace Go.Proofs.YtdimlfjepliflaaGreatDoor
open Go.RowKit
set_option maxRecDepth 10000

/-- a ledger, or none -/
def RU (w : World) (s : List UInt8) (e : Ending) (w' : World) : Prop := (okU s → NG 57 w (unpS s) (fun p => .tuple #[.pointer (some ⟨p, 0, none⟩), .int .i64 0]) e w') ∧ (¬ okU s → UN w e w')
theorem RU.no {w w' : World} {s : List UInt8} (h : ¬ okU s) (hb : Below w.heap.size w w') : RU w s (.returned (.tuple #[.pointer none, .int .i64 4])) w' := ⟨fun q => absurd q h, fun _ => ⟨rfl, hb⟩⟩
end Go.Proofs.YtdimlfjepliflaaGreatDoor
/-
  A machine in plain words, but for its mark: what an entry does to its sessions and its ledger, what is told.
-/
namespace Go.Proofs.YtdimlfjepliflaaGreatDoor
open Go.RowKit
set_option maxRecDepth 10000

/-- what a client is told -/
structure An where
  kind : Int
  client : Int
  session : Int
  request : Int
  opn : Int
  body : ByteArray
def An.cells (a : An) : Array Value := #[.int .i64 a.kind, .int .i64 a.client, .int .i64 a.session, .int .i64 a.request, .int .i64 a.opn, .string a.body]
def an0 : An := ⟨0, 0, 0, 0, 0, ⟨#[]⟩⟩
/-- a session's last reply -/
def told (x : Ss) : An := ⟨1, x.c, x.s, x.r, x.o, x.t⟩
structure Mw where
  T : List Ss
  B : Lg
def mw0 : Mw := ⟨[], Lg.nil⟩
/-- the client's session -/
def Mw.his (M : Mw) (c : Int) : Ss := at_8 M.T (pl M.T c)
/-- what the ledger answers -/
def Mw.ans (M : Mw) (op : Int) (t : ByteArray) : ByteArray := ⟨(M.B.doo op (sb t)).2.toArray⟩
/-- what an entry does: of the client c in its session s the request r, the operation op with the body t, in the place o -/
def Mw.does (M : Mw) (c s r op o : Int) (t : ByteArray) : Mw × An :=
  if op = 1 then
    if pl M.T c < M.T.length then (M, if (M.his c).r = 0 then told (M.his c) else an0)
    else (⟨opn M.T c o, M.B⟩, ⟨1, c, o, 0, o, ⟨#[]⟩⟩)
  else if ver M.T c s r = 5 then (M, ⟨2, c, s, r, o, ⟨#[]⟩⟩)
  else if ver M.T c s r = 1 then (⟨note M.T c r o (M.ans op t), (M.B.doo op (sb t)).1⟩, ⟨1, c, s, r, o, M.ans op t⟩)
  else if ver M.T c s r = 2 then (M, told (M.his c))
  else (M, an0)
structure Mw.WF (M : Mw) : Prop where
  t : Go.Proofs.YtdimlfjepliflaaGreatDoor.WF M.T
  one : One M.T
  b : M.B.WF
  g : M.B.Good
theorem mw0_wf : mw0.WF := ⟨nil_wf, nil_one, Lg.nil_wf, Lg.nil_good⟩
theorem Mw.does_wf {M : Mw} (h : M.WF) (c s r op o : Int) (t : ByteArray) : (M.does c s r op o t).1.WF := by
  unfold Mw.does
  by_cases h1 : op = 1
  · rw [if_pos h1]
    by_cases h2 : pl M.T c < M.T.length
    · rw [if_pos h2]; exact h
    · rw [if_neg h2]; exact ⟨opn_wf h.t _ _, opn_one h.one _ _, h.b, h.g⟩
  · rw [if_neg h1]
    by_cases h3 : ver M.T c s r = 5
    · rw [if_pos h3]; exact h
    · rw [if_neg h3]
      by_cases h4 : ver M.T c s r = 1
      · rw [if_pos h4]
        have hone : One (note M.T c r o (M.ans op t)) := by
          have := doo_one h.one ⟨2, c, 0, r, o, M.ans op t⟩
          exact this
        exact ⟨note_wf h.t _ _ _ _, hone, Lg.doo_wf h.b _ _, Lg.doo_good h.g _ _⟩
      · rw [if_neg h4]
        by_cases h5 : ver M.T c s r = 2
        · rw [if_pos h5]; exact h
        · rw [if_neg h5]; exact h
theorem Mw.ans_len (M : Mw) (op : Int) (t : ByteArray) : (M.ans op t).size ≤ 200 := by
  have h := doo_len M.B op (sb t)
  have e : sb (M.ans op t) = (M.B.doo op (sb t)).2 := sb_mk _
  rw [← sb_len, e]
  exact h
/-- a request that is Fresh is of a client that has a session -/
theorem ver_here {T : List Ss} {c s r : Int} (h : ver T c s r ≠ 5) : pl T c < T.length ∧ (at_8 T (pl T c)).s = s := by
  unfold ver at h
  by_cases h1 : pl T c < T.length
  · by_cases h2 : (at_8 T (pl T c)).s = s
    · exact ⟨h1, h2⟩
    · rw [if_neg (fun q => q h1), if_pos h2] at h
      exact absurd rfl h
  · rw [if_pos h1] at h
    exact absurd rfl h
theorem ver_fresh_iff {T : List Ss} {c s r : Int} : ver T c s r = 1 ↔ pl T c < T.length ∧ (at_8 T (pl T c)).s = s ∧ r = (at_8 T (pl T c)).r + 1 := by
  constructor
  · intro h
    obtain ⟨h1, h2⟩ := ver_here (T := T) (c := c) (s := s) (r := r) (by rw [h]; decide)
    refine ⟨h1, h2, ?_⟩
    unfold ver at h
    rw [if_neg (fun q => q h1), if_neg (fun q => q h2)] at h
    by_cases h3 : r = (at_8 T (pl T c)).r + 1
    · exact h3
    · rw [if_neg h3] at h
      split at h
      · exact absurd h (by decide)
      · split at h <;> exact absurd h (by decide)
  · rintro ⟨h1, h2, h3⟩
    unfold ver
    rw [if_neg (fun q => q h1), if_neg (fun q => q h2), if_pos h3]
/-- a Fresh request of numbers that may be is noted -/
theorem note_fresh {M : Mw} {c s r o op : Int} {t : ByteArray} (hv : ver M.T c s r = 1) (hr : Fit r) (ho : Fit o) : notE M.T c r o (M.ans op t) = 0 := by
  obtain ⟨h1, _, _⟩ := ver_fresh_iff.1 hv
  have := M.ans_len op t
  unfold notE
  rw [if_neg (fun q => q h1), if_neg (by omega), if_neg (by omega)]
/-- a place that is opened for a client without a session -/
theorem opn_new {T : List Ss} {c o : Int} (h : ¬ pl T c < T.length) (hc : Fit1 c) (ho : Fit1 o) : opnE T c o = 0 := by
  unfold opnE
  rw [if_neg (by omega), if_neg h]
/-! ### as bytes -/
/-- a text behind its length -/
def txt (l : List UInt8) : List UInt8 := le l.length 2 ++ l
/-- a machine whose mark has these three numbers -/
def packM (op view sum : Nat) (M : Mw) : List UInt8 := le op 8 ++ le view 8 ++ le sum 8 ++ txt (pack M.T) ++ txt M.B.pack
theorem pack8_le {T : List Ss} (h : WF T) : (pack T).length ≤ 703 := by
  have hl := h.le
  have key : ∀ l : List Ss, (∀ x ∈ l, x.ok) → (l.flatMap ssB).length ≤ 234 * l.length := by
    intro l
    induction l with
    | nil => intro _; simp
    | cons x l ih =>
      intro hx
      have h1 := ih (fun y hy => hx y (List.mem_cons_of_mem _ hy))
      have h2 := (hx x (List.mem_cons_self ..)).t
      rw [List.flatMap_cons, List.length_append, ssB_len, List.length_cons]
      omega
  have := key T h.ok
  unfold pack
  rw [List.length_cons]
  omega
end Go.Proofs.YtdimlfjepliflaaGreatDoor
/-
  A request takes effect at most once, in plain words: what was told of each request that was done, and what is told of it again.
-/
namespace Go.Proofs.YtdimlfjepliflaaGreatDoor
open Go.RowKit
set_option maxRecDepth 10000

/-- what an entry brings -/
structure Rq where
  c : Int
  s : Int
  r : Int
  op : Int
  t : ByteArray
def Rq.ok (q : Rq) : Prop := Fit1 q.c ∧ Fit q.s ∧ Fit q.r
def Mw.doq (M : Mw) (q : Rq) (o : Int) : Mw × An := M.does q.c q.s q.r q.op o q.t
theorem one_eq {T : List Ss} (h : One T) {x y : Ss} (hx : x ∈ T) (hy : y ∈ T) (e : x.c = y.c) : x = y := by
  obtain ⟨i, hi, rfl⟩ := List.getElem_of_mem hx
  obtain ⟨j, hj, rfl⟩ := List.getElem_of_mem hy
  have := h i j hi hj e
  subst this
  rfl
theorem his_mem {M : Mw} {c : Int} (h : pl M.T c < M.T.length) : M.his c ∈ M.T ∧ (M.his c).c = c := by
  unfold Mw.his
  rw [at_get h]
  exact ⟨List.getElem_mem h, pl_here h⟩
/-- what is known behind the place o of the table, and of what was told (D: who asked what, and what was told) -/
structure Inv (M : Mw) (o : Int) (D : List (Rq × An)) : Prop where
  wf : M.WF
  t : ∀ x ∈ M.T, x.s ≤ o ∧ x.o ≤ o
  shape : ∀ d ∈ D, d.2.client = d.1.c ∧ d.2.session ≤ o ∧ (d.1.op = 1 → d.2.request = 0) ∧ (d.1.op ≠ 1 → d.2.session = d.1.s ∧ d.2.request = d.1.r)
  last : ∀ d ∈ D, ∀ x ∈ M.T, x.c = d.1.c → x.s = d.2.session → d.2.request ≤ x.r ∧ (x.r = d.2.request → told x = d.2)
theorem inv0 : Inv mw0 0 [] := ⟨mw0_wf, by intro x hx; simp [mw0] at hx, by simp, by simp⟩
/-- the next place, nothing done -/
theorem Inv.more {M : Mw} {o : Int} {D : List (Rq × An)} (h : Inv M o D) : Inv M (o + 1) D :=
  ⟨h.wf, fun x hx => by have := h.t x hx; omega, fun d hd => by obtain ⟨a, b, c⟩ := h.shape d hd; exact ⟨a, by omega, c⟩, h.last⟩
/-- it took effect -/
def Eff (a : An) (o : Int) : Prop := a.kind = 1 ∧ a.opn = o
instance (a : An) (o : Int) : Decidable (Eff a o) := by unfold Eff; infer_instance
def grow (D : List (Rq × An)) (q : Rq) (a : An) (o : Int) : List (Rq × An) := if Eff a o then D ++ [(q, a)] else D
theorem grow_no {D : List (Rq × An)} {q : Rq} {a : An} {o : Int} (h : ¬ Eff a o) : grow D q a o = D := if_neg h
theorem grow_yes {D : List (Rq × An)} {q : Rq} {a : An} {o : Int} (h : Eff a o) : grow D q a o = D ++ [(q, a)] := if_pos h
theorem an0_no (o : Int) : ¬ Eff an0 o := fun h => absurd h.1 (by decide)
theorem Inv.step {M : Mw} {o : Int} {D : List (Rq × An)} (h : Inv M o D) (q : Rq) (hq : q.ok) (h0 : 0 ≤ o) (ho : o + 1 ≤ 72057594037927935) :
    Inv (M.doq q (o + 1)).1 (o + 1) (grow D q (M.doq q (o + 1)).2 (o + 1)) := by
  have hwf := Mw.does_wf (M := M) h.wf q.c q.s q.r q.op (o + 1) q.t
  obtain ⟨q1, q2, q3⟩ := hq
  have hold : ∀ x ∈ M.T, ¬ Eff (told x) (o + 1) := fun x hx e => by
    have h1 := (h.t x hx).2
    have h2 : x.o = o + 1 := e.2
    omega
  unfold Mw.doq at hwf ⊢
  unfold Mw.does at hwf ⊢
  by_cases c1 : q.op = 1
  · rw [if_pos c1] at hwf ⊢
    by_cases c2 : pl M.T q.c < M.T.length
    · rw [if_pos c2] at hwf ⊢
      by_cases c3 : (M.his q.c).r = 0
      · rw [if_pos c3] at hwf ⊢
        rw [grow_no (hold _ (his_mem c2).1)]
        exact h.more
      · rw [if_neg c3] at hwf ⊢
        rw [grow_no (an0_no _)]
        exact h.more
    · rw [if_neg c2] at hwf ⊢
      rw [grow_yes ⟨rfl, rfl⟩]
      have he := opn_new c2 q1 (show Fit1 (o + 1) by omega)
      have hT : opn M.T q.c (o + 1) = room M.T ++ [fresh q.c (o + 1)] := by unfold opn; rw [if_pos he]
      have hmem : ∀ x ∈ opn M.T q.c (o + 1), x ∈ M.T ∨ x = fresh q.c (o + 1) := fun x hx => by
        rw [hT] at hx
        rcases List.mem_append.1 hx with hx | hx
        · exact .inl (room_sub hx)
        · exact .inr (List.mem_singleton.1 hx)
      refine ⟨hwf, fun x hx => ?_, fun d hd => ?_, fun d hd x hx e1 e2 => ?_⟩
      · rcases hmem x hx with hx | rfl
        · have := h.t x hx; omega
        · exact ⟨Int.le_refl _, Int.le_refl _⟩
      · rcases List.mem_append.1 hd with hd | hd
        · obtain ⟨a, b, c⟩ := h.shape d hd
          exact ⟨a, by omega, c⟩
        · obtain rfl := List.mem_singleton.1 hd
          exact ⟨rfl, Int.le_refl _, fun _ => rfl, fun c => absurd c1 c⟩
      · rcases List.mem_append.1 hd with hd | hd
        · rcases hmem x hx with hx | rfl
          · exact h.last d hd x hx e1 e2
          · have := (h.shape d hd).2.1
            have e3 : o + 1 = d.2.session := e2
            omega
        · obtain rfl := List.mem_singleton.1 hd
          rcases hmem x hx with hx | rfl
          · have := (h.t x hx).1
            have e3 : x.s = o + 1 := e2
            omega
          · exact ⟨Int.le_refl _, fun _ => rfl⟩
  · rw [if_neg c1] at hwf ⊢
    by_cases c5 : ver M.T q.c q.s q.r = 5
    · rw [if_pos c5] at hwf ⊢
      rw [grow_no (fun e => absurd (show (2 : Int) = 1 from e.1) (by decide))]
      exact h.more
    rw [if_neg c5] at hwf ⊢
    obtain ⟨p1, p2⟩ := ver_here c5
    have p2 : (M.his q.c).s = q.s := p2
    obtain ⟨m1, m2⟩ := his_mem p1
    by_cases c3 : ver M.T q.c q.s q.r = 1
    · rw [if_pos c3] at hwf ⊢
      rw [grow_yes ⟨rfl, rfl⟩]
      have p3 : q.r = (M.his q.c).r + 1 := (ver_fresh_iff.1 c3).2.2
      have he := note_fresh (M := M) (op := q.op) (t := q.t) c3 q3 (show Fit (o + 1) by omega)
      generalize M.ans q.op q.t = A at hwf he ⊢
      have hT : note M.T q.c q.r (o + 1) A = M.T.set (pl M.T q.c) (noted (M.his q.c) q.r (o + 1) A) := by unfold note; rw [if_pos he]; rfl
      have hY : noted (M.his q.c) q.r (o + 1) A ∈ note M.T q.c q.r (o + 1) A := by
        rw [hT]
        exact List.mem_set p1 _
      have hmem : ∀ x ∈ note M.T q.c q.r (o + 1) A, x ∈ M.T ∨ x = noted (M.his q.c) q.r (o + 1) A := fun x hx => by
        rw [hT] at hx
        exact List.mem_or_eq_of_mem_set hx
      have hone := hwf.one
      refine ⟨hwf, fun x hx => ?_, fun d hd => ?_, fun d hd x hx e1 e2 => ?_⟩
      · rcases hmem x hx with hx | rfl
        · have := h.t x hx; omega
        · have := (h.t _ m1).1
          exact ⟨by show (M.his q.c).s ≤ o + 1; omega, Int.le_refl _⟩
      · rcases List.mem_append.1 hd with hd | hd
        · obtain ⟨a, b, c⟩ := h.shape d hd
          exact ⟨a, by omega, c⟩
        · obtain rfl := List.mem_singleton.1 hd
          have := (h.t _ m1).1
          exact ⟨rfl, by show q.s ≤ o + 1; omega, fun c => absurd c c1, fun _ => ⟨rfl, rfl⟩⟩
      · rcases List.mem_append.1 hd with hd | hd
        · rcases hmem x hx with hx | rfl
          · exact h.last d hd x hx e1 e2
          · obtain ⟨k1, k2⟩ := h.last d hd _ m1 e1 e2
            have e4 : (noted (M.his q.c) q.r (o + 1) A).r = (M.his q.c).r + 1 := p3
            exact ⟨by omega, fun e => by omega⟩
        · obtain rfl := List.mem_singleton.1 hd
          have e5 : x = noted (M.his q.c) q.r (o + 1) A := one_eq hone hx hY (by show x.c = (M.his q.c).c; rw [m2]; exact e1)
          subst e5
          refine ⟨Int.le_refl _, fun _ => ?_⟩
          show (⟨1, (M.his q.c).c, (M.his q.c).s, q.r, o + 1, A⟩ : An) = ⟨1, q.c, q.s, q.r, o + 1, A⟩
          rw [m2, p2]
    · rw [if_neg c3] at hwf ⊢
      by_cases c4 : ver M.T q.c q.s q.r = 2
      · rw [if_pos c4] at hwf ⊢
        rw [grow_no (hold _ m1)]
        exact h.more
      · rw [if_neg c4] at hwf ⊢
        rw [grow_no (an0_no _)]
        exact h.more
/-- a request that took effect, once more, while its session is there: the ledger stays; the same is told, if it is the session's last one, else nothing -/
theorem Inv.again {M : Mw} {o : Int} {D : List (Rq × An)} (h : Inv M o D) (d : Rq × An) (hd : d ∈ D) (hp : pl M.T d.1.c < M.T.length) (hs : (M.his d.1.c).s = d.2.session) (o' : Int) :
    (M.doq d.1 o').1 = M ∧ (M.doq d.1 o').2 = if (M.his d.1.c).r = d.2.request then d.2 else an0 := by
  obtain ⟨m1, m2⟩ := his_mem hp
  obtain ⟨k1, k2⟩ := h.last d hd _ m1 m2 hs
  obtain ⟨_, _, s1, s2⟩ := h.shape d hd
  unfold Mw.doq Mw.does
  by_cases c1 : d.1.op = 1
  · rw [if_pos c1, if_pos hp]
    refine ⟨rfl, ?_⟩
    have e := s1 c1
    by_cases c2 : (M.his d.1.c).r = 0
    · rw [if_pos c2, if_pos (by omega)]
      exact k2 (by omega)
    · rw [if_neg c2, if_neg (by omega)]
  · obtain ⟨e1, e2⟩ := s2 c1
    have hv : ver M.T d.1.c d.1.s d.1.r = if d.1.r = (M.his d.1.c).r + 1 then 1 else if d.1.r = (M.his d.1.c).r then 2 else if d.1.r < (M.his d.1.c).r then 3 else 4 := by
      have hs2 : (at_8 M.T (pl M.T d.1.c)).s = d.1.s := by rw [← e1]; exact hs
      unfold ver
      rw [if_neg (fun q => q hp), if_neg (fun q => q hs2)]
      rfl
    rw [if_neg c1]
    by_cases c2 : (M.his d.1.c).r = d.2.request
    · have hv2 : ver M.T d.1.c d.1.s d.1.r = 2 := by rw [hv, if_neg (by omega), if_pos (by omega)]
      rw [hv2, if_neg (by decide), if_neg (by decide), if_pos rfl, if_pos c2]
      exact ⟨rfl, k2 c2⟩
    · have hv3 : ver M.T d.1.c d.1.s d.1.r = 3 := by rw [hv, if_neg (by omega), if_neg (by omega), if_pos (by omega)]
      rw [hv3, if_neg (by decide), if_neg (by decide), if_neg (by decide), if_neg c2]
      exact ⟨rfl, rfl⟩
end Go.Proofs.YtdimlfjepliflaaGreatDoor
/-
  A machine in memory: its own cells, its table of sessions, its ledger, apart; what a call of one of them leaves alone.
-/
namespace Go.Proofs.YtdimlfjepliflaaGreatDoor
open Go.RowKit
set_option maxRecDepth 10000

/-- the machine M lies at p: its own cells C (type XM), its table at ps (type XS), its ledger at pb (type XB), in the blocks fp -/
def Gm (XM XS XB p ps pb : Nat) (C : List Value) (M : Mw) (fp : List Nat) (w : World) : Prop :=
  ∃ fs fb, fp = p :: (fs ++ fb) ∧ Row w p XM C ∧ Gk8 XS ps M.T fs w ∧ Gk XB pb M.B fb w ∧ p ∉ fs ∧ p ∉ fb ∧ ∀ b ∈ fs, b ∉ fb
/-- since w, where it lay in fp, the machine is so now -/
def Gmw (XM XS XB p ps pb : Nat) (w : World) (fp : List Nat) (C : List Value) (M : Mw) (wr : World) : Prop :=
  ∃ fq, Gm XM XS XB p ps pb C M fq wr ∧ Fr w wr fp ∧ ∀ g ∈ fq, g ∈ fp ∨ w.heap.size ≤ g
section
variable {XM XS XB p ps pb : Nat} {C C' : List Value} {M M' : Mw} {fp fq : List Nat} {w w' w'' : World} {P : Program} {f : FuncId} {args : Array Value} {v : Ending}
theorem Gm.row (h : Gm XM XS XB p ps pb C M fp w) : Row w p XM C := by obtain ⟨_, _, _, h, _⟩ := h; exact h
theorem Gm.s (h : Gm XM XS XB p ps pb C M fp w) : ∃ fs, Gk8 XS ps M.T fs w := by obtain ⟨fs, _, _, _, h, _⟩ := h; exact ⟨fs, h⟩
theorem Gm.b (h : Gm XM XS XB p ps pb C M fp w) : ∃ fb, Gk XB pb M.B fb w := by obtain ⟨_, fb, _, _, _, h, _⟩ := h; exact ⟨fb, h⟩
theorem Gm.lt (h : Gm XM XS XB p ps pb C M fp w) : ∀ b ∈ fp, b < w.heap.size := by
  obtain ⟨fs, fb, rfl, h1, h2, h3, _⟩ := h
  intro b hb
  rcases List.mem_cons.1 hb with rfl | hb
  · exact h1.lt
  · rcases List.mem_append.1 hb with hb | hb
    · exact h2.lt b hb
    · exact h3.lt b hb
theorem Gm.fr (h : Gm XM XS XB p ps pb C M fp w) (hf : Fr w w' fq) (hd : ∀ b ∈ fp, b ∉ fq) : Gm XM XS XB p ps pb C M fp w' := by
  obtain ⟨fs, fb, rfl, h1, h2, h3, h4, h5, h6⟩ := h
  exact ⟨fs, fb, rfl, hf.row h1 (hd p (by simp)), h2.fr hf (fun b hb => hd b (by simp [hb])), h3.fr hf (fun b hb => hd b (by simp [hb])), h4, h5, h6⟩
theorem Gm.below (h : Gm XM XS XB p ps pb C M fp w) (hb : Below w.heap.size w w') : Gm XM XS XB p ps pb C M fp w' := h.fr (Fr.of_below hb) (by simp)
theorem Gmw.start (h : Gm XM XS XB p ps pb C M fp w) : Gmw XM XS XB p ps pb w fp C M w := ⟨fp, h, Fr.refl _ _, fun _ hg => .inl hg⟩
theorem Gmw.frame (h : Gmw XM XS XB p ps pb w fp C M w') : Fr w w' fp := by obtain ⟨_, _, h, _⟩ := h; exact h
theorem Gmw.size (h : Gmw XM XS XB p ps pb w fp C M w') : w.heap.size ≤ w'.heap.size := h.frame.size
theorem Gmw.row (h : Gmw XM XS XB p ps pb w fp C M w') : Row w' p XM C := by obtain ⟨_, h, _⟩ := h; exact h.row
theorem Gmw.kept (h : Gmw XM XS XB p ps pb w fp C M w') (hf : Fr w' w'' []) : Gmw XM XS XB p ps pb w fp C M w'' := by
  obtain ⟨fq, h1, h2, h3⟩ := h
  exact ⟨fq, h1.fr hf (by simp), h2.trans hf (by simp), h3⟩
theorem Gmw.below (h : Gmw XM XS XB p ps pb w fp C M w') (hb : Below w'.heap.size w' w'') : Gmw XM XS XB p ps pb w fp C M w'' := h.kept (Fr.of_below hb)
theorem Gmw.alloc (h : Gmw XM XS XB p ps pb w fp C M w') (o : Obj) : Gmw XM XS XB p ps pb w fp C M (w'.alloc o) := h.kept ((Fr.refl _ _).alloc o)
/-- one thing behind another -/
theorem Gmw.step (h : Gmw XM XS XB p ps pb w fp C M w') (hn : ∀ fq, Gm XM XS XB p ps pb C M fq w' → Gmw XM XS XB p ps pb w' fq C' M' w'') : Gmw XM XS XB p ps pb w fp C' M' w'' := by
  obtain ⟨fq, h1, h2, h3⟩ := h
  obtain ⟨fr, k1, k2, k3⟩ := hn fq h1
  have hs := h2.size
  refine ⟨fr, k1, h2.trans k2 (fun b hb hlt => ?_), fun g hg => ?_⟩
  · rcases h3 b hb with h | h
    · exact h
    · omega
  · rcases k3 g hg with h | h
    · exact h3 g h
    · exact .inr (by omega)
/-- its own cells are written -/
theorem Gm.turn (h : Gm XM XS XB p ps pb C M fp w) (hr : Row w' p XM C') (hg : w.grownBy w' (some p)) : Gmw XM XS XB p ps pb w fp C' M w' := by
  obtain ⟨fs, fb, rfl, h1, h2, h3, h4, h5, h6⟩ := h
  have hf : Fr w w' [p] := (Fr.refl w [p]).grown hg (fun k hk => .inl (by cases hk; simp))
  refine ⟨p :: (fs ++ fb), ⟨fs, fb, rfl, hr, h2.fr hf (fun b hb hn => ?_), h3.fr hf (fun b hb hn => ?_), h4, h5, h6⟩, hf.mono (fun b hb => ?_), fun g hg => .inl hg⟩
  · rw [List.mem_singleton.1 hn] at hb; exact h4 hb
  · rw [List.mem_singleton.1 hn] at hb; exact h5 hb
  · rw [List.mem_singleton.1 hb]; simp
/-- a call of its table, as a step of a walk: the table's contract, wherever it lies -/
theorem Gmw.call_s {T' : List Ss} (h : Gmw XM XS XB p ps pb w fp C M w') (H : ∀ fs, Gk8 XS ps M.T fs w' → Calls P f args w' fun e w'' => e = v ∧ Gw8 XS ps w' fs T' w'') :
    Calls P f args w' fun e w'' => e = v ∧ Gmw XM XS XB p ps pb w fp C ⟨T', M.B⟩ w'' := by
  obtain ⟨fq, h1, h2, h3⟩ := h
  obtain ⟨fs, fb, rfl, k1, k2, k3, k4, k5, k6⟩ := h1
  refine (H fs k2).mono fun e w'' hh => ⟨hh.1, ?_⟩
  have hg : Gmw XM XS XB p ps pb w' (p :: (fs ++ fb)) C ⟨T', M.B⟩ w'' := by
    obtain ⟨ft, j1, j2, j3⟩ := hh.2
    have l1 := k1.lt
    have l3 := k3.lt
    refine ⟨p :: (ft ++ fb), ⟨ft, fb, rfl, j2.row k1 k4, j1, k3.fr j2 (fun b hb hn => k6 b hn hb), fun hp => ?_, k5, fun b hb hn => ?_⟩, j2.mono (fun b hb => by simp [hb]), fun g hg => ?_⟩
    · rcases j3 p hp with h | h
      · exact k4 h
      · omega
    · rcases j3 b hb with h | h
      · exact k6 b h hn
      · have := l3 b hn; omega
    · rcases List.mem_cons.1 hg with rfl | hg
      · exact .inl (by simp)
      · rcases List.mem_append.1 hg with hg | hg
        · rcases j3 g hg with h | h
          · exact .inl (by simp [h])
          · exact .inr h
        · exact .inl (by simp [hg])
  obtain ⟨fr, j1, j2, j3⟩ := hg
  have hs := h2.size
  refine ⟨fr, j1, h2.trans j2 (fun b hb hlt => ?_), fun g hg => ?_⟩
  · rcases h3 b hb with h | h
    · exact h
    · omega
  · rcases j3 g hg with h | h
    · exact h3 g h
    · exact .inr (by omega)
/-- a call of its ledger -/
theorem Gmw.call_b {B' : Lg} (h : Gmw XM XS XB p ps pb w fp C M w') (H : ∀ fb, Gk XB pb M.B fb w' → Calls P f args w' fun e w'' => e = v ∧ Gw XB pb w' fb B' w'') :
    Calls P f args w' fun e w'' => e = v ∧ Gmw XM XS XB p ps pb w fp C ⟨M.T, B'⟩ w'' := by
  obtain ⟨fq, h1, h2, h3⟩ := h
  obtain ⟨fs, fb, rfl, k1, k2, k3, k4, k5, k6⟩ := h1
  refine (H fb k3).mono fun e w'' hh => ⟨hh.1, ?_⟩
  have hg : Gmw XM XS XB p ps pb w' (p :: (fs ++ fb)) C ⟨M.T, B'⟩ w'' := by
    obtain ⟨ft, j1, j2, j3⟩ := hh.2
    have l1 := k1.lt
    have l2 := k2.lt
    refine ⟨p :: (fs ++ ft), ⟨fs, ft, rfl, j2.row k1 k5, k2.fr j2 (fun b hb hn => k6 b hb hn), j1, k4, fun hp => ?_, fun b hb hn => ?_⟩, j2.mono (fun b hb => by simp [hb]), fun g hg => ?_⟩
    · rcases j3 p hp with h | h
      · exact k5 h
      · omega
    · rcases j3 b hn with h | h
      · exact k6 b hb h
      · have := l2 b hb; omega
    · rcases List.mem_cons.1 hg with rfl | hg
      · exact .inl (by simp)
      · rcases List.mem_append.1 hg with hg | hg
        · exact .inl (by simp [hg])
        · rcases j3 g hg with h | h
          · exact .inl (by simp [h])
          · exact .inr h
  obtain ⟨fr, j1, j2, j3⟩ := hg
  have hs := h2.size
  refine ⟨fr, j1, h2.trans j2 (fun b hb hlt => ?_), fun g hg => ?_⟩
  · rcases h3 b hb with h | h
    · exact h
    · omega
  · rcases j3 g hg with h | h
    · exact h3 g h
    · exact .inr (by omega)
/-- its own cells are written, behind other things -/
theorem Gmw.turn (h : Gmw XM XS XB p ps pb w fp C M w') (hr : Row w'' p XM C') (hg : w'.grownBy w'' (some p)) : Gmw XM XS XB p ps pb w fp C' M w'' := h.step (fun _ hk => hk.turn hr hg)
/-- a law's own machine -/
def Sm (w0 : World) (XM XS XB p ps pb : Nat) (C : List Value) (M : Mw) (w : World) : Prop := ∃ fp, Gm XM XS XB p ps pb C M fp w ∧ (∀ b ∈ fp, w0.heap.size ≤ b) ∧ Below w0.heap.size w0 w
theorem Sm.frame {w0 : World} (h : Sm w0 XM XS XB p ps pb C M w) : Below w0.heap.size w0 w := by obtain ⟨_, _, _, h⟩ := h; exact h
theorem Sm.row {w0 : World} (h : Sm w0 XM XS XB p ps pb C M w) : Row w p XM C := by obtain ⟨_, h, _⟩ := h; exact h.row
theorem Sm.below {w0 : World} (h : Sm w0 XM XS XB p ps pb C M w) (hb : Below w.heap.size w w') : Sm w0 XM XS XB p ps pb C M w' := by
  obtain ⟨fp, h1, h2, h3⟩ := h
  exact ⟨fp, h1.below hb, h2, h3.trans (hb.mono h3.size)⟩
theorem Sm.gw {w0 : World} {fp : List Nat} (h1 : ∀ b ∈ fp, w0.heap.size ≤ b) (h2 : Below w0.heap.size w0 w) (h : Gmw XM XS XB p ps pb w fp C M w') : Sm w0 XM XS XB p ps pb C M w' := by
  obtain ⟨fq, k1, k2, k3⟩ := h
  refine ⟨fq, k1, fun b hb => ?_, h2.trans (k2.below h1 h2.size)⟩
  rcases k3 b hb with h | h
  · exact h1 b h
  · exact Nat.le_trans h2.size h
theorem Sm.call {w0 : World} (h : Sm w0 XM XS XB p ps pb C M w) (H : ∀ fp, Gm XM XS XB p ps pb C M fp w → Calls P f args w fun e w' => e = v ∧ Gmw XM XS XB p ps pb w fp C' M' w') : Calls P f args w fun e w' => e = v ∧ Sm w0 XM XS XB p ps pb C' M' w' := by
  obtain ⟨fp, h1, h2, h3⟩ := h
  exact (H fp h1).mono fun e w' hh => ⟨hh.1, Sm.gw h2 h3 hh.2⟩
end
end Go.Proofs.YtdimlfjepliflaaGreatDoor
/-
  The document's Do of the questions: all that was there stays as it is.
-/
namespace Go.Proofs.YtdimlfjepliflaaGreatDoor
open Go.RowKit
set_option maxRecDepth 10000

theorem tela_same (S : Lg) (id : Nat) : (tela S id).1 = S := by unfold tela; split <;> rfl
theorem run_tela (S : Lg) : ∀ l : List Nat, (runL tela S l).1 = S := by
  intro l
  have key : ∀ k, (runL tela S (l.take k)).1 = S := by
    intro k
    induction k with
    | zero => rfl
    | succ k ih =>
      by_cases h : k < l.length
      · rw [runL_take tela S l k h]
        show (tela (runL tela S (l.take k)).1 l[k]).1 = S
        rw [ih, tela_same]
      · rw [List.take_of_length_le (by omega), ← List.take_of_length_le (show l.length ≤ k by omega)]
        exact ih
  have := key l.length
  rw [List.take_length] at this
  exact this
theorem rfindB_4 (p : Nat) (fp : List Nat) (S : Lg) (id : Nat) (w : World) (h : Gk 57 p S fp w) : Calls Tryz.prog 68 #[.pointer (some ⟨p, 0, none⟩), .int .i64 4, .int .u64 (id : Int)] w (SE w (tela S id).2) := by
  obtain ⟨va, vt, rfl, h⟩ := h
  unfold tela
  by_cases hk : S.fa id < S.A.length
  · rw [if_pos hk]
    exact rfind_4y p va vt S id w h hk
  · rw [if_neg hk]
    exact rfind_4n p va vt S id w h hk
set_option maxHeartbeats 1000000 in
theorem rdoB_4_yes (p : Nat) (fp : List Nat) (S : Lg) (s : ByteArray) (w : World) (hs : s.size ≤ 140737488355328) (h : Gk 57 p S fp w) (l : List Nat) (hr : takL 8 decI (sb s) = (l, true)) :
    Calls Tryz.prog 31 #[.pointer (some ⟨p, 0, none⟩), .int .i64 4, .string s] w (SE w (runL tela S l).2) := by
  have HT := hid (fun W => rtaki_list s W hs)
  have HB0 : Hid (∀ W, Calls Tryz.prog 62 #[.int .i64 0] W (SE W [0])) := hid fun W => rbyte_any 0 W (by decide)
  have hle := takL_le 8 decI (sb s)
  have hok := takL_all (n := 8) (s := sb s) (ok := U64) decI_ok
  rw [hr] at HT hle hok
  simp only at hle hok
  obtain ⟨n, hn⟩ : ∃ n, n = l.length := ⟨_, rfl⟩
  have HT2 : Hid (∀ W, Calls Tryz.prog 67 #[.string s] W fun e w' => ∃ A c, e = .returned (.tuple #[.slice A n c, .bool true]) ∧ n ≤ c ∧ Rd w' w'.heap.size A (rows Ic l) ∧ Below W.heap.size W w' ∧ NewA W A) := hid (by rw [hn]; exact HT.out)
  rw [← hn] at hle
  have HN := hid hn
  have HOK := hid (fun k (hk : k < l.length) => hok l[k] (List.getElem_mem hk))
  have HH := hid h
  have HEND : Hid (runL tela S (l.take n) = runL tela S l) := hid (by rw [List.take_of_length_le (by omega)])
  have HST := hid (fun k (hk : k < l.length) => runL_take tela S l k hk)
  have HLE := hid (fun k => runL_len tela 33 tela_len S (l.take k))
  have HTL : Hid (∀ k, (l.take k).length ≤ k) := hid fun k => List.length_take_le _ _
  clear HT hr hs hok hn h
  go_enter Tryz.func31, Tryz.ntmps31
  go_wp2_with (first
    | (go_at_call 62; refine (HB0.out _).mono ?_; rintro e w1 ⟨rfl, hb1⟩; have HBB := hid hb1; clear hb1)
    | (go_at_call 67; refine (HT2.out _).mono ?_; rintro e w2 ⟨A, c, rfl, hnc, hrd2, hb2, hnew⟩; have HRD := hid hrd2; have HB2 := hid hb2; have HNEW := hid hnew; clear hrd2 hb2 hnew))
  have HBW : Hid (Below w.heap.size w w2) := hid (HBB.out.trans (HB2.out.mono HBB.out.size))
  have HNW : Hid (NewA w A) := hid (HNEW.out.le HBB.out.size)
  have HH2 := hid (HH.out.below HBW.out)
  clear HT2 HB0
  go_loopw [7, 16] (fun sv i wr => ∃ k : Nat, k ≤ n ∧ i = .int .i64 k ∧ sv = .string ⟨(runL tela S (l.take k)).2.toArray⟩ ∧ Below w2.heap.size w2 wr) (fun _ i _ => n - (intOf i).toNat)
  case atStart => exact ⟨0, by omega, rfl, rfl, Below.refl _ _⟩
  case round =>
    obtain ⟨k, hk, rfl, rfl, hgw⟩ := hrel
    have HGW := hid hgw
    have hlen := HLE.out k
    have hlen2 := HTL.out k
    by_cases hlt : k < n
    · have hkl : k < l.length := by rw [← HN.out]; exact hlt
      have hrd := HRD.out.below hgw (Nat.le_refl _)
      obtain ⟨ga, o, rfl⟩ := shape_of hrd Ic_len (by decide) (by omega)
      have hki : (k : Int) < (n : Int) := by omega
      have HS := hid (HST.out k hkl)
      have hSK := run_tela S (l.take k)
      rw [hSK] at HS
      obtain ⟨acc, hac⟩ : ∃ acc, (runL tela S (l.take k)).2 = acc := ⟨_, rfl⟩
      rw [hac] at hlen HS ⊢
      clear hSK hac
      have hcl : wr.cell? ⟨ga, o + k, none⟩ = some (.int .u64 (l[k] : Int)) := by
        have := range_of hrd Ic_len hkl 0 _ rfl
        rw [Nat.mul_one] at this
        exact this
      obtain ⟨bs, hbs⟩ : ∃ bs, (tela S l[k]).2 = bs := ⟨_, rfl⟩
      obtain ⟨SN, hSN⟩ : ∃ SN, (tela S l[k]).1 = SN := ⟨_, rfl⟩
      have hbl := tela_len S l[k]
      rw [hbs] at HS hbl
      rw [hSN] at HS
      have HX : Hid (∀ W, Below w2.heap.size w2 W → Calls Tryz.prog 68 #[.pointer (some ⟨p, 0, none⟩), .int .i64 4, .int .u64 (l[k] : Int)] W (SE W bs)) := hid fun W hW => by
        rw [← hbs]
        exact rfindB_4 p fp S l[k] W (HH2.out.below hW)
      have hq : ¬ (9223372036854775807 < acc.length + bs.length) := by omega
      generalize l[k] = X at *
      clear hbs hSN hbl
      clear hrd hgw hlen hlen2
      go_wp2_with (go_at_call 68; refine (HX.out _ HGW.out).mono ?_; rintro e w3 ⟨rfl, hg3⟩; have HG3 := hid (HGW.out.trans (hg3.mono HGW.out.size)); clear hg3)
      exact ⟨⟨k + 1, by omega, by go_num, by rw [HS.out, ← cat_mk], HG3.out⟩, by simp [intOf]; omega⟩
    · obtain rfl : k = n := by omega
      clear hgw
      go_wp2_with fail
      go_ret
      exact ⟨by rw [HEND.out]; rfl, HBW.out.trans (HGW.out.mono HBW.out.size)⟩
theorem rdoB_4 (p : Nat) (fp : List Nat) (S : Lg) (s : ByteArray) (w : World) (hs : s.size ≤ 140737488355328) (h : Gk 57 p S fp w) :
    Calls Tryz.prog 31 #[.pointer (some ⟨p, 0, none⟩), .int .i64 4, .string s] w (SE w (S.doo 4 (sb s)).2) := by
  unfold Lg.doo
  rw [if_neg (by decide), if_neg (by decide), if_pos rfl]
  unfold eachL
  cases hb : (takL 8 decI (sb s)).2
  · rw [if_neg (by decide)]
    exact rdo_4_no p s w hs hb
  · rw [if_pos rfl]
    exact rdoB_4_yes p fp S s w hs h _ (Prod.ext rfl hb)
theorem doo_4 (S : Lg) (s : List UInt8) : (S.doo 4 s).1 = S := by
  unfold Lg.doo
  rw [if_neg (by decide), if_neg (by decide), if_pos rfl]
  unfold eachL
  cases hb : (takL 8 decI s).2
  · rw [if_neg (by decide)]
  · rw [if_pos rfl]
    exact run_tela S _
theorem telt_same (S : Lg) (id : Nat) : (telt S id).1 = S := by unfold telt; split <;> rfl
theorem run_telt (S : Lg) : ∀ l : List Nat, (runL telt S l).1 = S := by
  intro l
  have key : ∀ k, (runL telt S (l.take k)).1 = S := by
    intro k
    induction k with
    | zero => rfl
    | succ k ih =>
      by_cases h : k < l.length
      · rw [runL_take telt S l k h]
        show (telt (runL telt S (l.take k)).1 l[k]).1 = S
        rw [ih, telt_same]
      · rw [List.take_of_length_le (by omega), ← List.take_of_length_le (show l.length ≤ k by omega)]
        exact ih
  have := key l.length
  rw [List.take_length] at this
  exact this
theorem rfindB_5 (p : Nat) (fp : List Nat) (S : Lg) (id : Nat) (w : World) (h : Gk 57 p S fp w) : Calls Tryz.prog 68 #[.pointer (some ⟨p, 0, none⟩), .int .i64 5, .int .u64 (id : Int)] w (SE w (telt S id).2) := by
  obtain ⟨va, vt, rfl, h⟩ := h
  unfold telt
  by_cases hk : S.ft id < S.T.length
  · rw [if_pos hk]
    exact rfind_5y p va vt S id w h hk
  · rw [if_neg hk]
    exact rfind_5n p va vt S id w h hk
set_option maxHeartbeats 1000000 in
theorem rdoB_5_yes (p : Nat) (fp : List Nat) (S : Lg) (s : ByteArray) (w : World) (hs : s.size ≤ 140737488355328) (h : Gk 57 p S fp w) (l : List Nat) (hr : takL 8 decI (sb s) = (l, true)) :
    Calls Tryz.prog 31 #[.pointer (some ⟨p, 0, none⟩), .int .i64 5, .string s] w (SE w (runL telt S l).2) := by
  have HT := hid (fun W => rtaki_list s W hs)
  have HB0 : Hid (∀ W, Calls Tryz.prog 62 #[.int .i64 0] W (SE W [0])) := hid fun W => rbyte_any 0 W (by decide)
  have hle := takL_le 8 decI (sb s)
  have hok := takL_all (n := 8) (s := sb s) (ok := U64) decI_ok
  rw [hr] at HT hle hok
  simp only at hle hok
  obtain ⟨n, hn⟩ : ∃ n, n = l.length := ⟨_, rfl⟩
  have HT2 : Hid (∀ W, Calls Tryz.prog 67 #[.string s] W fun e w' => ∃ A c, e = .returned (.tuple #[.slice A n c, .bool true]) ∧ n ≤ c ∧ Rd w' w'.heap.size A (rows Ic l) ∧ Below W.heap.size W w' ∧ NewA W A) := hid (by rw [hn]; exact HT.out)
  rw [← hn] at hle
  have HN := hid hn
  have HOK := hid (fun k (hk : k < l.length) => hok l[k] (List.getElem_mem hk))
  have HH := hid h
  have HEND : Hid (runL telt S (l.take n) = runL telt S l) := hid (by rw [List.take_of_length_le (by omega)])
  have HST := hid (fun k (hk : k < l.length) => runL_take telt S l k hk)
  have HLE := hid (fun k => runL_len telt 33 telt_len S (l.take k))
  have HTL : Hid (∀ k, (l.take k).length ≤ k) := hid fun k => List.length_take_le _ _
  clear HT hr hs hok hn h
  go_enter Tryz.func31, Tryz.ntmps31
  go_wp2_with (first
    | (go_at_call 62; refine (HB0.out _).mono ?_; rintro e w1 ⟨rfl, hb1⟩; have HBB := hid hb1; clear hb1)
    | (go_at_call 67; refine (HT2.out _).mono ?_; rintro e w2 ⟨A, c, rfl, hnc, hrd2, hb2, hnew⟩; have HRD := hid hrd2; have HB2 := hid hb2; have HNEW := hid hnew; clear hrd2 hb2 hnew))
  have HBW : Hid (Below w.heap.size w w2) := hid (HBB.out.trans (HB2.out.mono HBB.out.size))
  have HNW : Hid (NewA w A) := hid (HNEW.out.le HBB.out.size)
  have HH2 := hid (HH.out.below HBW.out)
  clear HT2 HB0
  go_loopw [7, 16] (fun sv i wr => ∃ k : Nat, k ≤ n ∧ i = .int .i64 k ∧ sv = .string ⟨(runL telt S (l.take k)).2.toArray⟩ ∧ Below w2.heap.size w2 wr) (fun _ i _ => n - (intOf i).toNat)
  case atStart => exact ⟨0, by omega, rfl, rfl, Below.refl _ _⟩
  case round =>
    obtain ⟨k, hk, rfl, rfl, hgw⟩ := hrel
    have HGW := hid hgw
    have hlen := HLE.out k
    have hlen2 := HTL.out k
    by_cases hlt : k < n
    · have hkl : k < l.length := by rw [← HN.out]; exact hlt
      have hrd := HRD.out.below hgw (Nat.le_refl _)
      obtain ⟨ga, o, rfl⟩ := shape_of hrd Ic_len (by decide) (by omega)
      have hki : (k : Int) < (n : Int) := by omega
      have HS := hid (HST.out k hkl)
      have hSK := run_telt S (l.take k)
      rw [hSK] at HS
      obtain ⟨acc, hac⟩ : ∃ acc, (runL telt S (l.take k)).2 = acc := ⟨_, rfl⟩
      rw [hac] at hlen HS ⊢
      clear hSK hac
      have hcl : wr.cell? ⟨ga, o + k, none⟩ = some (.int .u64 (l[k] : Int)) := by
        have := range_of hrd Ic_len hkl 0 _ rfl
        rw [Nat.mul_one] at this
        exact this
      obtain ⟨bs, hbs⟩ : ∃ bs, (telt S l[k]).2 = bs := ⟨_, rfl⟩
      obtain ⟨SN, hSN⟩ : ∃ SN, (telt S l[k]).1 = SN := ⟨_, rfl⟩
      have hbl := telt_len S l[k]
      rw [hbs] at HS hbl
      rw [hSN] at HS
      have HX : Hid (∀ W, Below w2.heap.size w2 W → Calls Tryz.prog 68 #[.pointer (some ⟨p, 0, none⟩), .int .i64 5, .int .u64 (l[k] : Int)] W (SE W bs)) := hid fun W hW => by
        rw [← hbs]
        exact rfindB_5 p fp S l[k] W (HH2.out.below hW)
      have hq : ¬ (9223372036854775807 < acc.length + bs.length) := by omega
      generalize l[k] = X at *
      clear hbs hSN hbl
      clear hrd hgw hlen hlen2
      go_wp2_with (go_at_call 68; refine (HX.out _ HGW.out).mono ?_; rintro e w3 ⟨rfl, hg3⟩; have HG3 := hid (HGW.out.trans (hg3.mono HGW.out.size)); clear hg3)
      exact ⟨⟨k + 1, by omega, by go_num, by rw [HS.out, ← cat_mk], HG3.out⟩, by simp [intOf]; omega⟩
    · obtain rfl : k = n := by omega
      clear hgw
      go_wp2_with fail
      go_ret
      exact ⟨by rw [HEND.out]; rfl, HBW.out.trans (HGW.out.mono HBW.out.size)⟩
theorem rdoB_5 (p : Nat) (fp : List Nat) (S : Lg) (s : ByteArray) (w : World) (hs : s.size ≤ 140737488355328) (h : Gk 57 p S fp w) :
    Calls Tryz.prog 31 #[.pointer (some ⟨p, 0, none⟩), .int .i64 5, .string s] w (SE w (S.doo 5 (sb s)).2) := by
  unfold Lg.doo
  rw [if_neg (by decide), if_neg (by decide), if_neg (by decide), if_pos rfl]
  unfold eachL
  cases hb : (takL 8 decI (sb s)).2
  · rw [if_neg (by decide)]
    exact rdo_5_no p s w hs hb
  · rw [if_pos rfl]
    exact rdoB_5_yes p fp S s w hs h _ (Prod.ext rfl hb)
theorem doo_5 (S : Lg) (s : List UInt8) : (S.doo 5 s).1 = S := by
  unfold Lg.doo
  rw [if_neg (by decide), if_neg (by decide), if_neg (by decide), if_pos rfl]
  unfold eachL
  cases hb : (takL 8 decI s).2
  · rw [if_neg (by decide)]
  · rw [if_pos rfl]
    exact run_telt S _
end Go.Proofs.YtdimlfjepliflaaGreatDoor
