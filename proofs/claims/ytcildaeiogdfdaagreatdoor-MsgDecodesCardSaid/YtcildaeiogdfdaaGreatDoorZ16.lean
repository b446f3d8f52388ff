/-
  Messages in plain words: their fields, what may be, their bytes, what bytes say.
-/
import Derived.Test.YtcildaeiogdfdaaGreatDoorZ15
import Derived.Test.YtcildaeiogdfdaaGreatDoorZ12
import Derived.Test.YtcildaeiogdfdaaGreatDoorZ10
import Derived.Test.YtcildaeiogdfdaaGreatDoorZ03
namespace Go.Proofs.YtcildaeiogdfdaaGreatDoor
open Go.RowKit
set_option maxRecDepth 10000

theorem en_ext (a b : En) : a = b ↔ (a.view = b.view ∧ a.opn = b.opn ∧ a.under = b.under ∧ a.parent = b.parent) ∧ a.client = b.client ∧ a.session = b.session ∧ a.request = b.request ∧ a.oper = b.oper ∧ a.body = b.body := by
  obtain ⟨a1, a2, a3, a4, a5, a6, a7, a8, a9⟩ := a
  obtain ⟨b1, b2, b3, b4, b5, b6, b7, b8, b9⟩ := b
  simp only [En.mk.injEq]
  constructor
  · rintro ⟨h1, h2, h3, h4, h5, h6, h7, h8, h9⟩; exact ⟨⟨h1, h2, h3, h4⟩, h5, h6, h7, h8, h9⟩
  · rintro ⟨⟨h1, h2, h3, h4⟩, h5, h6, h7, h8, h9⟩; exact ⟨h1, h2, h3, h4, h5, h6, h7, h8, h9⟩
instance : DecidableEq En := fun a b => decidable_of_iff _ (en_ext a b).symm
theorem it_ext (a b : It) : a = b ↔ a.kind = b.kind ∧ a.stub = b.stub ∧ a.entry = b.entry := by
  obtain ⟨a1, a2, a3⟩ := a
  obtain ⟨b1, b2, b3⟩ := b
  simp only [It.mk.injEq]
instance : DecidableEq It := fun a b => decidable_of_iff _ (it_ext a b).symm
/-- a message -/
structure Ms where
  kind : Int
  frm : Int
  view : Int
  lv : Int
  opn : Int
  commit : Int
  client : Int
  session : Int
  request : Int
  oper : Int
  index : Int
  size : Int
  check : Mk
  sums : List Nat
  entry : En
  es : List En
  xs : List It
  body : ByteArray
deriving DecidableEq
def z6 : List Nat := [0, 0, 0, 0, 0, 0]
def ms0 : Ms := ⟨0, 0, 0, 0, 0, 0, 0, 0, 0, 0, 0, 0, mk0, z6, en0, [], [], ⟨#[]⟩⟩
/-- an item of the machine's -/
def It.fits (x : It) : Prop := In64 x.kind ∧ x.stub.fits ∧ x.entry.fits
/-- a message of the machine's -/
def Ms.fits (m : Ms) : Prop := (In64 m.kind ∧ In64 m.frm ∧ In64 m.view ∧ In64 m.lv ∧ In64 m.opn ∧ In64 m.commit) ∧ (In64 m.client ∧ In64 m.session ∧ In64 m.request ∧ In64 m.oper ∧ In64 m.index ∧ In64 m.size) ∧
  m.check.fits ∧ (m.sums.length = 6 ∧ ∀ n ∈ m.sums, n < 18446744073709551616) ∧ m.entry.fits ∧ (∀ e ∈ m.es, e.fits) ∧ ∀ x ∈ m.xs, x.fits
/-! ### the fields of a kind -/
def kView (k : Int) : Bool := k == 2 || k == 3 || k == 4 || k == 5 || k == 6 || k == 7 || k == 8 || k == 9 || k == 16
def kLog (k : Int) : Bool := k == 7
def kOp (k : Int) : Bool := k == 3 || k == 4 || k == 10 || k == 16
def kCom (k : Int) : Bool := k == 2 || k == 5 || k == 7 || k == 8
def kCli (k : Int) : Bool := k == 1 || k == 4 || k == 16
def kOpr (k : Int) : Bool := k == 1
def kIdx (k : Int) : Bool := k == 14 || k == 15
def kSz (k : Int) : Bool := k == 13
def kChk (k : Int) : Bool := k == 7 || k == 8 || k == 13 || k == 14 || k == 15
def kEnt (k : Int) : Bool := k == 2 || k == 11
def kEs (k : Int) : Bool := k == 8
def kBod (k : Int) : Bool := k == 1 || k == 4 || k == 15
def ifI (b : Bool) (n : Int) : Int := if b then n else 0
def keptM (m : Ms) : Ms :=
  ⟨m.kind, m.frm, ifI (kView m.kind) m.view, ifI (kLog m.kind) m.lv, ifI (kOp m.kind) m.opn, ifI (kCom m.kind) m.commit, ifI (kCli m.kind) m.client, ifI (kCli m.kind) m.session, ifI (kCli m.kind) m.request, ifI (kOpr m.kind) m.oper,
   ifI (kIdx m.kind) m.index, ifI (kSz m.kind) m.size, if kChk m.kind then m.check else mk0, if kSz m.kind then m.sums else z6, if kEnt m.kind then m.entry else en0, if kEs m.kind then m.es else [], if kLog m.kind then m.xs else [], if kBod m.kind then m.body else ⟨#[]⟩⟩
/-! ### may be -/
def Fi (n : Int) : Prop := 0 ≤ n ∧ n ≤ 72057594037927935
instance (n : Int) : Decidable (Fi n) := by unfold Fi; infer_instance
def itemR (x : It) : Prop :=
  if x.kind = 1 then Rt x.entry ∧ stubS x.entry = x.stub else if x.kind = 2 then SRt x.stub ∧ x.entry = en0 else (x.kind = 0 ∨ x.kind = 3) ∧ x.entry = en0 ∧ x.stub = st0
instance (x : It) : Decidable (itemR x) := by unfold itemR; infer_instance
def numsM (m : Ms) : List Int := [m.view, m.lv, m.opn, m.commit, m.client, m.session, m.request, m.index, m.size, m.check.opn, m.check.view]
def rightM (m : Ms) : Prop :=
  ((1 ≤ m.kind ∧ m.kind ≤ 16) ∧ (0 ≤ m.frm ∧ m.frm ≤ 255) ∧ (0 ≤ m.oper ∧ m.oper ≤ 255) ∧ m = keptM m) ∧ (∀ n ∈ numsM m, Fi n) ∧
  (m.body.size ≤ 320 ∧ (m.kind ≠ 15 → m.body.size ≤ 200) ∧ m.es.length ≤ 8 ∧ (m.kind = 7 → m.xs.length = 8)) ∧
  (∀ e ∈ m.es, Rt e) ∧ (∀ x ∈ m.xs, itemR x) ∧ (m.kind = 2 ∨ m.kind = 11 → Rt m.entry)
instance (m : Ms) : Decidable (rightM m) := by unfold rightM; infer_instance
/-! ### bytes -/
/-- an entry's text -/
def textE (e : En) : List UInt8 := le (packE e).1.length 2 ++ (packE e).1
def itemB (x : It) : List UInt8 := UInt8.ofNat (x.kind % 256).toNat :: (if x.kind = 1 then textE x.entry else if x.kind = 2 then (bytesS x.stub).1 else [])
def chkB (k : Mk) : List UInt8 := le (un k.opn) 8 ++ (le (un k.view) 8 ++ le k.sum 8)
def bodyM (m : Ms) : List UInt8 :=
  (if kChk m.kind then chkB m.check else []) ++ ((if kSz m.kind then nb m.sums else []) ++ ((if kEnt m.kind then textE m.entry else []) ++ ((if kEs m.kind then [UInt8.ofNat m.es.length] else []) ++
   (m.es.flatMap textE ++ (m.xs.flatMap itemB ++ sb m.body)))))
def hdM (m : Ms) : Hd := ⟨m.kind, m.frm, m.oper, m.view, m.opn, m.commit, m.client, m.session, m.request, m.lv, if m.kind = 13 then m.size else m.index, 0⟩
def encM (m : Ms) : List UInt8 × Int := if rightM m then packS (hdM m) (bodyM m) else ([], 4)
/-! ### what bytes say -/
def entP (b : List UInt8) (p : Nat) : Option (En × Nat) :=
  if (ttS b p 65535).2.2 = 0 ∧ (unpackE (ttS b p 65535).1).2 = 0 then some ((unpackE (ttS b p 65535).1).1, (ttS b p 65535).2.1.toNat) else none
def entsF (b : List UInt8) (p : Nat) : Nat → Option (List En × Nat)
  | 0 => some ([], p)
  | k + 1 => (entsF b p k).bind fun lp => (entP b lp.2).map fun et => (lp.1 ++ [et.1], et.2)
def itemP (b : List UInt8) (p : Nat) : Option (It × Nat) :=
  match b[p]? with
  | none => none
  | some c =>
    if c = 1 then (entP b (p + 1)).map fun et => (⟨1, stubS et.1, et.1⟩, et.2)
    else if c = 2 then if b.length < p + 41 then none else some (⟨2, stOf (takeT (b.drop (p + 1))), en0⟩, p + 41)
    else some (⟨(c.toNat : Int), st0, en0⟩, p + 1)
def itemsF (b : List UInt8) (p : Nat) : Nat → Option (List It × Nat)
  | 0 => some ([], p)
  | k + 1 => (itemsF b p k).bind fun lp => (itemP b lp.2).map fun et => (lp.1 ++ [et.1], et.2)
def chkP (b : List UInt8) : Mk := ⟨sg (at8 b 0), sg (at8 b 8), at8 b 16⟩
def sumsP (b : List UInt8) : List Nat := (List.range 6).map fun i => at8 b (24 + 8 * i)
def baseP (h : Hd) (b : List UInt8) : Ms :=
  ⟨h.kind, h.frm, h.view, h.a, h.opn, h.commit, h.client, h.session, h.request, h.oper, ifI (kIdx h.kind) h.b, ifI (kSz h.kind) h.b, if kChk h.kind then chkP b else mk0,
   if kSz h.kind ∧ b.length = 72 then sumsP b else z6, en0, [], [], if kBod h.kind then ⟨(b.drop (if kChk h.kind then 24 else 0)).toArray⟩ else ⟨#[]⟩⟩
def parseM (h : Hd) (b : List UInt8) : Option Ms :=
  if kChk h.kind ∧ b.length < 24 then none
  else if kEnt h.kind then (entP b 0).map fun et => { baseP h b with entry := et.1 }
  else if kEs h.kind then match b[24]? with | none => none | some c => (entsF b 25 c.toNat).map fun lp => { baseP h b with es := lp.1 }
  else if kLog h.kind then (itemsF b 24 8).map fun lp => { baseP h b with xs := lp.1 }
  else some (baseP h b)
def decM (s : List UInt8) : Ms × Int :=
  if (unpackS s).2.2 = 0 then match parseM (unpackS s).1 (unpackS s).2.1 with | none => (ms0, 4) | some m => if encM m = (s, 0) then (m, 0) else (ms0, 4)
  else (ms0, 4)
end Go.Proofs.YtcildaeiogdfdaaGreatDoor
/-
  A message's bytes say the message.
-/
namespace Go.Proofs.YtcildaeiogdfdaaGreatDoor
open Go.RowKit
set_option maxRecDepth 10000

theorem tn_left (a z : List UInt8) (k : Nat) (h : 8 * k + 8 ≤ a.length) : tn (a ++ z) k = tn a k := by
  unfold tn
  rw [List.drop_append_of_le_length (by omega), List.take_append_of_le_length (by rw [List.length_drop]; omega)]
theorem takeT_left (l : List Nat) (z : List UInt8) (h : l.length = 5) (hl : ∀ n ∈ l, n < 18446744073709551616) : takeT (nb l ++ z) = l := by
  have hn := nb_len l
  have e : takeT (nb l ++ z) = takeT (nb l) := by
    unfold takeT
    apply List.map_congr_left
    intro k hk
    rw [List.mem_range] at hk
    exact tn_left _ _ _ (by omega)
  exact e.trans (takeT_nb l h hl)
theorem at8_left (x a z : List UInt8) (n : Nat) (i : Nat) (h : i = x.length) (hn : n < 18446744073709551616) (ha : a = le n 8) : at8 (x ++ (a ++ z)) i = n := by
  subst h ha
  unfold at8
  rw [List.drop_left, List.take_append_of_le_length (by rw [le_len]; omega), List.take_of_length_le (by rw [le_len]; omega)]
  exact leV_le 8 n (Nat.div_eq_of_lt (by simpa using hn))
/-! ### an entry's text -/
theorem ttS_at (x t z : List UInt8) (ht : t.length ≤ 65535) : ttS (x ++ (le t.length 2 ++ t ++ z)) x.length 65535 = (t, ((x.length + 2 + t.length : Nat) : Int), 0) := by
  have h2 : takeS (x ++ (le t.length 2 ++ t ++ z)) x.length 2 = (t.length, 0) := by
    unfold takeS
    have hl : (le t.length 2).length = 2 := le_len _ _
    rw [if_neg (by omega), if_neg (by simp [hl]; omega)]
    congr 1
    show leV ((List.drop ((x.length : Int)).toNat (x ++ (le t.length 2 ++ t ++ z))).take 2) = _
    rw [Int.toNat_natCast, List.drop_left, List.append_assoc, List.take_append_of_le_length (by omega), List.take_of_length_le (by omega)]
    exact leV_le 2 _ (Nat.div_eq_of_lt (by omega))
  unfold ttS
  rw [h2]
  have hl : (le t.length 2).length = 2 := le_len _ _
  rw [if_neg (by simp), if_neg (by omega)]
  unfold ttN
  rw [if_neg (by simp [hl]; omega)]
  have e : List.drop (((x.length : Int)).toNat + 2) (x ++ (le t.length 2 ++ t ++ z)) = t ++ z := by
    rw [Int.toNat_natCast, ← List.drop_drop, List.drop_left, List.append_assoc, List.drop_append_of_le_length (by omega), List.drop_of_length_le (by omega), List.nil_append]
  rw [e, List.take_left]
  simp
theorem textE_len {e : En} (he : e.fits) (h : Rt e) : (textE e).length = 130 + e.body.size ∧ e.body.size ≤ 200 := by
  have h1 := packE_rt he h
  unfold textE
  rw [List.length_append, le_len, h1.2.1]
  exact ⟨by omega, h1.2.2⟩
theorem unpackE_rt {e : En} (he : e.fits) (h : Rt e) : unpackE (packE e).1 = (e, 0) := by
  have h1 := packE_rt he h
  exact unpackE_pack (s := (packE e).1) he (by rw [← h1.1])
theorem entP_at (x z : List UInt8) {e : En} (he : e.fits) (h : Rt e) : entP (x ++ (textE e ++ z)) x.length = some (e, x.length + (textE e).length) := by
  have h1 := packE_rt he h
  have h2 := ttS_at x (packE e).1 z (by omega)
  have h3 := unpackE_rt he h
  have h4 := textE_len he h
  unfold entP
  rw [show textE e ++ z = le (packE e).1.length 2 ++ (packE e).1 ++ z from rfl, h2]
  simp only [h3, and_self, if_true, Int.toNat_natCast]
  congr 2
  omega
theorem entsF_at (x z : List UInt8) (l : List En) (hl : ∀ e ∈ l, e.fits ∧ Rt e) : ∀ k, k ≤ l.length → entsF (x ++ (l.flatMap textE ++ z)) x.length k = some (l.take k, x.length + ((l.take k).flatMap textE).length)
  | 0, _ => by simp [entsF]
  | k + 1, hk => by
    have ih := entsF_at x z l hl k (by omega)
    have hm := hl l[k] (List.getElem_mem _)
    have e1 : l.flatMap textE ++ z = (l.take k).flatMap textE ++ (textE l[k] ++ ((l.drop (k + 1)).flatMap textE ++ z)) := by
      have e0 : l = l.take k ++ l[k] :: l.drop (k + 1) := by rw [List.getElem_cons_drop, List.take_append_drop]
      conv => lhs; rw [e0]
      rw [List.flatMap_append, List.flatMap_cons, List.append_assoc, List.append_assoc]
    have h2 := entP_at (x ++ (l.take k).flatMap textE) ((l.drop (k + 1)).flatMap textE ++ z) hm.1 hm.2
    rw [List.append_assoc, ← e1, List.length_append] at h2
    unfold entsF
    rw [ih]
    show Option.map _ (entP (x ++ (l.flatMap textE ++ z)) (x.length + ((l.take k).flatMap textE).length)) = _
    rw [h2, List.take_succ_eq_append_getElem (by omega)]
    simp only [Option.map_some, List.flatMap_append, List.flatMap_cons, List.flatMap_nil, List.append_nil, List.length_append, Nat.add_assoc]
/-! ### an item -/
theorem itemB_len {x : It} (hx : x.fits) (h : itemR x) : 1 ≤ (itemB x).length ∧ (itemB x).length ≤ 331 := by
  unfold itemB
  rw [List.length_cons]
  unfold itemR at h
  split
  · rename_i h1
    rw [if_pos h1] at h
    have := textE_len hx.2.2 h.1
    omega
  · split
    · rename_i h1 h2
      rw [if_neg h1, if_pos h2] at h
      unfold bytesS
      rw [if_pos h.1, sbytes_len]
      omega
    · simp
theorem itemP_at (y z : List UInt8) {x : It} (hx : x.fits) (h : itemR x) : itemP (y ++ (itemB x ++ z)) y.length = some (x, y.length + (itemB x).length) := by
  obtain ⟨k, s, e⟩ := x
  obtain ⟨hk, hs, he⟩ := hx
  simp only at hk hs he
  unfold itemP
  have hget : ∀ (c : UInt8) (r : List UInt8), (y ++ ((c :: r) ++ z))[y.length]? = some c := fun c r => by
    rw [List.getElem?_append_right (by omega)]
    simp
  unfold itemR at h
  simp only at h
  by_cases h1 : k = 1
  · subst h1
    rw [if_pos rfl] at h
    have e1 : itemB ⟨1, s, e⟩ = 1 :: textE e := rfl
    rw [e1, hget]
    have h2 := entP_at (y ++ [1]) z he h.1
    rw [List.append_assoc, List.length_append] at h2
    show (if (1 : UInt8) = 1 then _ else _) = _
    rw [if_pos rfl]
    have e2 : y ++ ((1 :: textE e) ++ z) = y ++ ([1] ++ (textE e ++ z)) := by simp
    rw [e2]
    have e3 : y.length + 1 = y.length + [(1 : UInt8)].length := rfl
    rw [e3, h2]
    simp [h.2]
    omega
  · by_cases h2 : k = 2
    · subst h2
      rw [if_neg h1, if_pos rfl] at h
      have e1 : itemB ⟨2, s, e⟩ = 2 :: s.bytes := by
        unfold itemB bytesS
        simp only [if_pos h.1]
        rfl
      rw [e1, hget]
      show (if (2 : UInt8) = 1 then _ else if (2 : UInt8) = 2 then _ else _) = _
      rw [if_neg (by decide), if_pos rfl]
      have hb := sbytes_len s
      rw [if_neg (by simp [hb])]
      have e2 : List.drop (y.length + 1) (y ++ ((2 :: s.bytes) ++ z)) = nb s.nums ++ z := by
        rw [← List.drop_drop, List.drop_left]
        rfl
      rw [e2, takeT_left _ _ (snums_len s) (snums_lt s hs), nums_stOf s hs, h.2]
      simp [hb]
    · rw [if_neg h1, if_neg h2] at h
      obtain ⟨h3, rfl, rfl⟩ := h
      rcases h3 with rfl | rfl
      · have e1 : itemB ⟨0, st0, en0⟩ = [0] := rfl
        rw [e1, hget]
        rfl
      · have e1 : itemB ⟨3, st0, en0⟩ = [3] := rfl
        rw [e1, hget]
        rfl
theorem itemsF_at (y z : List UInt8) (l : List It) (hl : ∀ x ∈ l, x.fits ∧ itemR x) : ∀ k, k ≤ l.length → itemsF (y ++ (l.flatMap itemB ++ z)) y.length k = some (l.take k, y.length + ((l.take k).flatMap itemB).length)
  | 0, _ => by simp [itemsF]
  | k + 1, hk => by
    have ih := itemsF_at y z l hl k (by omega)
    have hm := hl l[k] (List.getElem_mem _)
    have e1 : l.flatMap itemB ++ z = (l.take k).flatMap itemB ++ (itemB l[k] ++ ((l.drop (k + 1)).flatMap itemB ++ z)) := by
      have e0 : l = l.take k ++ l[k] :: l.drop (k + 1) := by rw [List.getElem_cons_drop, List.take_append_drop]
      conv => lhs; rw [e0]
      rw [List.flatMap_append, List.flatMap_cons, List.append_assoc, List.append_assoc]
    have h2 := itemP_at (y ++ (l.take k).flatMap itemB) ((l.drop (k + 1)).flatMap itemB ++ z) hm.1 hm.2
    rw [List.append_assoc, ← e1, List.length_append] at h2
    unfold itemsF
    rw [ih]
    show Option.map _ (itemP (y ++ (l.flatMap itemB ++ z)) (y.length + ((l.take k).flatMap itemB).length)) = _
    rw [h2, List.take_succ_eq_append_getElem (by omega)]
    simp only [Option.map_some, List.flatMap_append, List.flatMap_cons, List.flatMap_nil, List.append_nil, List.length_append, Nat.add_assoc]
/-! ### a mark, sums -/
theorem chkB_len (k : Mk) : (chkB k).length = 24 := by simp [chkB, le_len]
theorem chkP_at (k : Mk) (z : List UInt8) (hk : k.fits) : chkP (chkB k ++ z) = k := by
  obtain ⟨o, v, s⟩ := k
  obtain ⟨ho, hv, hs⟩ := hk
  simp only at ho hv hs
  unfold chkP chkB
  simp only [List.append_assoc]
  have h0 := at8_left [] (le (un o) 8) (le (un v) 8 ++ (le s 8 ++ z)) (un o) 0 rfl (un_lt o) rfl
  have h1 := at8_left (le (un o) 8) (le (un v) 8) (le s 8 ++ z) (un v) 8 (le_len _ _).symm (un_lt v) rfl
  have h2 := at8_left (le (un o) 8 ++ le (un v) 8) (le s 8) z s 16 (by simp [le_len]) hs rfl
  rw [List.nil_append] at h0
  rw [List.append_assoc] at h2
  rw [h0, h1, h2, sg_un ho, sg_un hv]
theorem list6 (l : List Nat) (h : l.length = 6) : ∃ a b c d e f, l = [a, b, c, d, e, f] := by
  match l, h with
  | [a, b, c, d, e, f], _ => exact ⟨a, b, c, d, e, f, rfl⟩
theorem sumsP_at (x : List UInt8) (l : List Nat) (hx : x.length = 24) (h : l.length = 6) (hl : ∀ n ∈ l, n < 18446744073709551616) : sumsP (x ++ nb l) = l := by
  have hn := nb_len l
  apply List.ext_getElem
  · simp [sumsP, h]
  · intro i h1 h2
    have e0 : (sumsP (x ++ nb l))[i] = at8 (x ++ nb l) (24 + 8 * i) := by simp [sumsP]
    rw [e0]
    have e := tn_nb l i h2 hl
    rw [← e]
    unfold at8 tn
    rw [← List.drop_drop, List.drop_left' hx]
end Go.Proofs.YtcildaeiogdfdaaGreatDoor
/-
  Messages: bytes are a message's, or none's.
-/
namespace Go.Proofs.YtcildaeiogdfdaaGreatDoor
open Go.RowKit
set_option maxRecDepth 10000

theorem bytes_mk (s : ByteArray) : (⟨(sb s).toArray⟩ : ByteArray) = s := by
  unfold sb
  simp
theorem parse_enc (m : Ms) (hf : m.fits) (hr : rightM m) : parseM (hdM m) (bodyM m) = some m := by
  obtain ⟨kind, frm, view, lv, opn, commit, client, session, request, oper, index, size, check, sums, entry, es, xs, body⟩ := m
  obtain ⟨-, -, hc, hs, he, hes, hxs⟩ := hf
  obtain ⟨⟨hk, -, -, hkept⟩, -, ⟨-, -, h8, h7⟩, hRes, hRxs, hRe⟩ := hr
  simp only at hc hs he hes hxs hk h8 h7 hRes hRxs hRe
  have hk16 : kind = 1 ∨ kind = 2 ∨ kind = 3 ∨ kind = 4 ∨ kind = 5 ∨ kind = 6 ∨ kind = 7 ∨ kind = 8 ∨ kind = 9 ∨ kind = 10 ∨ kind = 11 ∨ kind = 12 ∨ kind = 13 ∨ kind = 14 ∨ kind = 15 ∨ kind = 16 := by omega
  have hE := fun (h : kind = 2 ∨ kind = 11) => entP_at [] [] he (hRe h)
  have hES := entsF_at (chkB check ++ [UInt8.ofNat es.length]) [] es (fun e h => ⟨hes e h, hRes e h⟩) es.length (Nat.le_refl _)
  have hXS := itemsF_at (chkB check) [] xs (fun x h => ⟨hxs x h, hRxs x h⟩) xs.length (Nat.le_refl _)
  have hCK := fun z => chkP_at check z hc
  have hCL := chkB_len check
  have hCK0 : chkP (chkB check) = check := by have := hCK []; rwa [List.append_nil] at this
  have hSM := sumsP_at (chkB check) sums hCL hs.1 hs.2
  have hSL := nb_len sums
  have hbm := bytes_mk body
  have hb0 : sb (⟨#[]⟩ : ByteArray) = [] := rfl
  simp only [List.length_append, hCL, List.length_cons, List.length_nil, List.append_nil, List.take_length, List.nil_append, List.append_assoc, Nat.zero_add] at hES hXS hE
  rcases hk16 with rfl | rfl | rfl | rfl | rfl | rfl | rfl | rfl | rfl | rfl | rfl | rfl | rfl | rfl | rfl | rfl
  all_goals
    simp [keptM, ifI, kView, kLog, kOp, kCom, kCli, kOpr, kIdx, kSz, kChk, kEnt, kEs, kBod] at hkept
  all_goals
    simp [parseM, baseP, bodyM, hdM, ifI, kLog, kIdx, kSz, kChk, kEnt, kEs, kBod, hkept, hbm, hCK, hCK0, hCL, hb0]
  · exact ⟨_, hE (.inl rfl)⟩
  · rw [h7 rfl] at hXS
    exact ⟨_, hXS⟩
  · rw [Nat.mod_eq_of_lt (by omega)]
    exact ⟨_, hES⟩
  · exact ⟨_, hE (.inr rfl)⟩
  · rw [if_pos (by rw [hSL, hs.1])]
    exact hSM
/-! ### a message's bytes -/
theorem flat_le {α : Type} (f : α → List UInt8) (c : Nat) : ∀ l : List α, (∀ x ∈ l, (f x).length ≤ c) → (l.flatMap f).length ≤ c * l.length
  | [], _ => by simp
  | x :: r, h => by
    have h1 := flat_le f c r (fun y hy => h y (by simp [hy]))
    have h2 := h x (by simp)
    rw [List.flatMap_cons, List.length_append, List.length_cons, Nat.mul_succ]
    omega
theorem right_es {m : Ms} (h : rightM m) (hk : m.kind ≠ 8) : m.es = [] := by
  have h1 := congrArg Ms.es h.1.2.2.2
  rw [h1]
  simp [keptM, kEs, hk]
theorem right_xs {m : Ms} (h : rightM m) (hk : m.kind ≠ 7) : m.xs = [] := by
  have h1 := congrArg Ms.xs h.1.2.2.2
  rw [h1]
  simp [keptM, kLog, hk]
theorem body_len {m : Ms} (hf : m.fits) (h : rightM m) : (bodyM m).length ≤ 3968 := by
  have hes : (m.es.flatMap textE).length ≤ 330 * m.es.length := flat_le _ _ _ fun e he => by
    have := textE_len (hf.2.2.2.2.2.1 e he) (h.2.2.2.1 e he)
    omega
  have hxs : (m.xs.flatMap itemB).length ≤ 331 * m.xs.length := flat_le _ _ _ fun x hx => (itemB_len (hf.2.2.2.2.2.2 x hx) (h.2.2.2.2.1 x hx)).2
  have h1 := chkB_len m.check
  have h2 := nb_len m.sums
  have h3 := hf.2.2.2.1.1
  have h4 : (if kEnt m.kind = true then textE m.entry else []).length ≤ 330 := by
    split
    · rename_i hk
      have hr := h.2.2.2.2.2 (by simpa [kEnt] using hk)
      have := textE_len hf.2.2.2.2.1 hr
      omega
    · simp
  have h5 := h.2.2.1
  have h6 : (sb m.body).length = m.body.size := sb_len _
  have h7 : m.es.length + m.xs.length ≤ 8 := by
    by_cases h8 : m.kind = 8
    · rw [right_xs h (by omega)]
      simpa using h5.2.2.1
    · rw [right_es h h8]
      by_cases h9 : m.kind = 7
      · have := h5.2.2.2 h9
        simp; omega
      · rw [right_xs h h9]; simp
  unfold bodyM
  simp only [List.length_append]
  have h10 : (if kChk m.kind = true then chkB m.check else []).length ≤ 24 := by split <;> simp [h1]
  have h11 : (if kSz m.kind = true then nb m.sums else []).length ≤ 48 := by split <;> simp [h2, h3]
  have h12 : (if kEs m.kind = true then [UInt8.ofNat m.es.length] else []).length ≤ 1 := by split <;> simp
  omega
theorem hdM_fits {m : Ms} (hf : m.fits) : (hdM m).fits := by
  obtain ⟨⟨a1, a2, a3, a4, a5, a6⟩, ⟨b1, b2, b3, b4, b5, b6⟩, -⟩ := hf
  refine ⟨⟨a1, a2, b4, a3, a5, a6⟩, ⟨b1, b2, b3, a4, ?_⟩, by show (0 : Nat) < _; omega⟩
  show In64 (if m.kind = 13 then m.size else m.index)
  split <;> assumption
theorem fi_un {n : Int} (h : Fi n) : un n ≤ 72057594037927935 := by
  obtain ⟨h0, h1⟩ := h
  rw [un_in h0 (by omega)]
  omega
theorem hdM_ok {m : Ms} (h : rightM m) : Fits (hdM m).nums := by
  have hn := h.2.1
  simp only [numsM, List.mem_cons, List.not_mem_nil, or_false, forall_eq_or_imp, forall_eq] at hn
  obtain ⟨n1, n2, n3, n4, n5, n6, n7, n8, n9, -, -⟩ := hn
  have hk := h.1
  rw [fits_iff _ (by show (0 : Nat) < _; omega)]
  refine ⟨⟨?_, ?_, ?_⟩, ⟨fi_un n1, fi_un n3, fi_un n4, fi_un n5⟩, fi_un n6, fi_un n7, fi_un n2, ?_⟩
  · show un m.kind ≤ 255
    rw [un_in (by omega) (by omega)]; omega
  · show un m.frm ≤ 255
    rw [un_in (by omega) (by omega)]; omega
  · show un m.oper ≤ 255
    rw [un_in (by omega) (by omega)]; omega
  · show un (if m.kind = 13 then m.size else m.index) ≤ 72057594037927935
    split
    · exact fi_un n9
    · exact fi_un n8
theorem enc_yes {m : Ms} (hf : m.fits) (h : rightM m) : encM m = (headB (full (hdM m) (bodyM m)) ++ bodyM m, 0) := by
  unfold encM
  rw [if_pos h, packS_yes (hdM_ok h) (body_len hf h)]
theorem enc_no {m : Ms} (h : ¬ rightM m) : encM m = ([], 4) := if_neg h
theorem enc_right {m : Ms} {s : List UInt8} (h : encM m = (s, 0)) : rightM m := by
  by_cases hr : rightM m
  · exact hr
  · rw [enc_no hr] at h; cases h
theorem enc_pack {m : Ms} {s : List UInt8} (h : encM m = (s, 0)) : packS (hdM m) (bodyM m) = (s, 0) := by
  have hr := enc_right h
  unfold encM at h
  rwa [if_pos hr] at h
theorem unpack_enc {m : Ms} {s : List UInt8} (hf : m.fits) (h : encM m = (s, 0)) : unpackS s = (hdM m, bodyM m, 0) := unpack_pack (hdM_fits hf) (enc_pack h)
/-- a message's bytes say the message -/
theorem dec_enc {m : Ms} {s : List UInt8} (hf : m.fits) (h : encM m = (s, 0)) : decM s = (m, 0) := by
  unfold decM
  rw [unpack_enc hf h, if_pos rfl]
  simp only [parse_enc m hf (enc_right h), h, if_true]
theorem dec_cases (s : List UInt8) : decM s = (ms0, 4) ∨ ∃ m, (unpackS s).2.2 = 0 ∧ parseM (unpackS s).1 (unpackS s).2.1 = some m ∧ encM m = (s, 0) ∧ decM s = (m, 0) := by
  unfold decM
  by_cases h1 : (unpackS s).2.2 = 0
  · rw [if_pos h1]
    cases hp : parseM (unpackS s).1 (unpackS s).2.1 with
    | none => exact .inl rfl
    | some m =>
      by_cases h2 : encM m = (s, 0)
      · exact .inr ⟨m, h1, rfl, h2, if_pos h2⟩
      · exact .inl (if_neg h2)
  · exact .inl (if_neg h1)
end Go.Proofs.YtcildaeiogdfdaaGreatDoor
/-
  Messages: what bytes say is of the machine's.
-/
namespace Go.Proofs.YtcildaeiogdfdaaGreatDoor
open Go.RowKit
set_option maxRecDepth 10000

theorem unpM_ok {s : List UInt8} {h : Hd} {b : List UInt8} (e : unpackS s = (h, b, 0)) : packS h b = (s, 0) ∧ h.fits := by
  unfold unpackS at e
  by_cases h1 : s.length < 128
  · rw [if_pos h1] at e
    simp at e
  · rw [if_neg h1] at e
    by_cases h2 : packS (hdOf (takeN (s.take 128))) (s.drop 128) = (s, 0)
    · rw [if_pos h2] at e
      obtain ⟨e1, e2⟩ := Prod.mk.inj e
      obtain ⟨e2, _⟩ := Prod.mk.inj e2
      subst e1 e2
      exact ⟨h2, hdS_fits s (by omega)⟩
    · rw [if_neg h2] at e
      simp at e
theorem en0_fitsM : en0.fits := by unfold En.fits en0 In64; simp
theorem mk0_fitsM : mk0.fits := by unfold Mk.fits mk0 In64; simp
theorem unpEM_fits (s : List UInt8) : (unpackE s).1.fits := by
  unfold unpackE
  split
  · rename_i h
    have e : unpackS s = ((unpackS s).1, (unpackS s).2.1, 0) := by rw [← h.1]
    obtain ⟨⟨a1, a2, a3, a4, a5, a6⟩, ⟨b1, b2, b3, b4, b5⟩, hp⟩ := (unpM_ok e).2
    exact ⟨⟨a4, a5, b4, b1⟩, ⟨b2, b3, a3⟩, hp⟩
  · exact en0_fitsM
theorem entP_fits {b : List UInt8} {p : Nat} {e : En} {q : Nat} (h : entP b p = some (e, q)) : e.fits := by
  unfold entP at h
  split at h
  · obtain ⟨h1, _⟩ := Prod.mk.inj (Option.some.inj h)
    rw [← h1]
    exact unpEM_fits _
  · cases h
theorem entsF_fits {b : List UInt8} {p : Nat} : ∀ {k : Nat} {l : List En} {q : Nat}, entsF b p k = some (l, q) → l.length = k ∧ ∀ e ∈ l, e.fits
  | 0, l, q, h => by
    obtain ⟨h1, _⟩ := Prod.mk.inj (Option.some.inj h)
    subst h1
    simp
  | k + 1, l, q, h => by
    unfold entsF at h
    cases hp : entsF b p k with
    | none => rw [hp] at h; cases h
    | some lp =>
      obtain ⟨l0, p0⟩ := lp
      rw [hp] at h
      obtain ⟨h1, h2⟩ := entsF_fits hp
      change Option.map _ (entP b p0) = _ at h
      cases he : entP b p0 with
      | none => rw [he] at h; cases h
      | some et =>
        obtain ⟨e, t⟩ := et
        rw [he] at h
        obtain ⟨h3, _⟩ := Prod.mk.inj (Option.some.inj h)
        subst h3
        refine ⟨by simp [h1], fun x hx => ?_⟩
        rcases List.mem_append.1 hx with hx | hx
        · exact h2 x hx
        · rw [List.mem_singleton.1 hx]
          exact entP_fits he
theorem itemP_fits {b : List UInt8} {p : Nat} {x : It} {q : Nat} (h : itemP b p = some (x, q)) : x.fits := by
  unfold itemP at h
  split at h
  · cases h
  · rename_i c hc
    split at h
    · cases he : entP b (p + 1) with
      | none => rw [he] at h; cases h
      | some et =>
        obtain ⟨e, t⟩ := et
        rw [he] at h
        obtain ⟨h1, _⟩ := Prod.mk.inj (Option.some.inj h)
        subst h1
        have hf := entP_fits he
        exact ⟨by unfold In64; simp only; omega, stubS_fits hf, hf⟩
    · split at h
      · split at h
        · cases h
        · obtain ⟨h1, _⟩ := Prod.mk.inj (Option.some.inj h)
          subst h1
          exact ⟨by unfold In64; simp only; omega, stOf_fits _ (takeT_len _) (takeT_lt _), en0_fitsM⟩
      · obtain ⟨h1, _⟩ := Prod.mk.inj (Option.some.inj h)
        subst h1
        have := UInt8.toNat_lt c
        exact ⟨by unfold In64; simp only; omega, st0_fits, en0_fitsM⟩
theorem itemsF_fits {b : List UInt8} {p : Nat} : ∀ {k : Nat} {l : List It} {q : Nat}, itemsF b p k = some (l, q) → l.length = k ∧ ∀ e ∈ l, e.fits
  | 0, l, q, h => by
    obtain ⟨h1, _⟩ := Prod.mk.inj (Option.some.inj h)
    subst h1
    simp
  | k + 1, l, q, h => by
    unfold itemsF at h
    cases hp : itemsF b p k with
    | none => rw [hp] at h; cases h
    | some lp =>
      obtain ⟨l0, p0⟩ := lp
      rw [hp] at h
      obtain ⟨h1, h2⟩ := itemsF_fits hp
      change Option.map _ (itemP b p0) = _ at h
      cases he : itemP b p0 with
      | none => rw [he] at h; cases h
      | some et =>
        obtain ⟨e, t⟩ := et
        rw [he] at h
        obtain ⟨h3, _⟩ := Prod.mk.inj (Option.some.inj h)
        subst h3
        refine ⟨by simp [h1], fun x hx => ?_⟩
        rcases List.mem_append.1 hx with hx | hx
        · exact h2 x hx
        · rw [List.mem_singleton.1 hx]
          exact itemP_fits he
theorem at8_lt (b : List UInt8) (i : Nat) : at8 b i < 18446744073709551616 := leV8_lt _ (by simp; omega)
theorem in0 : In64 0 := by unfold In64; omega
theorem ifI_in (b : Bool) {n : Int} (h : In64 n) : In64 (ifI b n) := by
  cases b
  · exact in0
  · exact h
theorem z6_ok : z6.length = 6 ∧ ∀ n ∈ z6, n < 18446744073709551616 := by
  refine ⟨rfl, fun n hn => ?_⟩
  simp only [z6, List.mem_cons, List.not_mem_nil, or_false, or_self] at hn
  omega
theorem sumsP_ok (b : List UInt8) : (sumsP b).length = 6 ∧ ∀ n ∈ sumsP b, n < 18446744073709551616 := by
  refine ⟨by simp [sumsP], fun n hn => ?_⟩
  simp only [sumsP, List.mem_map] at hn
  obtain ⟨k, _, rfl⟩ := hn
  exact at8_lt _ _
theorem baseP_fits {h : Hd} (b : List UInt8) (hh : h.fits) : (baseP h b).fits := by
  obtain ⟨⟨a1, a2, a3, a4, a5, a6⟩, ⟨b1, b2, b3, b4, b5⟩, hp⟩ := hh
  refine ⟨⟨a1, a2, a4, b4, a5, a6⟩, ⟨b1, b2, b3, a3, ifI_in _ b5, ifI_in _ b5⟩, ?_, ?_, en0_fitsM, fun e he => by simp [baseP] at he, fun e he => by simp [baseP] at he⟩
  · show Mk.fits (if kChk h.kind = true then chkP b else mk0)
    split
    · exact ⟨sg_in64 _, sg_in64 _, at8_lt _ _⟩
    · exact mk0_fitsM
  · show (if kSz h.kind = true ∧ b.length = 72 then sumsP b else z6).length = 6 ∧ ∀ n ∈ (if kSz h.kind = true ∧ b.length = 72 then sumsP b else z6), _
    split
    · exact sumsP_ok b
    · exact z6_ok
theorem parse_fits {h : Hd} {b : List UInt8} {m : Ms} (hh : h.fits) (e : parseM h b = some m) : m.fits := by
  have hb := baseP_fits b hh
  unfold parseM at e
  split at e
  · cases e
  · split at e
    · cases he : entP b 0 with
      | none => rw [he] at e; cases e
      | some et =>
        rw [he] at e
        have := Option.some.inj e
        subst this
        obtain ⟨h1, h2, h3, h4, h5, h6, h7⟩ := hb
        exact ⟨h1, h2, h3, h4, entP_fits (e := et.1) (q := et.2) he, h6, h7⟩
    · split at e
      · split at e
        · cases e
        · rename_i c hc
          cases he : entsF b 25 c.toNat with
          | none => rw [he] at e; cases e
          | some et =>
            rw [he] at e
            have := Option.some.inj e
            subst this
            obtain ⟨h1, h2, h3, h4, h5, h6, h7⟩ := hb
            exact ⟨h1, h2, h3, h4, h5, (entsF_fits (l := et.1) (q := et.2) he).2, h7⟩
      · split at e
        · cases he : itemsF b 24 8 with
          | none => rw [he] at e; cases e
          | some et =>
            rw [he] at e
            have := Option.some.inj e
            subst this
            obtain ⟨h1, h2, h3, h4, h5, h6, h7⟩ := hb
            exact ⟨h1, h2, h3, h4, h5, h6, (itemsF_fits (l := et.1) (q := et.2) he).2⟩
        · have := Option.some.inj e
          subst this
          exact hb
theorem ms0_fits : ms0.fits := by
  refine ⟨⟨in0, in0, in0, in0, in0, in0⟩, ⟨in0, in0, in0, in0, in0, in0⟩, mk0_fitsM, z6_ok, en0_fitsM, fun e he => by simp [ms0] at he, fun e he => by simp [ms0] at he⟩
theorem dec_fits (s : List UInt8) : (decM s).1.fits := by
  rcases dec_cases s with e | ⟨m, h1, h2, -, e⟩
  · rw [e]; exact ms0_fits
  · rw [e]
    have e1 : unpackS s = ((unpackS s).1, (unpackS s).2.1, 0) := by rw [← h1]
    exact parse_fits (unpM_ok e1).2 h2
end Go.Proofs.YtcildaeiogdfdaaGreatDoor
/-
  The document's Cut.
-/
namespace Go.Proofs.YtcildaeiogdfdaaGreatDoor
open Go.RowKit
set_option maxRecDepth 10000

/-- what Cut answers -/
def cutS (b : List UInt8) (p : Nat) : List UInt8 × Int × Bool := ((ttS b p 65535).1, (ttS b p 65535).2.1, (ttS b p 65535).2.2 == 0)
theorem cut17_any (s : ByteArray) (p : Nat) (w : World) (hs : s.size ≤ 140737488355328) :
    Calls Tryz.prog 35 #[.string s, .int .i64 (p : Int)] w fun e w' => e = .returned (.tuple #[.string ⟨(cutS (sb s) p).1.toArray⟩, .int .i64 (cutS (sb s) p).2.1, .bool (cutS (sb s) p).2.2]) ∧ Below w.heap.size w w' := by
  have HP := hid (fun W A c B (hr : Rd W B A (bvs (sb s))) hB => rtt_any A (sb s) s.size c B p 65535 W hr (sb_len s).symm hs hB)
  unfold cutS
  generalize ttS (sb s) p 65535 = r at HP ⊢
  obtain ⟨t, q, f⟩ := r
  go_enter Tryz.func35, Tryz.ntmps35
  go_wp2_with (first
    | (with_reducible refine wpl_bytes rfl _ _ _ rfl 5 Tryz.underlying9 Tryz.underlying47 Tryz.underlying5 s rfl ?_; intro g c k0 w1 HG HC HR HB)
    | (go_at_call 61; refine (HP.out w1 _ c (g + 1) (by
        have := (HR.rd (B := g + 1) (by omega)).take (bvs (sb s)).length
        rwa [List.take_left] at this) (by have := HR.lt; omega)).mono ?_; rintro e w2 ⟨rfl, hb2⟩))
  go_ret3
  exact ⟨rfl, HB.trans (hb2.mono HB.size)⟩
end Go.Proofs.YtcildaeiogdfdaaGreatDoor
/-
  What the document's Decode has read, as one plain word.
-/
namespace Go.Proofs.YtcildaeiogdfdaaGreatDoor

theorem ext_drop (T : ByteArray) (n : Nat) : T.extract n T.size = ⟨((sb T).drop n).toArray⟩ := by
  apply ByteArray.ext
  rw [ByteArray.data_extract]
  apply Array.toList_inj.1
  rw [Array.toList_extract]
  show List.extract T.data.toList n T.size = T.data.toList.drop n
  unfold List.extract
  exact List.take_of_length_le (by rw [List.length_drop, Array.length_toList]; exact Nat.le_refl _)
def cM (h : Hd) (c : Mk) (ss : List Nat) (E : En) (es : List En) (xs : List It) (B : ByteArray) : Ms :=
  ⟨h.kind, h.frm, h.view, h.a, h.opn, h.commit, h.client, h.session, h.request, h.oper, ifI (kIdx h.kind) h.b, ifI (kSz h.kind) h.b, c, ss, E, es, xs, B⟩
def cT (h : Hd) (T : ByteArray) (n : Nat) (E : En) (es : List En) (xs : List It) : Ms :=
  cM h (if kChk h.kind = true then chkP (sb T) else mk0) (if kSz h.kind = true ∧ T.size = 72 then sumsP (sb T) else z6) E es xs (if kBod h.kind = true then ⟨((sb T).drop n).toArray⟩ else ⟨#[]⟩)
theorem base_cT (h : Hd) (T : ByteArray) (n : Nat) (hn : n = if kChk h.kind = true then 24 else 0) : baseP h (sb T) = cT h T n en0 [] [] := by
  subst hn
  unfold baseP cT cM
  simp [sb_len]
theorem ent_kind {k : Int} (h : kEnt k = true) : kEs k = false ∧ kLog k = false := by
  unfold kEnt at h
  simp at h
  rcases h with rfl | rfl <;> exact ⟨rfl, rfl⟩
theorem es_kind {k : Int} (h : kEs k = true) : kEnt k = false ∧ kLog k = false := by
  unfold kEs at h
  have := eq_of_beq h; subst this; exact ⟨rfl, rfl⟩
theorem parse_of (h : Hd) (T : ByteArray) (n : Nat) (E : En) (es : List En) (xs : List It) (ob ob2 ob3 : Bool) (hn : n = if kChk h.kind = true then 24 else 0) (h24 : kChk h.kind = true → 24 ≤ T.size)
    (e0 : kEnt h.kind = false → E = en0 ∧ ob = true) (e1 : kEnt h.kind = true → (entP (sb T) 0).map Prod.fst = if ob = true then some E else none)
    (s0 : kEs h.kind = false → es = [] ∧ ob2 = ob) (s1 : kEs h.kind = true → ∃ c, (sb T)[24]? = some c ∧ (entsF (sb T) 25 c.toNat).map Prod.fst = if ob2 = true then some es else none)
    (x0 : kLog h.kind = false → xs = [] ∧ ob3 = ob2) (x1 : kLog h.kind = true → (itemsF (sb T) 24 8).map Prod.fst = if ob3 = true then some xs else none) :
    parseM h (sb T) = if ob3 = true then some (cT h T n E es xs) else none := by
  have hb := base_cT h T n hn
  unfold parseM
  rw [if_neg (by rintro ⟨a, b⟩; have := h24 a; rw [sb_len] at b; omega), hb]
  cases hE : kEnt h.kind
  case true =>
    obtain ⟨k1, k2⟩ := ent_kind hE
    obtain ⟨rfl, rfl⟩ := s0 k1
    obtain ⟨rfl, rfl⟩ := x0 k2
    have e := e1 hE
    rw [if_pos rfl]
    cases hp : entP (sb T) 0 with
    | none =>
      rw [hp] at e
      cases ob3
      · rfl
      · simp at e
    | some et =>
      rw [hp] at e
      cases ob3
      · simp at e
      · simp at e
        simp [← e, cT, cM]
  case false =>
    obtain ⟨rfl, rfl⟩ := e0 hE
    rw [if_neg (by simp)]
    cases hS : kEs h.kind
    case true =>
      obtain ⟨-, k2⟩ := es_kind hS
      obtain ⟨rfl, rfl⟩ := x0 k2
      obtain ⟨c, hc, e⟩ := s1 hS
      rw [if_pos rfl, hc]
      cases hp : entsF (sb T) 25 c.toNat with
      | none =>
        rw [hp] at e
        cases ob3
        · simp [hp]
        · simp at e
      | some lq =>
        rw [hp] at e
        cases ob3
        · simp at e
        · simp at e
          simp [hp, ← e, cT, cM]
    case false =>
      obtain ⟨rfl, rfl⟩ := s0 hS
      rw [if_neg (by simp)]
      cases hL : kLog h.kind
      case true =>
        have e := x1 hL
        rw [if_pos rfl]
        cases hp : itemsF (sb T) 24 8 with
        | none =>
          rw [hp] at e
          cases ob3
          · rfl
          · simp at e
        | some lq =>
          rw [hp] at e
          cases ob3
          · simp at e
          · simp at e
            simp [← e, cT, cM]
      case false =>
        obtain ⟨rfl, rfl⟩ := x0 hL
        rw [if_neg (by simp), if_pos rfl]
theorem cT_fits {h : Hd} (hh : h.fits) (T : ByteArray) (n : Nat) {E : En} {es : List En} {xs : List It} (hE : E.fits) (hs : ∀ e ∈ es, e.fits) (hx : ∀ e ∈ xs, e.fits) (hn : n = if kChk h.kind = true then 24 else 0) : (cT h T n E es xs).fits := by
  have hb := baseP_fits (sb T) hh
  rw [base_cT h T n hn] at hb
  obtain ⟨a1, a2, a3, a4, -, -, -⟩ := hb
  exact ⟨a1, a2, a3, a4, hE, hs, hx⟩
end Go.Proofs.YtcildaeiogdfdaaGreatDoor
/-
  The program's own way through a message, in plain words: sign by sign.
-/
namespace Go.Proofs.YtcildaeiogdfdaaGreatDoor
open Go.RowKit
set_option maxRecDepth 10000

/-- the signs of a kind's fields -/
def sgK (k : Int) : List Nat :=
  if k = 1 then [99, 115, 114, 111, 66] else if k = 2 then [118, 109, 69] else if k = 3 then [118, 112] else if k = 4 then [118, 112, 99, 115, 114, 66] else if k = 5 then [118, 109] else if k = 6 then [118] else if k = 7 then [118, 108, 109, 67, 73] else if k = 8 then [118, 109, 67, 76]
  else if k = 9 then [118] else if k = 10 then [112] else if k = 11 then [69] else if k = 12 then [] else if k = 13 then [122, 67, 83] else if k = 14 then [120, 67] else if k = 15 then [120, 67, 66] else if k = 16 then [118, 112, 99, 115, 114] else []
def sgA : List Nat := [118, 108, 112, 109, 99, 115, 114, 111, 120, 122, 67, 83, 69, 76, 73, 66]
def numS (m : Ms) (c : Nat) : Int :=
  if c = 118 then m.view else if c = 108 then m.lv else if c = 112 then m.opn else if c = 109 then m.commit else if c = 99 then m.client else if c = 115 then m.session else if c = 114 then m.request else if c = 111 then m.oper else if c = 120 then m.index else if c = 122 then m.size else 0
def mayE (l : List En) : Prop := l.length ≤ 8 ∧ ∀ e ∈ l, Rt e
instance (l : List En) : Decidable (mayE l) := by unfold mayE; infer_instance
def mayX (l : List It) : Prop := l.length = 8 ∧ ∀ x ∈ l, itemR x
instance (l : List It) : Decidable (mayX l) := by unfold mayX; infer_instance
def mayS (m : Ms) (c : Nat) : Prop :=
  if c = 111 then 0 ≤ m.oper ∧ m.oper ≤ 255 else if c = 67 then Fi m.check.opn ∧ Fi m.check.view else if c = 83 then True else if c = 69 then Rt m.entry else if c = 76 then mayE m.es else if c = 73 then mayX m.xs
  else if c = 66 then (m.body.size : Int) ≤ (if m.kind = 15 then 320 else 200) else Fi (numS m c)
instance (m : Ms) (c : Nat) : Decidable (mayS m c) := by unfold mayS; infer_instance
def emptyS (m : Ms) (c : Nat) : Prop :=
  if c = 67 then m.check = mk0 else if c = 83 then m.sums = z6 else if c = 69 then m.entry = en0 else if c = 76 then m.es = [] else if c = 73 then m.xs = [] else if c = 66 then m.body = ⟨#[]⟩ else numS m c = 0
instance (m : Ms) (c : Nat) : Decidable (emptyS m c) := by unfold emptyS; infer_instance
def okS (m : Ms) (c : Nat) : Prop := if c ∈ sgK m.kind then mayS m c else emptyS m c
instance (m : Ms) (c : Nat) : Decidable (okS m c) := by unfold okS; infer_instance
def kindOk (m : Ms) : Prop := (1 ≤ m.kind ∧ m.kind ≤ 16) ∧ 0 ≤ m.frm ∧ m.frm ≤ 255
instance (m : Ms) : Decidable (kindOk m) := by unfold kindOk; infer_instance
theorem kind16 {k : Int} (h : 1 ≤ k ∧ k ≤ 16) : k = 1 ∨ k = 2 ∨ k = 3 ∨ k = 4 ∨ k = 5 ∨ k = 6 ∨ k = 7 ∨ k = 8 ∨ k = 9 ∨ k = 10 ∨ k = 11 ∨ k = 12 ∨ k = 13 ∨ k = 14 ∨ k = 15 ∨ k = 16 := by omega
/-! ### bytes -/
def layP (m : Ms) (c : Nat) : List UInt8 :=
  if c = 67 then chkB m.check else if c = 83 then nb m.sums else if c = 69 then textE m.entry else if c = 76 then UInt8.ofNat m.es.length :: m.es.flatMap textE else if c = 73 then m.xs.flatMap itemB else if c = 66 then sb m.body else []
theorem body_signs (m : Ms) (hr : rightM m) : (sgK m.kind).flatMap (layP m) = bodyM m := by
  obtain ⟨kind, frm, view, lv, opn, commit, client, session, request, oper, index, size, check, sums, entry, es, xs, body⟩ := m
  obtain ⟨⟨hk, -, -, hkept⟩, -⟩ := hr
  have hb0 : sb (⟨#[]⟩ : ByteArray) = [] := rfl
  rcases kind16 hk with rfl | rfl | rfl | rfl | rfl | rfl | rfl | rfl | rfl | rfl | rfl | rfl | rfl | rfl | rfl | rfl
  all_goals
    simp [keptM, ifI, kView, kLog, kOp, kCom, kCli, kOpr, kIdx, kSz, kChk, kEnt, kEs, kBod] at hkept
    simp [sgK, layP, bodyM, kSz, kChk, kEnt, kEs, hkept, hb0]
/-! ### what bytes say -/
def numT (b : List UInt8) (p w : Nat) : Nat × Nat := if p + w ≤ b.length then (leV ((b.drop p).take w), p + w) else (0, p)
def numsT (b : List UInt8) (p : Nat) : Nat → List Nat × Nat
  | 0 => ([], p)
  | k + 1 => ((numsT b p k).1 ++ [(numT b (numsT b p k).2 8).1], (numT b (numsT b p k).2 8).2)
def entT (b : List UInt8) (p : Nat) : En × Nat := if (ttS b p b.length).2.2 = 0 then ((unpackE (ttS b p b.length).1).1, (ttS b p b.length).2.1.toNat) else (en0, p)
def entsT (b : List UInt8) (p : Nat) : Nat → List En × Nat
  | 0 => ([], p)
  | k + 1 => ((entsT b p k).1 ++ [(entT b (entsT b p k).2).1], (entT b (entsT b p k).2).2)
def itemT (b : List UInt8) (p : Nat) : It × Nat :=
  if (numT b p 1).1 = 1 then (⟨1, stubS (entT b (numT b p 1).2).1, (entT b (numT b p 1).2).1⟩, (entT b (numT b p 1).2).2)
  else if (numT b p 1).1 = 2 then (⟨2, stOf (numsT b (numT b p 1).2 5).1, en0⟩, (numsT b (numT b p 1).2 5).2)
  else (⟨((numT b p 1).1 : Int), st0, en0⟩, (numT b p 1).2)
def itemsT (b : List UInt8) (p : Nat) : Nat → List It × Nat
  | 0 => ([], p)
  | k + 1 => ((itemsT b p k).1 ++ [(itemT b (itemsT b p k).2).1], (itemT b (itemsT b p k).2).2)
def mkOf (l : List Nat) : Mk := ⟨sg (l.getD 0 0), sg (l.getD 1 0), l.getD 2 0⟩
def stepT (b : List UInt8) (s : Ms × Nat) (c : Nat) : Ms × Nat :=
  if c = 67 then ({ s.1 with check := mkOf (numsT b s.2 3).1 }, (numsT b s.2 3).2)
  else if c = 83 then ({ s.1 with sums := (numsT b s.2 6).1 }, (numsT b s.2 6).2)
  else if c = 69 then ({ s.1 with entry := (entT b s.2).1 }, (entT b s.2).2)
  else if c = 76 then ({ s.1 with es := s.1.es ++ (entsT b (numT b s.2 1).2 (numT b s.2 1).1).1 }, (entsT b (numT b s.2 1).2 (numT b s.2 1).1).2)
  else if c = 73 then ({ s.1 with xs := s.1.xs ++ (itemsT b s.2 8).1 }, (itemsT b s.2 8).2)
  else if c = 66 then ({ s.1 with body := ⟨(b.drop s.2).toArray⟩ }, s.2)
  else s
def headP (h : Hd) : Ms := ⟨h.kind, h.frm, h.view, h.a, h.opn, h.commit, h.client, h.session, h.request, h.oper, if h.kind = 13 then 0 else h.b, if h.kind = 13 then h.b else 0, mk0, z6, en0, [], [], ⟨#[]⟩⟩
def readP (h : Hd) (b : List UInt8) : Ms := ((sgK h.kind).foldl (stepT b) (headP h, 0)).1
def decP (s : List UInt8) : Ms × Int :=
  if (unpackS s).2.2 = 0 ∧ (unpackS s).1.kind ≤ 16 then if encM (readP (unpackS s).1 (unpackS s).2.1) = (s, 0) then (readP (unpackS s).1 (unpackS s).2.1, 0) else (ms0, 4) else (ms0, 4)
/-! #### a message's own bytes -/
theorem numT_at (x z : List UInt8) (n : Nat) (hn : n < 18446744073709551616) : numT (x ++ (le n 8 ++ z)) x.length 8 = (n, x.length + 8) := by
  unfold numT
  have hl : (le n 8).length = 8 := le_len _ _
  rw [if_pos (by simp [hl])]
  rw [List.drop_left, List.take_append_of_le_length (by omega), List.take_of_length_le (by omega)]
  rw [leV_le 8 n (Nat.div_eq_of_lt (by simpa using hn))]
theorem byteT_at (x z : List UInt8) (c : UInt8) : numT (x ++ (c :: z)) x.length 1 = (c.toNat, x.length + 1) := by
  unfold numT
  rw [if_pos (by simp)]
  rw [List.drop_left]
  simp [leV]
theorem numsT_at (x z : List UInt8) (l : List Nat) (hl : ∀ n ∈ l, n < 18446744073709551616) : ∀ k, k ≤ l.length → numsT (x ++ (nb l ++ z)) x.length k = (l.take k, x.length + 8 * k)
  | 0, _ => by simp [numsT]
  | k + 1, hk => by
    have ih := numsT_at x z l hl k (by omega)
    have hm := hl l[k] (List.getElem_mem _)
    have e1 : nb l ++ z = nb (l.take k) ++ (le l[k] 8 ++ (nb (l.drop (k + 1)) ++ z)) := by
      have e0 : l = l.take k ++ l[k] :: l.drop (k + 1) := by rw [List.getElem_cons_drop, List.take_append_drop]
      conv => lhs; rw [e0]
      rw [nb_app, List.append_assoc]
      congr 1
    have h2 := numT_at (x ++ nb (l.take k)) (nb (l.drop (k + 1)) ++ z) l[k] hm
    rw [List.append_assoc, ← e1, List.length_append, nb_len, List.length_take, Nat.min_eq_left (by omega)] at h2
    unfold numsT
    rw [ih]
    simp only [h2]
    rw [List.take_succ_eq_append_getElem (by omega)]
    rw [Nat.mul_add, Nat.add_assoc]
theorem ttS_atL (x t z : List UInt8) (most : Int) (ht : t.length ≤ 65535) (hm : (t.length : Int) ≤ most) : ttS (x ++ (le t.length 2 ++ t ++ z)) x.length most = (t, ((x.length + 2 + t.length : Nat) : Int), 0) := by
  have h2 : takeS (x ++ (le t.length 2 ++ t ++ z)) x.length 2 = (t.length, 0) := by
    unfold takeS
    have hl : (le t.length 2).length = 2 := le_len _ _
    rw [if_neg (by omega), if_neg (by simp [hl]; omega)]
    congr 1
    show leV ((List.drop ((x.length : Int)).toNat (x ++ (le t.length 2 ++ t ++ z))).take 2) = _
    rw [Int.toNat_natCast, List.drop_left, List.append_assoc, List.take_append_of_le_length (by omega), List.take_of_length_le (by omega)]
    exact leV_le 2 _ (Nat.div_eq_of_lt (by omega))
  unfold ttS
  rw [h2]
  have hl : (le t.length 2).length = 2 := le_len _ _
  rw [if_neg (by simp), if_neg (by omega)]
  unfold ttN
  rw [if_neg (by simp [hl]; omega)]
  have e : List.drop (((x.length : Int)).toNat + 2) (x ++ (le t.length 2 ++ t ++ z)) = t ++ z := by
    rw [Int.toNat_natCast, ← List.drop_drop, List.drop_left, List.append_assoc, List.drop_append_of_le_length (by omega), List.drop_of_length_le (by omega), List.nil_append]
  rw [e, List.take_left]
  simp
theorem entT_at (x z : List UInt8) {e : En} (he : e.fits) (h : Rt e) : entT (x ++ (textE e ++ z)) x.length = (e, x.length + (textE e).length) := by
  have h1 := packE_rt he h
  have h2 := ttS_atL x (packE e).1 z (x ++ (le (packE e).1.length 2 ++ (packE e).1 ++ z)).length (by omega) (by simp; omega)
  have h3 := unpackE_rt he h
  have h4 := textE_len he h
  unfold entT
  rw [show textE e ++ z = le (packE e).1.length 2 ++ (packE e).1 ++ z from rfl, h2]
  simp only [h3, if_true, Int.toNat_natCast]
  congr 1
  omega
theorem entsT_at (x z : List UInt8) (l : List En) (hl : ∀ e ∈ l, e.fits ∧ Rt e) : ∀ k, k ≤ l.length → entsT (x ++ (l.flatMap textE ++ z)) x.length k = (l.take k, x.length + ((l.take k).flatMap textE).length)
  | 0, _ => by simp [entsT]
  | k + 1, hk => by
    have ih := entsT_at x z l hl k (by omega)
    have hm := hl l[k] (List.getElem_mem _)
    have e1 : l.flatMap textE ++ z = (l.take k).flatMap textE ++ (textE l[k] ++ ((l.drop (k + 1)).flatMap textE ++ z)) := by
      have e0 : l = l.take k ++ l[k] :: l.drop (k + 1) := by rw [List.getElem_cons_drop, List.take_append_drop]
      conv => lhs; rw [e0]
      rw [List.flatMap_append, List.flatMap_cons, List.append_assoc, List.append_assoc]
    have h2 := entT_at (x ++ (l.take k).flatMap textE) ((l.drop (k + 1)).flatMap textE ++ z) hm.1 hm.2
    rw [List.append_assoc, ← e1, List.length_append] at h2
    unfold entsT
    rw [ih]
    simp only [h2]
    rw [List.take_succ_eq_append_getElem (by omega)]
    simp only [List.flatMap_append, List.flatMap_cons, List.flatMap_nil, List.append_nil, List.length_append, Nat.add_assoc]
theorem itemT_at (y z : List UInt8) {x : It} (hx : x.fits) (h : itemR x) : itemT (y ++ (itemB x ++ z)) y.length = (x, y.length + (itemB x).length) := by
  obtain ⟨k, s, e⟩ := x
  obtain ⟨hk, hs, he⟩ := hx
  simp only at hk hs he
  unfold itemR at h
  simp only at h
  unfold itemT
  by_cases h1 : k = 1
  · subst h1
    rw [if_pos rfl] at h
    have e1 : itemB ⟨1, s, e⟩ = 1 :: textE e := rfl
    have e0 := byteT_at y (textE e ++ z) 1
    have h2 := entT_at (y ++ [1]) z he h.1
    rw [List.append_assoc, List.length_append] at h2
    change entT (y ++ (1 :: (textE e ++ z))) (y.length + 1) = _ at h2
    rw [e1, List.cons_append, e0]
    simp only [show (1 : UInt8).toNat = 1 from rfl, if_true, h2, h.2, List.length_cons, List.length_nil]
    congr 1
    omega
  · by_cases h2 : k = 2
    · subst h2
      rw [if_neg h1, if_pos rfl] at h
      have e1 : itemB ⟨2, s, e⟩ = 2 :: s.bytes := by
        unfold itemB bytesS
        simp only [if_pos h.1]
        rfl
      have e0 := byteT_at y (s.bytes ++ z) 2
      have hb := sbytes_len s
      have h3 := numsT_at (y ++ [2]) z s.nums (snums_lt s hs) 5 (by rw [snums_len]; exact Nat.le_refl _)
      rw [List.append_assoc, List.length_append, List.take_of_length_le (by rw [snums_len]; exact Nat.le_refl _)] at h3
      change numsT (y ++ (2 :: (s.bytes ++ z))) (y.length + 1) 5 = _ at h3
      rw [e1, List.cons_append, e0]
      simp only [show (2 : UInt8).toNat = 2 from rfl, if_true, h3, nums_stOf s hs, h.2, List.length_cons, List.length_nil, hb]
      rfl
    · rw [if_neg h1, if_neg h2] at h
      obtain ⟨h3, rfl, rfl⟩ := h
      rcases h3 with rfl | rfl
      · have e1 : itemB ⟨0, st0, en0⟩ = [0] := rfl
        have e0 := byteT_at y z 0
        rw [e1]
        change itemT (y ++ (0 :: z)) y.length = _
        unfold itemT
        rw [e0]
        rfl
      · have e1 : itemB ⟨3, st0, en0⟩ = [3] := rfl
        have e0 := byteT_at y z 3
        rw [e1]
        change itemT (y ++ (3 :: z)) y.length = _
        unfold itemT
        rw [e0]
        rfl
theorem itemsT_at (y z : List UInt8) (l : List It) (hl : ∀ e ∈ l, e.fits ∧ itemR e) : ∀ k, k ≤ l.length → itemsT (y ++ (l.flatMap itemB ++ z)) y.length k = (l.take k, y.length + ((l.take k).flatMap itemB).length)
  | 0, _ => by simp [itemsT]
  | k + 1, hk => by
    have ih := itemsT_at y z l hl k (by omega)
    have hm := hl l[k] (List.getElem_mem _)
    have e1 : l.flatMap itemB ++ z = (l.take k).flatMap itemB ++ (itemB l[k] ++ ((l.drop (k + 1)).flatMap itemB ++ z)) := by
      have e0 : l = l.take k ++ l[k] :: l.drop (k + 1) := by rw [List.getElem_cons_drop, List.take_append_drop]
      conv => lhs; rw [e0]
      rw [List.flatMap_append, List.flatMap_cons, List.append_assoc, List.append_assoc]
    have h2 := itemT_at (y ++ (l.take k).flatMap itemB) ((l.drop (k + 1)).flatMap itemB ++ z) hm.1 hm.2
    rw [List.append_assoc, ← e1, List.length_append] at h2
    unfold itemsT
    rw [ih]
    simp only [h2]
    rw [List.take_succ_eq_append_getElem (by omega)]
    simp only [List.flatMap_append, List.flatMap_cons, List.flatMap_nil, List.append_nil, List.length_append, Nat.add_assoc]
theorem mkOf_chk (k : Mk) (hk : k.fits) : mkOf [un k.opn, un k.view, k.sum] = k := by
  obtain ⟨a, b, c⟩ := k
  show (⟨sg (un a), sg (un b), c⟩ : Mk) = _
  rw [sg_un hk.1, sg_un hk.2.1]
theorem chkB_nb (k : Mk) : chkB k = nb [un k.opn, un k.view, k.sum] := by
  unfold chkB
  show _ = le (un k.opn) 8 ++ (le (un k.view) 8 ++ (le k.sum 8 ++ []))
  rw [List.append_nil]
theorem chk_lt (k : Mk) (hk : k.fits) : ∀ n ∈ [un k.opn, un k.view, k.sum], n < 18446744073709551616 := by
  intro n hn
  simp only [List.mem_cons, List.not_mem_nil, or_false] at hn
  rcases hn with rfl | rfl | rfl
  · exact un_lt _
  · exact un_lt _
  · exact hk.2.2
theorem chkT_at (k : Mk) (hk : k.fits) (z : List UInt8) : numsT (chkB k ++ z) 0 3 = ([un k.opn, un k.view, k.sum], 24) := by
  have h := numsT_at [] z _ (chk_lt k hk) 3 (Nat.le_refl _)
  rw [chkB_nb]
  exact h
theorem read_enc (m : Ms) (hf : m.fits) (hr : rightM m) : readP (hdM m) (bodyM m) = m := by
  have hbs := body_signs m hr
  obtain ⟨kind, frm, view, lv, opn, commit, client, session, request, oper, index, size, check, sums, entry, es, xs, body⟩ := m
  obtain ⟨-, -, hc, hs, he, hes, hxs⟩ := hf
  obtain ⟨⟨hk, -, -, hkept⟩, -, ⟨-, -, h8, h7⟩, hRes, hRxs, hRe⟩ := hr
  simp only at hc hs he hes hxs hk h8 h7 hRes hRxs hRe
  have hbm := bytes_mk body
  have hCL := chkB_len check
  have hK := chkT_at check hc
  have hM := mkOf_chk check hc
  have hE := fun (h : kind = 2 ∨ kind = 11) z => entT_at [] z he (hRe h)
  have hS := fun z => numsT_at (chkB check) z sums hs.2 6 (by rw [hs.1]; exact Nat.le_refl _)
  have hN := fun z => byteT_at (chkB check) z (UInt8.ofNat es.length)
  have hL := fun z => entsT_at (chkB check ++ [UInt8.ofNat es.length]) z es (fun e h => ⟨hes e h, hRes e h⟩) es.length (Nat.le_refl _)
  have hX := fun z => itemsT_at (chkB check) z xs (fun x h => ⟨hxs x h, hRxs x h⟩) xs.length (Nat.le_refl _)
  have hs6 : sums.take 6 = sums := List.take_of_length_le (by rw [hs.1]; exact Nat.le_refl _)
  have hn8 : (UInt8.ofNat es.length).toNat = es.length := by simp; omega
  have hd : ∀ z : List UInt8, (chkB check ++ z).drop 24 = z := fun z => by rw [← hCL, List.drop_left]
  rw [hs6] at hS
  rw [hn8] at hN
  rw [hCL] at hS hN hX
  simp only [List.length_append, hCL, List.length_cons, List.length_nil, List.take_length, List.nil_append, List.append_assoc, List.cons_append, Nat.zero_add] at hL hX hE
  have hE0 := fun h => by have := hE h []; rwa [List.append_nil] at this
  have hX0 := by have := hX []; rwa [List.append_nil] at this
  have hL0 := by have := hL []; rwa [List.append_nil] at this
  have hS0 := by have := hS []; rwa [List.append_nil] at this
  have hK0 := by have := hK []; rwa [List.append_nil] at this
  have hN0 := hN (es.flatMap textE)
  rw [← hbs]
  rcases kind16 hk with rfl | rfl | rfl | rfl | rfl | rfl | rfl | rfl | rfl | rfl | rfl | rfl | rfl | rfl | rfl | rfl
  all_goals
    simp [keptM, ifI, kView, kLog, kOp, kCom, kCli, kOpr, kIdx, kSz, kChk, kEnt, kEs, kBod] at hkept
  all_goals
    simp [readP, headP, hdM, sgK, List.foldl, stepT, layP, hbm, hK, hM, hkept, hd]
  · rw [hE0 (.inl rfl)]
  · rw [← h7 rfl, hX0]
  · rw [hN0, hL0]
  · rw [hE0 (.inr rfl)]
  · rw [hS0]
  · rw [hK0]; exact hM
/-! #### what is read is of the machine's -/
theorem numT_lt (b : List UInt8) (p : Nat) : (numT b p 8).1 < 18446744073709551616 := by
  unfold numT
  split
  · exact leV8_lt _ (by simp; omega)
  · simp
theorem byteT_lt (b : List UInt8) (p : Nat) : (numT b p 1).1 < 256 := by
  unfold numT
  split
  · have h : ((b.drop p).take 1).length = 1 := by simp; omega
    match hq : (b.drop p).take 1, h with
    | [c], _ => simp [leV]; exact UInt8.toNat_lt c
  · simp
theorem numsT_len (b : List UInt8) (p : Nat) : ∀ k, (numsT b p k).1.length = k
  | 0 => rfl
  | k + 1 => by simp [numsT, numsT_len b p k]
theorem numsT_lt (b : List UInt8) (p : Nat) : ∀ k, ∀ n ∈ (numsT b p k).1, n < 18446744073709551616
  | 0 => by simp [numsT]
  | k + 1 => by
    intro n hn
    simp only [numsT, List.mem_append, List.mem_singleton] at hn
    rcases hn with hn | rfl
    · exact numsT_lt b p k n hn
    · exact numT_lt _ _
theorem entT_fits (b : List UInt8) (p : Nat) : (entT b p).1.fits := by
  unfold entT
  split
  · exact unpEM_fits _
  · exact en0_fitsM
theorem entsT_fits (b : List UInt8) (p : Nat) : ∀ k, ∀ e ∈ (entsT b p k).1, e.fits
  | 0 => by simp [entsT]
  | k + 1 => by
    intro n hn
    simp only [entsT, List.mem_append, List.mem_singleton] at hn
    rcases hn with hn | rfl
    · exact entsT_fits b p k n hn
    · exact entT_fits _ _
theorem itemT_fits (b : List UInt8) (p : Nat) : (itemT b p).1.fits := by
  unfold itemT
  have h0 := byteT_lt b p
  split
  · exact ⟨by unfold In64; simp, stubS_fits (entT_fits _ _), entT_fits _ _⟩
  · split
    · exact ⟨by unfold In64; simp, stOf_fits _ (numsT_len _ _ _) (numsT_lt _ _ _), en0_fitsM⟩
    · exact ⟨by unfold In64; simp only; omega, st0_fits, en0_fitsM⟩
theorem itemsT_fits (b : List UInt8) (p : Nat) : ∀ k, ∀ e ∈ (itemsT b p k).1, e.fits
  | 0 => by simp [itemsT]
  | k + 1 => by
    intro n hn
    simp only [itemsT, List.mem_append, List.mem_singleton] at hn
    rcases hn with hn | rfl
    · exact itemsT_fits b p k n hn
    · exact itemT_fits _ _
theorem mkOf_fits (l : List Nat) (h : l.length = 3) (hl : ∀ n ∈ l, n < 18446744073709551616) : (mkOf l).fits := by
  match l, h with
  | [a, b, c], _ => exact ⟨sg_in64 _, sg_in64 _, hl c (by simp)⟩
theorem headP_fits {h : Hd} (hh : h.fits) : (headP h).fits := by
  obtain ⟨⟨a1, a2, a3, a4, a5, a6⟩, ⟨b1, b2, b3, b4, b5⟩, hp⟩ := hh
  refine ⟨⟨a1, a2, a4, b4, a5, a6⟩, ⟨b1, b2, b3, a3, ?_, ?_⟩, mk0_fitsM, z6_ok, en0_fitsM, fun e he => by simp [headP] at he, fun e he => by simp [headP] at he⟩
  · show In64 (if h.kind = 13 then 0 else h.b)
    split
    · exact in0
    · exact b5
  · show In64 (if h.kind = 13 then h.b else 0)
    split
    · exact b5
    · exact in0
theorem fits_check {m : Ms} (h : m.fits) {k : Mk} (hk : k.fits) : ({ m with check := k } : Ms).fits := by
  obtain ⟨h1, h2, h3, h4, h5, h6, h7⟩ := h
  exact ⟨h1, h2, hk, h4, h5, h6, h7⟩
theorem fits_sums {m : Ms} (h : m.fits) {l : List Nat} (hl : l.length = 6) (hn : ∀ n ∈ l, n < 18446744073709551616) : ({ m with sums := l } : Ms).fits := by
  obtain ⟨h1, h2, h3, h4, h5, h6, h7⟩ := h
  exact ⟨h1, h2, h3, ⟨hl, hn⟩, h5, h6, h7⟩
theorem fits_entry {m : Ms} (h : m.fits) {e : En} (he : e.fits) : ({ m with entry := e } : Ms).fits := by
  obtain ⟨h1, h2, h3, h4, h5, h6, h7⟩ := h
  exact ⟨h1, h2, h3, h4, he, h6, h7⟩
theorem fits_es {m : Ms} (h : m.fits) {l : List En} (he : ∀ e ∈ l, e.fits) : ({ m with es := l } : Ms).fits := by
  obtain ⟨h1, h2, h3, h4, h5, h6, h7⟩ := h
  exact ⟨h1, h2, h3, h4, h5, he, h7⟩
theorem fits_xs {m : Ms} (h : m.fits) {l : List It} (he : ∀ e ∈ l, e.fits) : ({ m with xs := l } : Ms).fits := by
  obtain ⟨h1, h2, h3, h4, h5, h6, h7⟩ := h
  exact ⟨h1, h2, h3, h4, h5, h6, he⟩
theorem fits_body {m : Ms} (h : m.fits) (b : ByteArray) : ({ m with body := b } : Ms).fits := by
  obtain ⟨h1, h2, h3, h4, h5, h6, h7⟩ := h
  exact ⟨h1, h2, h3, h4, h5, h6, h7⟩
theorem all_app {α : Type} {f : α → Prop} {a b : List α} (ha : ∀ x ∈ a, f x) (hb : ∀ x ∈ b, f x) : ∀ x ∈ a ++ b, f x := fun x hx => (List.mem_append.1 hx).elim (ha x) (hb x)
theorem step_67 (b : List UInt8) (m : Ms) (p : Nat) : stepT b (m, p) 67 = ({ m with check := mkOf (numsT b p 3).1 }, (numsT b p 3).2) := rfl
theorem step_83 (b : List UInt8) (m : Ms) (p : Nat) : stepT b (m, p) 83 = ({ m with sums := (numsT b p 6).1 }, (numsT b p 6).2) := rfl
theorem step_69 (b : List UInt8) (m : Ms) (p : Nat) : stepT b (m, p) 69 = ({ m with entry := (entT b p).1 }, (entT b p).2) := rfl
theorem step_76 (b : List UInt8) (m : Ms) (p : Nat) : stepT b (m, p) 76 = ({ m with es := m.es ++ (entsT b (numT b p 1).2 (numT b p 1).1).1 }, (entsT b (numT b p 1).2 (numT b p 1).1).2) := rfl
theorem step_73 (b : List UInt8) (m : Ms) (p : Nat) : stepT b (m, p) 73 = ({ m with xs := m.xs ++ (itemsT b p 8).1 }, (itemsT b p 8).2) := rfl
theorem step_66 (b : List UInt8) (m : Ms) (p : Nat) : stepT b (m, p) 66 = ({ m with body := ⟨(b.drop p).toArray⟩ }, p) := rfl
/-- the signs that stand in the body -/
def sgB : List Nat := [67, 83, 69, 76, 73, 66]
theorem step_no (b : List UInt8) (s : Ms × Nat) (c : Nat) (h : c ∉ sgB) : stepT b s c = s := by
  simp only [sgB, List.mem_cons, List.not_mem_nil, or_false, not_or] at h
  obtain ⟨h1, h2, h3, h4, h5, h6⟩ := h
  unfold stepT
  rw [if_neg h1, if_neg h2, if_neg h3, if_neg h4, if_neg h5, if_neg h6]
theorem stepT_fits (b : List UInt8) (s : Ms × Nat) (c : Nat) (h : s.1.fits) : (stepT b s c).1.fits := by
  by_cases hc : c ∈ sgB
  · obtain ⟨m, p⟩ := s
    simp only [sgB, List.mem_cons, List.not_mem_nil, or_false] at hc
    rcases hc with rfl | rfl | rfl | rfl | rfl | rfl
    · rw [step_67]; exact fits_check h (mkOf_fits _ (numsT_len _ _ _) (numsT_lt _ _ _))
    · rw [step_83]; exact fits_sums h (numsT_len _ _ _) (numsT_lt _ _ _)
    · rw [step_69]; exact fits_entry h (entT_fits _ _)
    · rw [step_76]; exact fits_es h (all_app h.2.2.2.2.2.1 (entsT_fits _ _ _))
    · rw [step_73]; exact fits_xs h (all_app h.2.2.2.2.2.2 (itemsT_fits _ _ _))
    · rw [step_66]; exact fits_body h _
  · rw [step_no b s c hc]; exact h
theorem foldT_fits (b : List UInt8) : ∀ (l : List Nat) (s : Ms × Nat), s.1.fits → (l.foldl (stepT b) s).1.fits
  | [], _, h => h
  | c :: r, s, h => foldT_fits b r _ (stepT_fits b s c h)
theorem readP_fits {h : Hd} (hh : h.fits) (b : List UInt8) : (readP h b).fits := foldT_fits b _ _ (headP_fits hh)
theorem decP_eq (s : List UInt8) : decP s = decM s := by
  unfold decP
  rcases dec_cases s with e | ⟨m, h1, h2, h3, e⟩
  · rw [e]
    split
    · rename_i hu
      split
      · rename_i hq
        have e1 : unpackS s = ((unpackS s).1, (unpackS s).2.1, 0) := by rw [← hu.1]
        rw [dec_enc (readP_fits (unpM_ok e1).2 _) hq] at e
        exact absurd (congrArg Prod.snd e) (by simp)
      · rfl
    · rfl
  · have e1 : unpackS s = ((unpackS s).1, (unpackS s).2.1, 0) := by rw [← h1]
    have hf := parse_fits (unpM_ok e1).2 h2
    have hr := enc_right h3
    have hu := unpack_enc hf h3
    have hk := hr.1.1.2
    rw [e, hu]
    simp only [read_enc m hf hr, h3, if_true]
    rw [if_pos ⟨trivial, hk⟩]
end Go.Proofs.YtcildaeiogdfdaaGreatDoor
/-
  What may be, sign by sign.
-/
namespace Go.Proofs.YtcildaeiogdfdaaGreatDoor
open Go.RowKit
set_option maxRecDepth 10000

set_option maxHeartbeats 8000000 in
theorem right_signs (m : Ms) (hf : m.fits) : rightM m ↔ kindOk m ∧ ∀ c ∈ sgA, okS m c := by
  obtain ⟨kind, frm, view, lv, opn, commit, client, session, request, oper, index, size, check, sums, entry, es, xs, body⟩ := m
  by_cases hk : 1 ≤ kind ∧ kind ≤ 16
  · have hb0 : (⟨#[]⟩ : ByteArray).size = 0 := rfl
    have hm0 : mk0.opn = 0 ∧ mk0.view = 0 := ⟨rfl, rfl⟩
    clear hf
    rcases kind16 hk with rfl | rfl | rfl | rfl | rfl | rfl | rfl | rfl | rfl | rfl | rfl | rfl | rfl | rfl | rfl | rfl
    all_goals
      simp only [rightM, kindOk, sgA, List.mem_cons, List.not_mem_nil, or_false, forall_eq_or_imp, forall_eq, okS, sgK, mayS, emptyS, numS, numsM, keptM, ifI, kView, kLog, kOp, kCom, kCli, kOpr, kIdx, kSz, kChk, kEnt, kEs, kBod, Ms.mk.injEq, mayE, mayX]
      simp [Fi]
      constructor
      · intro h
        simp_all
        try omega
      · intro h
        simp_all
        try omega
  · constructor
    · intro h; exact absurd h.1.1 hk
    · intro h; exact absurd h.1.1 hk
end Go.Proofs.YtcildaeiogdfdaaGreatDoor
