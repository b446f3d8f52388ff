/-
  Plain words on headers: their numbers, their bytes, the table of places, as lists.
-/
import Derived.Test.YtknalgobndbngaaDoorTake
import Derived.Test.YtknalgobndbngaaDoorRadd
import Derived.Test.YtknalgobndbngaaDoorZeros
namespace Go.Proofs.YtknalgobndbngaaDoor
open Go.RowKit

/-- a header's numbers -/
structure Hd where
  kind : Int
  frm : Int
  oper : Int
  view : Int
  opn : Int
  commit : Int
  client : Int
  session : Int
  request : Int
  a : Int
  b : Int
  parent : Nat
deriving DecidableEq

def Hd.cells (h : Hd) : Array Value := #[.int .i64 h.kind, .int .i64 h.frm, .int .i64 h.oper, .int .i64 h.view, .int .i64 h.opn, .int .i64 h.commit, .int .i64 h.client, .int .i64 h.session, .int .i64 h.request, .int .i64 h.a, .int .i64 h.b, .int .u64 (h.parent : Int)]
def Hd.val (h : Hd) : Value := .agg h.cells
def In64 (x : Int) : Prop := -9223372036854775808 ≤ x ∧ x ≤ 9223372036854775807
/-- a header of the machine's -/
def Hd.fits (h : Hd) : Prop := (In64 h.kind ∧ In64 h.frm ∧ In64 h.oper ∧ In64 h.view ∧ In64 h.opn ∧ In64 h.commit) ∧ (In64 h.client ∧ In64 h.session ∧ In64 h.request ∧ In64 h.a ∧ In64 h.b) ∧ h.parent < 18446744073709551616

/-- an int's bits as a number -/
def un (x : Int) : Nat := (IntKind.u64.wrap x).toNat
theorem un_in {x : Int} (h0 : 0 ≤ x) (h1 : x ≤ 18446744073709551615) : un x = x.toNat := by
  unfold un
  rw [IntWalk.u64_in x ⟨h0, by omega⟩]
theorem un_wrap (x : Int) : IntKind.u64.wrap x = ((un x : Nat) : Int) := by
  unfold un
  have : 0 ≤ IntKind.u64.wrap x := by rw [IntKind.wrap_u64]; omega
  omega
theorem un_eq (x : Int) : ((un x : Nat) : Int) = x % 18446744073709551616 := by rw [← un_wrap, IntKind.wrap_u64]
theorem un_lt (x : Int) : un x < 18446744073709551616 := by have := un_eq x; omega

def Hd.nums (h : Hd) : List Nat := [0, un h.kind, un h.frm, un h.oper, 0, 0, h.parent, un h.view, un h.opn, un h.commit, un h.client, un h.session, un h.request, un h.a, un h.b]
theorem nums_len (h : Hd) : h.nums.length = 15 := rfl
def av (l : List Nat) : List Value := l.map fun (n : Nat) => .int .u64 (n : Int)
theorem av_len (l : List Nat) : (av l).length = l.length := by simp [av]
theorem av_get (l : List Nat) (k : Nat) (h : k < l.length) : (av l)[k]? = some (.int .u64 ((l[k] : Nat) : Int)) := by simp [av, h]
theorem av_set (l : List Nat) (k n : Nat) : (av l).set k (.int .u64 (n : Int)) = av (l.set k n) := by simp [av, List.map_set]
theorem av_one (l : List Nat) : ∀ u ∈ av l, u.oneCell' = true := by
  intro u hu
  simp only [av, List.mem_map] at hu
  obtain ⟨b, _, rfl⟩ := hu
  rfl

/-- the table: bytes and the greatest number of each place -/
def sizes : List Nat := [4, 1, 1, 1, 1, 4, 8, 8, 8, 8, 8, 8, 8, 8, 8]
def mosts : List Nat := [4294967295, 255, 255, 255, 0, 4294967295, 18446744073709551615, 72057594037927935, 72057594037927935, 72057594037927935, 72057594037927935, 72057594037927935, 72057594037927935, 72057594037927935, 72057594037927935]
def fcells : List Value := [.int .i64 4, .int .u64 4294967295, .int .i64 1, .int .u64 255, .int .i64 1, .int .u64 255, .int .i64 1, .int .u64 255, .int .i64 1, .int .u64 0, .int .i64 4, .int .u64 4294967295, .int .i64 8, .int .u64 18446744073709551615, .int .i64 8, .int .u64 72057594037927935, .int .i64 8, .int .u64 72057594037927935, .int .i64 8, .int .u64 72057594037927935, .int .i64 8, .int .u64 72057594037927935, .int .i64 8, .int .u64 72057594037927935, .int .i64 8, .int .u64 72057594037927935, .int .i64 8, .int .u64 72057594037927935, .int .i64 8, .int .u64 72057594037927935]
def sz (k : Nat) : Nat := sizes.getD k 0
def mo (k : Nat) : Nat := mosts.getD k 0
theorem sz_lo : ∀ k, k < 15 → 1 ≤ sz k ∧ sz k ≤ 8 := by decide
theorem mo_lt : ∀ k, k < 15 → mo k < 2 ^ (8 * sz k) := by decide
theorem mo_64 : ∀ k, k < 15 → mo k < 18446744073709551616 := by decide
theorem fcell_sz : ∀ k, k < 15 → fcells[k * 2]? = some (.int .i64 (sz k : Nat)) := by
  intro k hk
  match k, hk with
  | 0, _ | 1, _ | 2, _ | 3, _ | 4, _ | 5, _ | 6, _ | 7, _ | 8, _ | 9, _ | 10, _ | 11, _ | 12, _ | 13, _ | 14, _ => rfl
theorem fcell_mo : ∀ k, k < 15 → fcells[k * 2 + 1]? = some (.int .u64 (mo k : Nat)) := by
  intro k hk
  match k, hk with
  | 0, _ | 1, _ | 2, _ | 3, _ | 4, _ | 5, _ | 6, _ | 7, _ | 8, _ | 9, _ | 10, _ | 11, _ | 12, _ | 13, _ | 14, _ => rfl

/-- the table lies where its initialiser laid it -/
def Fd (w : World) : Prop := 1 ≤ w.heap.size ∧ Rd w 1 (some ⟨0, 0, none⟩) fcells
theorem Fd.below {w w' : World} {B : Nat} (h : Fd w) (hb : Below B w w') (hB : 1 ≤ B) : Fd w' :=
  ⟨Nat.le_trans h.1 hb.size, h.2.below hb hB⟩
theorem Fd.size {w : World} {k : Nat} (h : Fd w) (hk : k < 15) : w.cell? ⟨0, k * 2, none⟩ = some (.int .i64 (sz k : Nat)) := by
  obtain ⟨g, o, e, _, hc⟩ := h.2 (by simp [fcells])
  cases e
  simpa using hc _ _ (fcell_sz k hk)
theorem Fd.most {w : World} {k : Nat} (h : Fd w) (hk : k < 15) : w.cell? ⟨0, k * 2 + 1, none⟩ = some (.int .u64 (mo k : Nat)) := by
  obtain ⟨g, o, e, _, hc⟩ := h.2 (by simp [fcells])
  cases e
  simpa using hc _ _ (fcell_mo k hk)

/-- do the numbers fit? -/
def Fits (l : List Nat) : Prop := l.length = 15 ∧ ∀ k (h : k < l.length), l[k] ≤ mo k
instance (l : List Nat) : Decidable (Fits l) := by unfold Fits; infer_instance

/-- the bytes of the first k numbers -/
def fl (l : List Nat) : Nat → List UInt8
  | 0 => []
  | k + 1 => fl l k ++ le (l.getD k 0) (sz k)
def off : Nat → Nat
  | 0 => 0
  | k + 1 => off k + sz k
theorem fl_len (l : List Nat) : ∀ k, (fl l k).length = off k
  | 0 => rfl
  | k + 1 => by simp [fl, off, fl_len l k, le_len]
theorem off_le : ∀ k, k ≤ 15 → off k ≤ 84 := by decide
theorem off_15 : off 15 = 84 := by decide
/-- the bytes behind the sum -/
def restS (l : List Nat) : List UInt8 := fl l 15 ++ List.replicate 40 0
theorem restS_len (l : List Nat) : (restS l).length = 124 := by simp [restS, fl_len, off_15]
def sumS (l : List UInt8) : List UInt8 := le (addS 0#32 l).toNat 4
theorem sumS_len (l : List UInt8) : (sumS l).length = 4 := le_len _ _
/-- a header's bytes -/
def headB (l : List Nat) : List UInt8 := sumS (restS l) ++ restS l
theorem headB_len (l : List Nat) : (headB l).length = 128 := by simp [headB, sumS_len, restS_len]

/-- the numbers with the body's -/
def full (h : Hd) (body : List UInt8) : List Nat := (h.nums.set 0 (addS 0#32 body).toNat).set 5 body.length
theorem full_len (h : Hd) (body : List UInt8) : (full h body).length = 15 := by simp [full, nums_len]

/-- what Pack answers -/
def packS (h : Hd) (body : List UInt8) : List UInt8 × Int :=
  if ¬ Fits h.nums then ([], 4) else if 3968 < body.length then ([], 5) else (headB (full h body) ++ body, 0)

/-- the k-th number of a header's bytes -/
def tk (s : List UInt8) (k : Nat) : Nat := leV ((s.drop (4 + off k)).take (sz k))
def takeN (s : List UInt8) : List Nat := (List.range 15).map (tk s)

/-- a number's bits as an int -/
def sg (n : Nat) : Int := wrap64 (n : Int)
def hdOf (l : List Nat) : Hd :=
  { kind := sg (l.getD 1 0), frm := sg (l.getD 2 0), oper := sg (l.getD 3 0), view := sg (l.getD 7 0), opn := sg (l.getD 8 0), commit := sg (l.getD 9 0), client := sg (l.getD 10 0), session := sg (l.getD 11 0),
    request := sg (l.getD 12 0), a := sg (l.getD 13 0), b := sg (l.getD 14 0), parent := l.getD 6 0 }
def hd0 : Hd := ⟨0, 0, 0, 0, 0, 0, 0, 0, 0, 0, 0, 0⟩

/-- what Unpack answers -/
def unpackS (s : List UInt8) : Hd × List UInt8 × Int :=
  if s.length < 128 then (hd0, [], 4)
  else if packS (hdOf (takeN (s.take 128))) (s.drop 128) = (s, 0) then (hdOf (takeN (s.take 128)), s.drop 128, 0) else (hd0, [], 4)
end Go.Proofs.YtknalgobndbngaaDoor
