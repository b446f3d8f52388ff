/-
  Plain words on entries: packed and read again, turned; the walk of EntryTurns.
-/
import Derived.Test.YtneacphibklbgaaDoorM08
import Derived.Test.YtneacphibklbgaaDoorM02
import Derived.Test.YtneacphibklbgaaDoorM11
import Derived.Test.YtneacphibklbgaaDoorM10
import Derived.Test.YtneacphibklbgaaDoorM05
namespace Go.Proofs.YtneacphibklbgaaDoor
open Go.RowKit
set_option maxRecDepth 10000

theorem packE_ok {e : En} {s : List UInt8} (h : packE e = (s, 0)) : Rt e ∧ packS (hof e) (sb e.body) = (s, 0) := by
  unfold packE at h
  by_cases h1 : Rt e
  · rw [if_pos h1] at h
    exact ⟨h1, h⟩
  · rw [if_neg h1] at h
    simp at h
theorem eof_hof (e : En) : eof (hof e) ⟨(sb e.body).toArray⟩ = e := by
  obtain ⟨view, opn, under, parent, client, session, request, oper, body⟩ := e
  simp only [eof, hof, mk_sb]
theorem unpackE_pack {e : En} {s : List UInt8} (he : e.fits) (h : packE e = (s, 0)) : unpackE s = (e, 0) := by
  obtain ⟨h1, h2⟩ := packE_ok h
  have h3 := unpack_pack (packS_rt he h1).2 h2
  unfold unpackE
  rw [h3]
  simp [eof_hof, h1]
theorem packE_len {e : En} {s : List UInt8} (h : packE e = (s, 0)) : s.length = 128 + e.body.size ∧ (e.body.size : Int) ≤ 200 := by
  obtain ⟨h1, h2⟩ := packE_ok h
  obtain ⟨_, _, h3⟩ := packS_ok h2
  rw [h3, List.length_append, headB_len, sb_len]
  exact ⟨rfl, h1.2.2.2.2.2.2.2.2⟩
end Go.Proofs.YtneacphibklbgaaDoor
/-
  The walks of MarkOf, package entry's and the document's.
-/
namespace Go.Proofs.YtneacphibklbgaaDoor
open Go.RowKit
set_option maxRecDepth 10000

/-- what MarkOf answers -/
def markE (e : En) : Mk := if (packE e).2 = 0 then ⟨e.opn, e.view, (chainOf (BitVec.ofNat 64 e.parent) (packE e).1).toNat⟩ else mk0
theorem wp_store_st {P : Program} {o : Oper} {a : Act} {w : World} {K : Act → World → Prop} {Q : Exit → Act → World → Prop} {T : TypeId} (x y : Operand) (ho : o.op = .store T x y) {n : Nat} (hn : (P.info? T).map (·.size) = some n)
    (g : Nat) (cs0 cs : Array Value) (hx : a.eval x = .pointer (some ⟨g, 0, none⟩)) (hy : a.eval y = .agg cs) (hrow : Row w g T cs0.toList) (h0 : cs0.size = n) (h1 : cs.size = n) (hone : cs.all (·.oneCell') = true)
    (hK : ∀ w', Row w' g T cs.toList → w.grownBy w' (some g) → K (a.put o.dst undef) w') : o.wp P a w K Q :=
  wp_store_row T x y ho g cs hx hy T cs0 hrow.arr (by rw [hn, h1]) (by simp [h0, h1]) (by simpa using hone)
    (hK _ (by
      have := setRow_heap w g cs0 cs T (0, 0) hrow.arr
      simpa [Row] using this) (grownBy_setRow w g _))
set_option maxHeartbeats 1000000 in
theorem emark_no (view opn under : Int) (parent : Nat) (client session request oper : Int) (body : ByteArray) (T : ByteArray) (f : Int) (w : World) (hf : Fd w) (h0 : (f != 0) = true)
    (HP : Hid (∀ W : World, Fd W → Calls Tryd.prog 58 #[.agg #[.int .i64 view, .int .i64 opn, .int .i64 under, .int .u64 (parent : Int), .int .i64 client, .int .i64 session, .int .i64 request, .int .i64 oper, .string body]] W fun x W' => x = .returned (.tuple #[.string T, .int .i64 f]) ∧ Below W.heap.size W W')) :
    Calls Tryd.prog 36 #[.agg #[.int .i64 view, .int .i64 opn, .int .i64 under, .int .u64 (parent : Int), .int .i64 client, .int .i64 session, .int .i64 request, .int .i64 oper, .string body]] w (VE w (.agg #[.int .i64 0, .int .i64 0, .int .u64 0])) := by
  have HZ := hid esize
  have HZM := hid msize
  have HB0 : Hid (Below w.heap.size w ((w.alloc (.cells #[.int .i64 view, .int .i64 opn, .int .i64 under, .int .u64 (parent : Int), .int .i64 client, .int .i64 session, .int .i64 request, .int .i64 oper, .string body] 28)).alloc (.cells #[.int .i64 0, .int .i64 0, .int .u64 0] 73))) := hid (((Below.refl w.heap.size w).alloc (Nat.le_refl _) _).alloc (by simp) _)
  have HE0 : Hid (Row ((w.alloc (.cells #[.int .i64 view, .int .i64 opn, .int .i64 under, .int .u64 (parent : Int), .int .i64 client, .int .i64 session, .int .i64 request, .int .i64 oper, .string body] 28)).alloc (.cells #[.int .i64 0, .int .i64 0, .int .u64 0] 73)) w.heap.size 28 (#[.int .i64 view, .int .i64 opn, .int .i64 under, .int .u64 (parent : Int), .int .i64 client, .int .i64 session, .int .i64 request, .int .i64 oper, .string body] : Array Value).toList) := hid ((Row.new _ _ _).alloc _)
  have HM0 : Hid (Row ((w.alloc (.cells #[.int .i64 view, .int .i64 opn, .int .i64 under, .int .u64 (parent : Int), .int .i64 client, .int .i64 session, .int .i64 request, .int .i64 oper, .string body] 28)).alloc (.cells #[.int .i64 0, .int .i64 0, .int .u64 0] 73)) (w.heap.size + 1) 73 (#[.int .i64 0, .int .i64 0, .int .u64 0] : Array Value).toList) := hid (by
    have := Row.new (w.alloc (.cells #[.int .i64 view, .int .i64 opn, .int .i64 under, .int .u64 (parent : Int), .int .i64 client, .int .i64 session, .int .i64 request, .int .i64 oper, .string body] 28)) 73 #[.int .i64 0, .int .i64 0, .int .u64 0]
    simpa using this)
  have HF := hid hf
  clear hf
  go_enter Tryd.func36, Tryd.ntmps36
  go_wp2_with (first
    | (go_at_call 58; refine (HP.out _ (HF.out.below HB0.out HF.out.1)).mono ?_; rintro e w1 ⟨rfl, hb1⟩; have hbb := HB0.out.trans (hb1.mono HB0.out.size); have he := HE0.out.below hb1 HE0.out.lt; have hm := HM0.out.below hb1 HM0.out.lt; clear hb1)
    | (refine wpl_store_st rfl (.tmp 2) (.tmp 12) rfl HZM.out (w.heap.size + 1) #[.int .i64 0, .int .i64 0, .int .u64 0] #[.int .i64 0, .int .i64 0, .int .u64 0] rfl rfl hm ?_ (hid rfl) (hid rfl) (hid (by simp [Value.oneCell'])); intro wz hrz hgz; have HBZ := hid (hbb.trans (below_grown hgz (by omega) hbb.size)); clear hgz))
  refine bodyPost_ret (v := .agg #[.int .i64 0, .int .i64 0, .int .u64 0])
    (results_cell_row rfl _ _ (w.heap.size + 1) 73 _ (0, 0) _ rfl (Row.arr (cs := #[.int .i64 0, .int .i64 0, .int .u64 0]) hrz) Tryd.underlying73 rfl HZM.out) rfl ⟨rfl, HBZ.out⟩
set_option maxHeartbeats 2000000 in
theorem emark_yes (view opn under : Int) (parent : Nat) (client session request oper : Int) (body : ByteArray) (T : ByteArray) (q : Nat) (w : World) (hf : Fd w)
    (HP : Hid (∀ W : World, Fd W → Calls Tryd.prog 58 #[.agg #[.int .i64 view, .int .i64 opn, .int .i64 under, .int .u64 (parent : Int), .int .i64 client, .int .i64 session, .int .i64 request, .int .i64 oper, .string body]] W fun x W' => x = .returned (.tuple #[.string T, .int .i64 0]) ∧ Below W.heap.size W W'))
    (HC : Hid (∀ W : World, Calls Tryd.prog 59 #[.int .u64 (parent : Int), .string T] W fun e w' => e = .returned (.int .u64 (q : Int)) ∧ Below W.heap.size W w')) :
    Calls Tryd.prog 36 #[.agg #[.int .i64 view, .int .i64 opn, .int .i64 under, .int .u64 (parent : Int), .int .i64 client, .int .i64 session, .int .i64 request, .int .i64 oper, .string body]] w (VE w (.agg #[.int .i64 opn, .int .i64 view, .int .u64 (q : Int)])) := by
  have HZ := hid esize
  have HZM := hid msize
  have HB0 : Hid (Below w.heap.size w ((w.alloc (.cells #[.int .i64 view, .int .i64 opn, .int .i64 under, .int .u64 (parent : Int), .int .i64 client, .int .i64 session, .int .i64 request, .int .i64 oper, .string body] 28)).alloc (.cells #[.int .i64 0, .int .i64 0, .int .u64 0] 73))) := hid (((Below.refl w.heap.size w).alloc (Nat.le_refl _) _).alloc (by simp) _)
  have HE0 : Hid (Row ((w.alloc (.cells #[.int .i64 view, .int .i64 opn, .int .i64 under, .int .u64 (parent : Int), .int .i64 client, .int .i64 session, .int .i64 request, .int .i64 oper, .string body] 28)).alloc (.cells #[.int .i64 0, .int .i64 0, .int .u64 0] 73)) w.heap.size 28 (#[.int .i64 view, .int .i64 opn, .int .i64 under, .int .u64 (parent : Int), .int .i64 client, .int .i64 session, .int .i64 request, .int .i64 oper, .string body] : Array Value).toList) := hid ((Row.new _ _ _).alloc _)
  have HM0 : Hid (Row ((w.alloc (.cells #[.int .i64 view, .int .i64 opn, .int .i64 under, .int .u64 (parent : Int), .int .i64 client, .int .i64 session, .int .i64 request, .int .i64 oper, .string body] 28)).alloc (.cells #[.int .i64 0, .int .i64 0, .int .u64 0] 73)) (w.heap.size + 1) 73 (#[.int .i64 0, .int .i64 0, .int .u64 0] : Array Value).toList) := hid (by
    have := Row.new (w.alloc (.cells #[.int .i64 view, .int .i64 opn, .int .i64 under, .int .u64 (parent : Int), .int .i64 client, .int .i64 session, .int .i64 request, .int .i64 oper, .string body] 28)) 73 #[.int .i64 0, .int .i64 0, .int .u64 0]
    simpa using this)
  have HF := hid hf
  clear hf
  go_enter Tryd.func36, Tryd.ntmps36
  go_wp2_with (go_at_call 58; refine (HP.out _ (HF.out.below HB0.out HF.out.1)).mono ?_; rintro e w1 ⟨rfl, hb1⟩; have hbb := HB0.out.trans (hb1.mono HB0.out.size); have he := HE0.out.below hb1 HE0.out.lt; have hm := HM0.out.below hb1 HM0.out.lt; clear hb1)
  try simp only [Act.put]
  have HBB := hid hbb
  have HEB := hid he
  have HMB := hid hm
  clear hbb he hm
  refine wp_region_held_drew (S := fun W => Below w.heap.size w W ∧ Row W w.heap.size 28 (#[.int .i64 view, .int .i64 opn, .int .i64 under, .int .u64 (parent : Int), .int .i64 client, .int .i64 session, .int .i64 request, .int .i64 oper, .string body] : Array Value).toList ∧ ∃ z : Array Value, z.size = 3 ∧ Row W (w.heap.size + 1) 73 z.toList) (by kernel_rfl) ⟨HBB.out.drew, HEB.out, #[.int .i64 0, .int .i64 0, .int .u64 0], rfl, HMB.out⟩ (fun hH => ?_)
  refine wpAnyH_take (i := 0) (v := .pointer (some ⟨w.heap.size, 1, none⟩)) rfl (by kernel_rfl) (by kernel_rfl) (by kernel_rfl) (fun _ _ _ h => h) (Or.inl ⟨by rfl, fun w' hw' => by clear hw'; go_simp⟩) hH ?_
  simp only [Act.put]
  refine wpAnyH_take (i := 1) (v := .int .i64 opn) rfl (by kernel_rfl) (by kernel_rfl) (by kernel_rfl) (fun _ _ _ h => h) (Or.inl ⟨by rfl, fun w' hw' => by have h := hw'.2.1.at_ 1 _ rfl; clear hw'; go_simp⟩) hH ?_
  simp only [Act.put]
  refine wpAnyH_take (i := 2) (v := .pointer (some ⟨w.heap.size, 0, none⟩)) rfl (by kernel_rfl) (by kernel_rfl) (by kernel_rfl) (fun _ _ _ h => h) (Or.inl ⟨by rfl, fun w' hw' => by clear hw'; go_simp⟩) hH ?_
  simp only [Act.put]
  refine wpAnyH_take (i := 3) (v := .int .i64 view) rfl (by kernel_rfl) (by kernel_rfl) (by kernel_rfl) (fun _ _ _ h => h) (Or.inl ⟨by rfl, fun w' hw' => by have h := hw'.2.1.at_ 0 _ rfl; clear hw'; go_simp⟩) hH ?_
  simp only [Act.put]
  refine wpAnyH_take (i := 4) (v := .pointer (some ⟨w.heap.size, 3, none⟩)) rfl (by kernel_rfl) (by kernel_rfl) (by kernel_rfl) (fun _ _ _ h => h) (Or.inl ⟨by rfl, fun w' hw' => by clear hw'; go_simp⟩) hH ?_
  simp only [Act.put]
  refine wpAnyH_take (i := 5) (v := .int .u64 (parent : Int)) rfl (by kernel_rfl) (by kernel_rfl) (by kernel_rfl) (fun _ _ _ h => h) (Or.inl ⟨by rfl, fun w' hw' => by have h := hw'.2.1.at_ 3 _ rfl; clear hw'; go_simp⟩) hH ?_
  simp only [Act.put]
  refine wpAnyH_take (i := 6) (v := .string T) rfl (by kernel_rfl) (by kernel_rfl) (by kernel_rfl) (fun _ _ _ h => h) (Or.inl ⟨by rfl, fun w' hw' => by clear hw'; go_simp⟩) hH ?_
  simp only [Act.put]
  refine wpAnyH_ready (rs := [7]) (by kernel_rfl) (by simp) ?_
  refine AllReadyH.cons rfl (fun K hK => ?_) AllReadyH.nil
  go_simp
  go_at_call 59
  refine (HC.out _).mono ?_
  rintro e w2 ⟨rfl, hb2⟩
  go_wp2_with fail
  refine hK.out _ _ (⟨hH.1.trans (Below.mono hb2 hH.1.size), Row.below hH.2.1 hb2 hH.2.1.lt, hH.2.2.elim fun z h => ⟨z, h.1, Row.below h.2 hb2 h.2.lt⟩⟩) (fun hH => ?_)
  clear hK K
  try simp only [Act.put]
  refine wpAnyH_take (i := 8) (v := .agg #[.int .i64 opn, .int .i64 view, .int .u64 (q : Int)]) rfl (by kernel_rfl) (by kernel_rfl) (by kernel_rfl) (fun _ _ _ h => h) (Or.inl ⟨by rfl, fun w' hw' => by clear hw'; go_simp⟩) hH ?_
  simp only [Act.put]
  refine wpAnyH_ready (rs := [9]) (by kernel_rfl) (by simp) ?_
  refine AllReadyH.cons rfl (fun K hK => ?_) AllReadyH.nil
  obtain ⟨hb8, he8, z, hz8, hm8⟩ := hH
  rw [if_pos (by kernel_rfl)]
  refine wp_store_st (.tmp 2) (.tmp 21) rfl HZM.out (w.heap.size + 1) z #[.int .i64 opn, .int .i64 view, .int .u64 (q : Int)] rfl rfl hm8 hz8 rfl (by simp [Value.oneCell']) (fun w9 hr9 hg9 => ?_)
  have hb9 : Below w.heap.size w w9 := hb8.trans (below_grown hg9 (by omega) hb8.size)
  refine hK.out _ _ ⟨hb9, he8.grown hg9 (by intro e; have := Option.some.inj e; omega), _, rfl, hr9⟩ (fun hH => ?_)
  clear hK K
  try simp only [Act.put]
  refine wpAnyH_done (by kernel_rfl) ?_ _
  try simp only [Act.put]
  go_wp2_with fail
  refine bodyPost_ret (v := .agg #[.int .i64 opn, .int .i64 view, .int .u64 (q : Int)])
    (results_cell_row rfl _ _ (w.heap.size + 1) 73 _ (0, 0) _ rfl (Row.arr (cs := #[.int .i64 opn, .int .i64 view, .int .u64 (q : Int)]) hr9) Tryd.underlying73 rfl HZM.out) rfl ⟨rfl, hb9⟩
theorem emark_any (e : En) (he : e.fits) (w : World) (hf : Fd w) : Calls Tryd.prog 36 #[e.val] w (VE w (markE e).val) := by
  have HP := hid (fun W hW => epack_any e W hW)
  unfold markE
  have hp : (BitVec.ofNat 64 e.parent).toNat = e.parent := by
    rw [BitVec.toNat_ofNat]
    exact Nat.mod_eq_of_lt he.2.2
  by_cases h0 : (packE e).2 = 0
  · rw [if_pos h0]
    have hl := packE_len (e := e) (s := (packE e).1) (by rw [← h0])
    have HC := hid (fun W => chain_calls (BitVec.ofNat 64 e.parent) ⟨(packE e).1.toArray⟩ W (by rw [← sb_len, sb_mk]; omega))
    rw [hp, sb_mk] at HC
    generalize (chainOf (BitVec.ofNat 64 e.parent) (packE e).1).toNat = q at *
    clear hl
    generalize packE e = r at *
    obtain ⟨rl, rf⟩ := r
    simp only at h0
    subst h0
    obtain ⟨view, opn, under, parent, client, session, request, oper, body⟩ := e
    exact emark_yes view opn under parent client session request oper body ⟨rl.toArray⟩ q w hf HP HC
  · rw [if_neg h0]
    generalize packE e = r at *
    obtain ⟨view, opn, under, parent, client, session, request, oper, body⟩ := e
    exact emark_no view opn under parent client session request oper body ⟨r.1.toArray⟩ r.2 w hf (by simpa using h0) HP
end Go.Proofs.YtneacphibklbgaaDoor
/-
  Plain words on slots: stubs, their numbers, their bytes; what a sector has; what two sectors say together.
-/
namespace Go.Proofs.YtneacphibklbgaaDoor
open Go.RowKit
set_option maxRecDepth 10000

theorem sg_in64 (n : Nat) : In64 (sg n) := by
  unfold In64 sg wrap64
  omega
/-- a stub -/
structure St where
  opn : Int
  view : Int
  under : Int
  parent : Nat
  sum : Nat
deriving DecidableEq
def St.cells (s : St) : Array Value := #[.int .i64 s.opn, .int .i64 s.view, .int .i64 s.under, .int .u64 (s.parent : Int), .int .u64 (s.sum : Int)]
def St.val (s : St) : Value := .agg s.cells
def st0 : St := ⟨0, 0, 0, 0, 0⟩
abbrev U64 (n : Nat) : Prop := n < 18446744073709551616
/-- of the machine's -/
def St.fits (s : St) : Prop := (In64 s.opn ∧ In64 s.view ∧ In64 s.under) ∧ U64 s.parent ∧ U64 s.sum
theorem st0_fits : st0.fits := by unfold St.fits st0 In64 U64; simp
/-- its numbers -/
def St.nums (s : St) : List Nat := [un s.opn, un s.view, un s.under, s.parent, s.sum]
theorem snums_len (s : St) : s.nums.length = 5 := rfl
theorem snums_lt (s : St) (h : s.fits) : ∀ n ∈ s.nums, n < 18446744073709551616 := by
  obtain ⟨-, a0, a1⟩ := h
  intro n hn
  simp only [St.nums, List.mem_cons, List.not_mem_nil, or_false] at hn
  rcases hn with rfl | rfl | rfl | rfl | rfl <;> first | exact un_lt _ | assumption
/-- the bytes of numbers -/
def nb : List Nat → List UInt8
  | [] => []
  | n :: r => le n 8 ++ nb r
theorem nb_len : ∀ l, (nb l).length = 8 * l.length
  | [] => rfl
  | n :: r => by simp [nb, le_len, nb_len r]; omega
theorem nb_app : ∀ a b, nb (a ++ b) = nb a ++ nb b
  | [], b => rfl
  | n :: r, b => by simp [nb, nb_app r b]
/-- the numbers of bytes -/
def tn (b : List UInt8) (k : Nat) : Nat := leV ((b.drop (8 * k)).take 8)
def takeT (b : List UInt8) : List Nat := (List.range 5).map (tn b)
theorem takeT_len (b : List UInt8) : (takeT b).length = 5 := by simp [takeT]
theorem leV8_lt (l : List UInt8) (h : l.length ≤ 8) : leV l < 18446744073709551616 := by
  have h1 : ∀ m : List UInt8, leV m < 2 ^ (8 * m.length) := by
    intro m
    induction m with
    | nil => simp [leV]
    | cons b r ih =>
      have := UInt8.toNat_lt b
      have e : 2 ^ (8 * (r.length + 1)) = 256 * 2 ^ (8 * r.length) := by rw [show 8 * (r.length + 1) = 8 + 8 * r.length by omega, Nat.pow_add]
      simp only [leV, List.length_cons, e]
      omega
  exact Nat.lt_of_lt_of_le (h1 l) (Nat.le_trans (Nat.pow_le_pow_right (by omega) (show 8 * l.length ≤ 64 by omega)) (by decide))
theorem tn_lt (b : List UInt8) (k : Nat) : tn b k < 18446744073709551616 := leV8_lt _ (by simp; omega)
theorem takeT_lt (b : List UInt8) : ∀ n ∈ takeT b, n < 18446744073709551616 := by
  intro n hn
  simp only [takeT, List.mem_map] at hn
  obtain ⟨k, _, rfl⟩ := hn
  exact tn_lt b k
/-- the stub of numbers -/
def stOf (l : List Nat) : St := ⟨sg (l.getD 0 0), sg (l.getD 1 0), sg (l.getD 2 0), l.getD 3 0, l.getD 4 0⟩
theorem list5 (l : List Nat) (h : l.length = 5) : ∃ a b c d e, l = [a, b, c, d, e] := by
  match l, h with
  | [a, b, c, d, e], _ => exact ⟨a, b, c, d, e, rfl⟩
theorem nums_stOf (s : St) (h : s.fits) : stOf s.nums = s := by
  obtain ⟨⟨a0, a1, a2⟩, -, -⟩ := h
  obtain ⟨opn, view, under, parent, sum⟩ := s
  show St.mk (sg (un opn)) (sg (un view)) (sg (un under)) parent sum = _
  rw [sg_un a0, sg_un a1, sg_un a2]
theorem stOf_fits (l : List Nat) (h : l.length = 5) (h2 : ∀ n ∈ l, n < 18446744073709551616) : (stOf l).fits := by
  obtain ⟨a, b, c, d, e, rfl⟩ := list5 l h
  simp only [List.mem_cons, List.not_mem_nil, or_false, forall_eq_or_imp, forall_eq] at h2
  obtain ⟨u0, u1, u2, u3, u4⟩ := h2
  exact ⟨⟨sg_in64 _, sg_in64 _, sg_in64 _⟩, u3, u4⟩
/-- its bytes -/
def St.bytes (s : St) : List UInt8 := nb s.nums
theorem sbytes_len (s : St) : s.bytes.length = 40 := by rw [St.bytes, nb_len, snums_len]
theorem tn_app (x : List UInt8) (r : List UInt8) (k : Nat) (hx : x.length = 8) : tn (x ++ r) (k + 1) = tn r k := by
  unfold tn
  rw [show 8 * (k + 1) = 8 + 8 * k by omega, ← List.drop_drop, ← hx, List.drop_left]
theorem tn_zero (n : Nat) (r : List UInt8) (hn : n < 18446744073709551616) : tn (le n 8 ++ r) 0 = n := by
  unfold tn
  rw [Nat.mul_zero, List.drop_zero, List.take_append_of_le_length (by rw [le_len]; omega), List.take_of_length_le (by rw [le_len]; omega)]
  exact leV_le 8 n (Nat.div_eq_of_lt (by simpa using hn))
theorem tn_nb : ∀ (l : List Nat) (k : Nat) (h : k < l.length), (∀ n ∈ l, n < 18446744073709551616) → tn (nb l) k = l[k]
  | n :: r, 0, _, hl => by simp only [nb, List.getElem_cons_zero]; exact tn_zero n _ (hl n (by simp))
  | n :: r, k + 1, h, hl => by
    simp only [nb, List.getElem_cons_succ]
    rw [tn_app _ _ _ (le_len 8 n)]
    exact tn_nb r k (by simpa using h) (fun m hm => hl m (by simp [hm]))
theorem takeT_nb (l : List Nat) (h : l.length = 5) (hl : ∀ n ∈ l, n < 18446744073709551616) : takeT (nb l) = l := by
  apply List.ext_getElem
  · rw [takeT_len, h]
  · intro k h1 h2
    simp only [takeT, List.getElem_map, List.getElem_range]
    exact tn_nb l k h2 hl
/-- may it be? -/
def SRt (s : St) : Prop := (1 ≤ s.opn ∧ s.opn ≤ 72057594037927935) ∧ 0 ≤ s.under ∧ s.under ≤ s.view ∧ s.view ≤ 72057594037927935
instance (s : St) : Decidable (SRt s) := by unfold SRt; infer_instance
theorem st0_not : ¬ SRt st0 := by unfold SRt st0; simp
/-- what packStub answers -/
def packT (s : St) : List UInt8 × Int := if SRt s then (s.bytes, 0) else ([], 4)
/-- what unpackStub answers -/
def unpackT (b : List UInt8) : St × Int := if b.length = 40 ∧ SRt (stOf (takeT b)) then (stOf (takeT b), 0) else (st0, 4)
theorem unpackT_pack (s : St) (hf : s.fits) (h : SRt s) : unpackT s.bytes = (s, 0) := by
  have e : stOf (takeT s.bytes) = s := by rw [St.bytes, takeT_nb _ (snums_len s) (snums_lt s hf), nums_stOf s hf]
  unfold unpackT
  rw [e, if_pos ⟨sbytes_len s, h⟩]
theorem unpackT_fits (b : List UInt8) : (unpackT b).1.fits := by
  unfold unpackT
  split
  · exact stOf_fits _ (takeT_len b) (takeT_lt b)
  · exact st0_fits
theorem unpackT_ok {b : List UInt8} (h : (unpackT b).2 = 0) : SRt (unpackT b).1 := by
  unfold unpackT at h ⊢
  split
  · rename_i h1
    exact h1.2
  · rename_i h1
    rw [if_neg h1] at h
    cases h
theorem packE_rt {e : En} (he : e.fits) (h : Rt e) : (packE e).2 = 0 ∧ (packE e).1.length = 128 + e.body.size ∧ e.body.size ≤ 200 := by
  have h1 := packS_rt he h
  have h2 : packE e = packS (hof e) (sb e.body) := if_pos h
  have h3 : (e.body.size : Int) ≤ 200 := h.2.2.2.2.2.2.2.2
  have h4 := packS_yes (body := sb e.body) h1.1 (by rw [sb_len]; omega)
  have h5 : packE e = ((packE e).1, 0) := by rw [h2, h4]
  exact ⟨by rw [h5], (packE_len h5).1, by omega⟩
/-- an entry's stub -/
def stubS (e : En) : St := if Rt e then ⟨e.opn, e.view, e.under, e.parent, (markE e).sum⟩ else st0
theorem markE_sum (e : En) : U64 (markE e).sum := by
  unfold markE
  split
  · exact (chainOf _ _).isLt
  · show 0 < _
    decide
theorem stubS_fits {e : En} (he : e.fits) : (stubS e).fits := by
  unfold stubS
  split
  · exact ⟨⟨he.1.2.1, he.1.1, he.1.2.2.1⟩, he.2.2, markE_sum e⟩
  · exact st0_fits
theorem stubS_rt {e : En} (h : Rt e) : stubS e = ⟨e.opn, e.view, e.under, e.parent, (markE e).sum⟩ := if_pos h
theorem stubS_ok {e : En} (h : Rt e) : SRt (stubS e) := by
  rw [stubS_rt h]
  obtain ⟨⟨a, b⟩, -, ⟨c, d⟩, ⟨f, g⟩, h⟩ := h
  exact ⟨⟨a, b⟩, f, by show e.under ≤ e.view; omega, d⟩
/-- the sector of an entry, of a stub, of nothing -/
def prepS (old : List UInt8) (e : En) : List UInt8 × Int := if (packE e).2 = 0 then sealS old (packE e).1 else ([], (packE e).2)
def hdrS (old : List UInt8) (s : St) : List UInt8 × Int := if SRt s then sealS old s.bytes else ([], 4)
def voidS (old : List UInt8) : List UInt8 := (sealS old []).1
/-- what a prepare sector has -/
def entryS (p : List UInt8) : En × Bool × Bool := if (openS p).1 = [] then (en0, false, (openS p).2) else if (unpackE (openS p).1).2 = 0 then ((unpackE (openS p).1).1, true, true) else (en0, false, false)
/-- what a header sector has -/
def stubT (h : List UInt8) : St × Bool × Bool := if (openS h).1 = [] then (st0, false, (openS h).2) else if (unpackT (openS h).1).2 = 0 then ((unpackT (openS h).1).1, true, true) else (st0, false, false)
/-- a slot's -/
structure It where
  kind : Int
  stub : St
  entry : En
def It.cells (i : It) : Array Value := #[.int .i64 i.kind, .int .i64 i.stub.opn, .int .i64 i.stub.view, .int .i64 i.stub.under, .int .u64 (i.stub.parent : Int), .int .u64 (i.stub.sum : Int), .int .i64 i.entry.view, .int .i64 i.entry.opn, .int .i64 i.entry.under, .int .u64 (i.entry.parent : Int), .int .i64 i.entry.client, .int .i64 i.entry.session, .int .i64 i.entry.request, .int .i64 i.entry.oper, .string i.entry.body]
def It.val (i : It) : Value := .agg i.cells
def it0 : It := ⟨0, st0, en0⟩
/-- what two sectors are together for an operation -/
def judgeS (p h : List UInt8) (n : Int) : It :=
  if (stubT h).2.1 = true ∧ (stubT h).1.opn = n ∧ stubS (entryS p).1 = (stubT h).1 then ⟨1, stubS (entryS p).1, (entryS p).1⟩
  else if (stubT h).2.1 = true ∧ (stubT h).1.opn = n then ⟨2, (stubT h).1, en0⟩
  else if (stubT h).2.2 = true then it0
  else if (entryS p).2.1 = true ∧ (entryS p).1.opn = n then ⟨1, stubS (entryS p).1, (entryS p).1⟩
  else if (entryS p).2.2 = true then it0
  else ⟨3, st0, en0⟩
end Go.Proofs.YtneacphibklbgaaDoor
/-
  The walks of package slot's right, numbers, stubOf.
-/
namespace Go.Proofs.YtneacphibklbgaaDoor
open Go.RowKit
set_option maxRecDepth 10000

theorem srt_bool (s : St) : decide (SRt s) = (decide (1 ≤ s.opn) && decide (s.opn ≤ 72057594037927935) && decide (0 ≤ s.under) && decide (s.under ≤ s.view) && decide (s.view ≤ 72057594037927935)) := by
  rw [Bool.eq_iff_iff, decide_eq_true_iff]
  unfold SRt
  simp only [Bool.and_eq_true, decide_eq_true_eq]
  constructor
  · rintro ⟨⟨h1, h2⟩, h3, h4, h5⟩
    exact ⟨⟨⟨⟨h1, h2⟩, h3⟩, h4⟩, h5⟩
  · rintro ⟨⟨⟨⟨h1, h2⟩, h3⟩, h4⟩, h5⟩
    exact ⟨⟨h1, h2⟩, h3, h4, h5⟩
set_option maxHeartbeats 2000000 in
theorem sright_any (s : St) (w : World) : Calls Tryd.prog 87 #[s.val] w (VE w (.bool (decide (SRt s)))) := by
  rw [srt_bool]
  obtain ⟨opn, view, under, parent, sum⟩ := s
  show Calls Tryd.prog 87 #[.agg #[.int .i64 opn, .int .i64 view, .int .i64 under, .int .u64 (parent : Int), .int .u64 (sum : Int)]] w (VE w (.bool (decide (1 ≤ opn) && decide (opn ≤ 72057594037927935) && decide (0 ≤ under) && decide (under ≤ view) && decide (view ≤ 72057594037927935))))
  generalize hb1 : decide (1 ≤ opn) = b1
  generalize hb2 : decide (opn ≤ 72057594037927935) = b2
  generalize hb3 : decide (0 ≤ under) = b3
  generalize hb4 : decide (under ≤ view) = b4
  generalize hb5 : decide (view ≤ 72057594037927935) = b5
  cases b1 <;> (try cases b2) <;> (try cases b3) <;> (try cases b4) <;> (
    go_enter Tryd.func87, Tryd.ntmps87
    go_wp2_with fail
    go_ret
    refine ⟨by first | rfl | simp [*] | (simp_all; done), (Below.refl _ _).alloc (Nat.le_refl _) _⟩)
theorem stsize : (Tryd.prog.info? 42).map (·.size) = some 5 := by kernel_rfl
theorem stcells_one (s : St) : s.cells.all (·.oneCell') = true := by simp [St.cells, Value.oneCell']
set_option maxHeartbeats 1000000 in
theorem snumbers_any (s : St) (w : World) : Calls Tryd.prog 101 #[s.val] w (VE w (.agg (av s.nums).toArray)) := by
  obtain ⟨opn, view, under, parent, sum⟩ := s
  show Calls Tryd.prog 101 #[.agg #[.int .i64 opn, .int .i64 view, .int .i64 under, .int .u64 (parent : Int), .int .u64 (sum : Int)]] w (VE w (.agg #[.int .u64 ((un opn : Nat) : Int), .int .u64 ((un view : Nat) : Int), .int .u64 ((un under : Nat) : Int), .int .u64 (parent : Int), .int .u64 (sum : Int)]))
  simp only [← un_wrap]
  go_enter Tryd.func101, Tryd.ntmps101
  go_wp2_with fail
  exact bodyPost_ret (results_cell_row rfl _ _ (w.heap.size + 1) 132 _ (0, 0) _ rfl (alloc2_new _ _ _) Tryd.underlying132 rfl (by kernel_rfl)) rfl ⟨rfl, ((Below.refl _ _).alloc (Nat.le_refl _) _).alloc (by simp) _⟩
set_option maxHeartbeats 1000000 in
theorem sstubOf_any (l : List Nat) (hl : l.length = 5) (w : World) : Calls Tryd.prog 86 #[.agg (av l).toArray] w (VE w (stOf l).val) := by
  obtain ⟨a, b, c, d, e, rfl⟩ := list5 l hl
  show Calls Tryd.prog 86 #[.agg #[.int .u64 (a : Int), .int .u64 (b : Int), .int .u64 (c : Int), .int .u64 (d : Int), .int .u64 (e : Int)]] w (VE w (.agg #[.int .i64 (sg a), .int .i64 (sg b), .int .i64 (sg c), .int .u64 (d : Int), .int .u64 (e : Int)]))
  unfold sg
  go_enter Tryd.func86, Tryd.ntmps86
  go_wp2_with fail
  exact bodyPost_ret (results_cell_row rfl _ _ (w.heap.size + 1) 42 _ (0, 0) _ rfl (alloc2_new _ _ _) Tryd.underlying42 rfl (by kernel_rfl)) rfl ⟨rfl, ((Below.refl _ _).alloc (Nat.le_refl _) _).alloc (by simp) _⟩
end Go.Proofs.YtneacphibklbgaaDoor
/-
  The walks of StubOf, package slot's and the document's.
-/
namespace Go.Proofs.YtneacphibklbgaaDoor
open Go.RowKit
set_option maxRecDepth 10000

set_option maxHeartbeats 1000000 in
theorem sstub_no (view opn under : Int) (parent : Nat) (client session request oper : Int) (body : ByteArray) (w : World)
    (HR : Hid (∀ W : World, Calls Tryd.prog 10 #[.agg #[.int .i64 view, .int .i64 opn, .int .i64 under, .int .u64 (parent : Int), .int .i64 client, .int .i64 session, .int .i64 request, .int .i64 oper, .string body]] W (VE W (.bool false)))) :
    Calls Tryd.prog 13 #[.agg #[.int .i64 view, .int .i64 opn, .int .i64 under, .int .u64 (parent : Int), .int .i64 client, .int .i64 session, .int .i64 request, .int .i64 oper, .string body]] w (VE w (.agg #[.int .i64 0, .int .i64 0, .int .i64 0, .int .u64 0, .int .u64 0])) := by
  have HZ := hid esize
  have HZM := hid stsize
  have HB0 : Hid (Below w.heap.size w ((w.alloc (.cells #[.int .i64 view, .int .i64 opn, .int .i64 under, .int .u64 (parent : Int), .int .i64 client, .int .i64 session, .int .i64 request, .int .i64 oper, .string body] 28)).alloc (.cells #[.int .i64 0, .int .i64 0, .int .i64 0, .int .u64 0, .int .u64 0] 42))) := hid (((Below.refl w.heap.size w).alloc (Nat.le_refl _) _).alloc (by simp) _)
  have HE0 : Hid (Row ((w.alloc (.cells #[.int .i64 view, .int .i64 opn, .int .i64 under, .int .u64 (parent : Int), .int .i64 client, .int .i64 session, .int .i64 request, .int .i64 oper, .string body] 28)).alloc (.cells #[.int .i64 0, .int .i64 0, .int .i64 0, .int .u64 0, .int .u64 0] 42)) w.heap.size 28 (#[.int .i64 view, .int .i64 opn, .int .i64 under, .int .u64 (parent : Int), .int .i64 client, .int .i64 session, .int .i64 request, .int .i64 oper, .string body] : Array Value).toList) := hid ((Row.new _ _ _).alloc _)
  have HM0 : Hid (Row ((w.alloc (.cells #[.int .i64 view, .int .i64 opn, .int .i64 under, .int .u64 (parent : Int), .int .i64 client, .int .i64 session, .int .i64 request, .int .i64 oper, .string body] 28)).alloc (.cells #[.int .i64 0, .int .i64 0, .int .i64 0, .int .u64 0, .int .u64 0] 42)) (w.heap.size + 1) 42 (#[.int .i64 0, .int .i64 0, .int .i64 0, .int .u64 0, .int .u64 0] : Array Value).toList) := hid (by
    have := Row.new (w.alloc (.cells #[.int .i64 view, .int .i64 opn, .int .i64 under, .int .u64 (parent : Int), .int .i64 client, .int .i64 session, .int .i64 request, .int .i64 oper, .string body] 28)) 42 #[.int .i64 0, .int .i64 0, .int .i64 0, .int .u64 0, .int .u64 0]
    simpa using this)
  have HW0 : Hid (∃ W0, W0 = (w.alloc (.cells #[.int .i64 view, .int .i64 opn, .int .i64 under, .int .u64 (parent : Int), .int .i64 client, .int .i64 session, .int .i64 request, .int .i64 oper, .string body] 28)).alloc (.cells #[.int .i64 0, .int .i64 0, .int .i64 0, .int .u64 0, .int .u64 0] 42)) := hid ⟨_, rfl⟩
  go_enter Tryd.func13, Tryd.ntmps13
  go_wp2_with (first
    | (refine wpList_load_row rfl 28 (.tmp 1) rfl w.heap.size rfl 28 #[.int .i64 view, .int .i64 opn, .int .i64 under, .int .u64 (parent : Int), .int .i64 client, .int .i64 session, .int .i64 request, .int .i64 oper, .string body] (0, 0) _ (Row.arr (cs := #[.int .i64 view, .int .i64 opn, .int .i64 under, .int .u64 (parent : Int), .int .i64 client, .int .i64 session, .int .i64 request, .int .i64 oper, .string body]) HE0.out) Tryd.underlying28 rfl HZ.out ?_)
    | (go_at_call 10; refine (HR.out _).mono ?_; rintro e w1 ⟨rfl, hb1⟩; have hbb := HB0.out.trans (hb1.mono HB0.out.size); have he := HE0.out.below hb1 HE0.out.lt; have hm := HM0.out.below hb1 HM0.out.lt; clear hb1)
    | (refine wpl_store_st rfl (.tmp 2) (.tmp 6) rfl HZM.out (w.heap.size + 1) #[.int .i64 0, .int .i64 0, .int .i64 0, .int .u64 0, .int .u64 0] #[.int .i64 0, .int .i64 0, .int .i64 0, .int .u64 0, .int .u64 0] rfl rfl hm ?_ (hid rfl) (hid rfl) (hid (by simp [Value.oneCell'])); intro wz hrz hgz; have HBZ := hid (hbb.trans (below_grown hgz (by omega) hbb.size)); clear hgz))
  refine bodyPost_ret (v := .agg #[.int .i64 0, .int .i64 0, .int .i64 0, .int .u64 0, .int .u64 0])
    (results_cell_row rfl _ _ (w.heap.size + 1) 42 _ (0, 0) _ rfl (Row.arr (cs := #[.int .i64 0, .int .i64 0, .int .i64 0, .int .u64 0, .int .u64 0]) hrz) Tryd.underlying42 rfl HZM.out) rfl ⟨rfl, HBZ.out⟩
set_option maxHeartbeats 2000000 in
theorem sstub_yes (view opn under : Int) (parent : Nat) (client session request oper : Int) (body : ByteArray) (q : Nat) (w : World) (hf : Fd w)
    (HR : Hid (∀ W : World, Calls Tryd.prog 10 #[.agg #[.int .i64 view, .int .i64 opn, .int .i64 under, .int .u64 (parent : Int), .int .i64 client, .int .i64 session, .int .i64 request, .int .i64 oper, .string body]] W (VE W (.bool true))))
    (HK : Hid (∀ W : World, Fd W → Calls Tryd.prog 36 #[.agg #[.int .i64 view, .int .i64 opn, .int .i64 under, .int .u64 (parent : Int), .int .i64 client, .int .i64 session, .int .i64 request, .int .i64 oper, .string body]] W (VE W (.agg #[.int .i64 opn, .int .i64 view, .int .u64 (q : Int)])))) :
    Calls Tryd.prog 13 #[.agg #[.int .i64 view, .int .i64 opn, .int .i64 under, .int .u64 (parent : Int), .int .i64 client, .int .i64 session, .int .i64 request, .int .i64 oper, .string body]] w (VE w (.agg #[.int .i64 opn, .int .i64 view, .int .i64 under, .int .u64 (parent : Int), .int .u64 (q : Int)])) := by
  have HZ := hid esize
  have HZM := hid stsize
  have HB0 : Hid (Below w.heap.size w ((w.alloc (.cells #[.int .i64 view, .int .i64 opn, .int .i64 under, .int .u64 (parent : Int), .int .i64 client, .int .i64 session, .int .i64 request, .int .i64 oper, .string body] 28)).alloc (.cells #[.int .i64 0, .int .i64 0, .int .i64 0, .int .u64 0, .int .u64 0] 42))) := hid (((Below.refl w.heap.size w).alloc (Nat.le_refl _) _).alloc (by simp) _)
  have HE0 : Hid (Row ((w.alloc (.cells #[.int .i64 view, .int .i64 opn, .int .i64 under, .int .u64 (parent : Int), .int .i64 client, .int .i64 session, .int .i64 request, .int .i64 oper, .string body] 28)).alloc (.cells #[.int .i64 0, .int .i64 0, .int .i64 0, .int .u64 0, .int .u64 0] 42)) w.heap.size 28 (#[.int .i64 view, .int .i64 opn, .int .i64 under, .int .u64 (parent : Int), .int .i64 client, .int .i64 session, .int .i64 request, .int .i64 oper, .string body] : Array Value).toList) := hid ((Row.new _ _ _).alloc _)
  have HM0 : Hid (Row ((w.alloc (.cells #[.int .i64 view, .int .i64 opn, .int .i64 under, .int .u64 (parent : Int), .int .i64 client, .int .i64 session, .int .i64 request, .int .i64 oper, .string body] 28)).alloc (.cells #[.int .i64 0, .int .i64 0, .int .i64 0, .int .u64 0, .int .u64 0] 42)) (w.heap.size + 1) 42 (#[.int .i64 0, .int .i64 0, .int .i64 0, .int .u64 0, .int .u64 0] : Array Value).toList) := hid (by
    have := Row.new (w.alloc (.cells #[.int .i64 view, .int .i64 opn, .int .i64 under, .int .u64 (parent : Int), .int .i64 client, .int .i64 session, .int .i64 request, .int .i64 oper, .string body] 28)) 42 #[.int .i64 0, .int .i64 0, .int .i64 0, .int .u64 0, .int .u64 0]
    simpa using this)
  have HW0 : Hid (∃ W0, W0 = (w.alloc (.cells #[.int .i64 view, .int .i64 opn, .int .i64 under, .int .u64 (parent : Int), .int .i64 client, .int .i64 session, .int .i64 request, .int .i64 oper, .string body] 28)).alloc (.cells #[.int .i64 0, .int .i64 0, .int .i64 0, .int .u64 0, .int .u64 0] 42)) := hid ⟨_, rfl⟩
  have HF := hid hf
  clear hf
  go_enter Tryd.func13, Tryd.ntmps13
  go_wp2_with (first
    | (refine wpList_load_row rfl 28 (.tmp 1) rfl w.heap.size rfl 28 #[.int .i64 view, .int .i64 opn, .int .i64 under, .int .u64 (parent : Int), .int .i64 client, .int .i64 session, .int .i64 request, .int .i64 oper, .string body] (0, 0) _ (Row.arr (cs := #[.int .i64 view, .int .i64 opn, .int .i64 under, .int .u64 (parent : Int), .int .i64 client, .int .i64 session, .int .i64 request, .int .i64 oper, .string body]) HE0.out) Tryd.underlying28 rfl HZ.out ?_)
    | (go_at_call 10; refine (HR.out _).mono ?_; rintro e w1 ⟨rfl, hb1⟩; have hbb := HB0.out.trans (hb1.mono HB0.out.size); have he := HE0.out.below hb1 HE0.out.lt; have hm := HM0.out.below hb1 HM0.out.lt; clear hb1))
  try simp only [Act.put]
  have HBB := hid hbb
  have HEB := hid he
  have HMB := hid hm
  clear hbb he hm
  refine wp_region_held_drew (S := fun W => Below w.heap.size w W ∧ Row W w.heap.size 28 (#[.int .i64 view, .int .i64 opn, .int .i64 under, .int .u64 (parent : Int), .int .i64 client, .int .i64 session, .int .i64 request, .int .i64 oper, .string body] : Array Value).toList ∧ ∃ z : Array Value, z.size = 5 ∧ Row W (w.heap.size + 1) 42 z.toList) (by kernel_rfl) ⟨HBB.out.drew, HEB.out, #[.int .i64 0, .int .i64 0, .int .i64 0, .int .u64 0, .int .u64 0], rfl, HMB.out⟩ (fun hH => ?_)
  refine wpAnyH_take (i := 0) (v := .pointer (some ⟨w.heap.size, 1, none⟩)) rfl (by kernel_rfl) (by kernel_rfl) (by kernel_rfl) (fun _ _ _ h => h) (Or.inl ⟨by rfl, fun w' hw' => by clear hw'; go_simp⟩) hH ?_
  simp only [Act.put]
  refine wpAnyH_take (i := 1) (v := .int .i64 opn) rfl (by kernel_rfl) (by kernel_rfl) (by kernel_rfl) (fun _ _ _ h => h) (Or.inl ⟨by rfl, fun w' hw' => by have h := hw'.2.1.at_ 1 _ rfl; clear hw'; go_simp⟩) hH ?_
  simp only [Act.put]
  refine wpAnyH_take (i := 2) (v := .pointer (some ⟨w.heap.size, 0, none⟩)) rfl (by kernel_rfl) (by kernel_rfl) (by kernel_rfl) (fun _ _ _ h => h) (Or.inl ⟨by rfl, fun w' hw' => by clear hw'; go_simp⟩) hH ?_
  simp only [Act.put]
  refine wpAnyH_take (i := 3) (v := .int .i64 view) rfl (by kernel_rfl) (by kernel_rfl) (by kernel_rfl) (fun _ _ _ h => h) (Or.inl ⟨by rfl, fun w' hw' => by have h := hw'.2.1.at_ 0 _ rfl; clear hw'; go_simp⟩) hH ?_
  simp only [Act.put]
  refine wpAnyH_take (i := 4) (v := .pointer (some ⟨w.heap.size, 2, none⟩)) rfl (by kernel_rfl) (by kernel_rfl) (by kernel_rfl) (fun _ _ _ h => h) (Or.inl ⟨by rfl, fun w' hw' => by clear hw'; go_simp⟩) hH ?_
  simp only [Act.put]
  refine wpAnyH_take (i := 5) (v := .int .i64 under) rfl (by kernel_rfl) (by kernel_rfl) (by kernel_rfl) (fun _ _ _ h => h) (Or.inl ⟨by rfl, fun w' hw' => by have h := hw'.2.1.at_ 2 _ rfl; clear hw'; go_simp⟩) hH ?_
  simp only [Act.put]
  refine wpAnyH_take (i := 6) (v := .pointer (some ⟨w.heap.size, 3, none⟩)) rfl (by kernel_rfl) (by kernel_rfl) (by kernel_rfl) (fun _ _ _ h => h) (Or.inl ⟨by rfl, fun w' hw' => by clear hw'; go_simp⟩) hH ?_
  simp only [Act.put]
  refine wpAnyH_take (i := 7) (v := .int .u64 (parent : Int)) rfl (by kernel_rfl) (by kernel_rfl) (by kernel_rfl) (fun _ _ _ h => h) (Or.inl ⟨by rfl, fun w' hw' => by have h := hw'.2.1.at_ 3 _ rfl; clear hw'; go_simp⟩) hH ?_
  simp only [Act.put]
  refine wpAnyH_take (i := 8) (v := .agg #[.int .i64 view, .int .i64 opn, .int .i64 under, .int .u64 (parent : Int), .int .i64 client, .int .i64 session, .int .i64 request, .int .i64 oper, .string body]) rfl (by kernel_rfl) (by kernel_rfl) (by kernel_rfl) (fun _ _ _ h => h) ?_ hH ?_
  · refine yieldsIf_load_mid ?_ 28 (.tmp 1) ?_ w.heap.size 0 ?_ (Array.toList #[.int .i64 view, .int .i64 opn, .int .i64 under, .int .u64 (parent : Int), .int .i64 client, .int .i64 session, .int .i64 request, .int .i64 oper, .string body]) _ (fun W hW => Row.range (hW.2.1)) Tryd.underlying28 rfl HZ.out
    all_goals kernel_rfl
  simp only [Act.put]
  refine wpAnyH_ready (rs := [9]) (by kernel_rfl) (by simp) ?_
  refine AllReadyH.cons rfl (fun K hK => ?_) AllReadyH.nil
  go_simp
  go_at_call 36
  refine (HK.out _ (HF.out.below hH.1 HF.out.1)).mono ?_
  rintro e w2 ⟨rfl, hb2⟩
  go_wp2_with fail
  refine hK.out _ _ (⟨hH.1.trans (Below.mono hb2 hH.1.size), Row.below hH.2.1 hb2 hH.2.1.lt, hH.2.2.elim fun z h => ⟨z, h.1, Row.below h.2 hb2 h.2.lt⟩⟩) (fun hH => ?_)
  clear hK K
  try simp only [Act.put]
  refine wpAnyH_take (i := 10) (v := .int .u64 (q : Int)) rfl (by kernel_rfl) (by kernel_rfl) (by kernel_rfl) (fun _ _ _ h => h) (Or.inl ⟨by kernel_rfl, fun w' _ => by kernel_rfl⟩) hH ?_
  simp only [Act.put]
  refine wpAnyH_take (i := 11) (v := .agg #[.int .i64 opn, .int .i64 view, .int .i64 under, .int .u64 (parent : Int), .int .u64 (q : Int)]) rfl (by kernel_rfl) (by kernel_rfl) (by kernel_rfl) (fun _ _ _ h => h) (Or.inl ⟨by rfl, fun w' hw' => by clear hw'; go_simp⟩) hH ?_
  simp only [Act.put]
  refine wpAnyH_ready (rs := [12]) (by kernel_rfl) (by simp) ?_
  refine AllReadyH.cons rfl (fun K hK => ?_) AllReadyH.nil
  obtain ⟨hb8, he8, z, hz8, hm8⟩ := hH
  rw [if_pos (by kernel_rfl)]
  refine wp_store_st (.tmp 2) (.tmp 18) rfl HZM.out (w.heap.size + 1) z #[.int .i64 opn, .int .i64 view, .int .i64 under, .int .u64 (parent : Int), .int .u64 (q : Int)] rfl rfl hm8 hz8 rfl (by simp [Value.oneCell']) (fun w9 hr9 hg9 => ?_)
  have hb9 : Below w.heap.size w w9 := hb8.trans (below_grown hg9 (by omega) hb8.size)
  refine hK.out _ _ ⟨hb9, he8.grown hg9 (by intro e; have := Option.some.inj e; omega), _, rfl, hr9⟩ (fun hH => ?_)
  clear hK K
  try simp only [Act.put]
  refine wpAnyH_done (by kernel_rfl) ?_ _
  try simp only [Act.put]
  go_wp2_with fail
  refine bodyPost_ret (v := .agg #[.int .i64 opn, .int .i64 view, .int .i64 under, .int .u64 (parent : Int), .int .u64 (q : Int)])
    (results_cell_row rfl _ _ (w.heap.size + 1) 42 _ (0, 0) _ rfl (Row.arr (cs := #[.int .i64 opn, .int .i64 view, .int .i64 under, .int .u64 (parent : Int), .int .u64 (q : Int)]) hr9) Tryd.underlying42 rfl HZM.out) rfl ⟨rfl, hb9⟩
theorem sstub_any (e : En) (he : e.fits) (w : World) (hf : Fd w) : Calls Tryd.prog 13 #[e.val] w (VE w (stubS e).val) := by
  have HR := hid (fun W => eright_any e W)
  by_cases h : Rt e
  · have HK := hid (fun W hW => emark_any e he W hW)
    rw [stubS_rt h]
    rw [decide_eq_true h] at HR
    have em : markE e = ⟨e.opn, e.view, (markE e).sum⟩ := by
      unfold markE
      rw [if_pos ((packE_rt he h).1)]
    rw [em] at HK
    generalize (markE e).sum = q at *
    clear em h
    obtain ⟨view, opn, under, parent, client, session, request, oper, body⟩ := e
    exact sstub_yes view opn under parent client session request oper body q w hf HR HK
  · rw [show stubS e = st0 from if_neg h]
    rw [decide_eq_false h] at HR
    obtain ⟨view, opn, under, parent, client, session, request, oper, body⟩ := e
    exact sstub_no view opn under parent client session request oper body w HR
end Go.Proofs.YtneacphibklbgaaDoor
