/-
  Plain words on entries: packed and read again, turned; the walk of EntryTurns.
-/
import Derived.Test.YtafbeepacncooaaDoorM07
import Derived.Test.YtafbeepacncooaaDoorM02
import Derived.Test.YtafbeepacncooaaDoorM09
import Derived.Test.YtafbeepacncooaaDoorM05
import Derived.Test.YtafbeepacncooaaDoorM03
namespace Go.Proofs.YtafbeepacncooaaDoor
open Go.RowKit
set_option maxRecDepth 10000

theorem packE_ok {e : En} {s : List UInt8} (h : packE e = (s, 0)) : Rt e ∧ packS (hof e) (sb e.body) = (s, 0) := by
  unfold packE at h
  by_cases h1 : Rt e
  · rw [if_pos h1] at h
    exact ⟨h1, h⟩
  · rw [if_neg h1] at h
    simp at h
theorem eof_hof (e : En) : eof (hof e) ⟨(sb e.body).toArray⟩ = e := by
  obtain ⟨view, opn, under, parent, client, session, request, oper, body⟩ := e
  simp only [eof, hof, mk_sb]
theorem unpackE_pack {e : En} {s : List UInt8} (he : e.fits) (h : packE e = (s, 0)) : unpackE s = (e, 0) := by
  obtain ⟨h1, h2⟩ := packE_ok h
  have h3 := unpack_pack (packS_rt he h1).2 h2
  unfold unpackE
  rw [h3]
  simp [eof_hof, h1]
theorem packE_len {e : En} {s : List UInt8} (h : packE e = (s, 0)) : s.length = 128 + e.body.size ∧ (e.body.size : Int) ≤ 200 := by
  obtain ⟨h1, h2⟩ := packE_ok h
  obtain ⟨_, _, h3⟩ := packS_ok h2
  rw [h3, List.length_append, headB_len, sb_len]
  exact ⟨rfl, h1.2.2.2.2.2.2.2.2⟩
end Go.Proofs.YtafbeepacncooaaDoor
/-
  The walks of MarkOf, package entry's and the document's.
-/
namespace Go.Proofs.YtafbeepacncooaaDoor
open Go.RowKit
set_option maxRecDepth 10000

/-- what MarkOf answers -/
def markE (e : En) : Mk := if (packE e).2 = 0 then ⟨e.opn, e.view, (chainOf (BitVec.ofNat 64 e.parent) (packE e).1).toNat⟩ else mk0
theorem wp_store_st {P : Program} {o : Oper} {a : Act} {w : World} {K : Act → World → Prop} {Q : Exit → Act → World → Prop} {T : TypeId} (x y : Operand) (ho : o.op = .store T x y) {n : Nat} (hn : (P.info? T).map (·.size) = some n)
    (g : Nat) (cs0 cs : Array Value) (hx : a.eval x = .pointer (some ⟨g, 0, none⟩)) (hy : a.eval y = .agg cs) (hrow : Row w g T cs0.toList) (h0 : cs0.size = n) (h1 : cs.size = n) (hone : cs.all (·.oneCell') = true)
    (hK : ∀ w', Row w' g T cs.toList → w.grownBy w' (some g) → K (a.put o.dst undef) w') : o.wp P a w K Q :=
  wp_store_row T x y ho g cs hx hy T cs0 hrow.arr (by rw [hn, h1]) (by simp [h0, h1]) (by simpa using hone)
    (hK _ (by
      have := setRow_heap w g cs0 cs T (0, 0) hrow.arr
      simpa [Row] using this) (grownBy_setRow w g _))
set_option maxHeartbeats 1000000 in
theorem emark_no (view opn under : Int) (parent : Nat) (client session request oper : Int) (body : ByteArray) (T : ByteArray) (f : Int) (w : World) (hf : Fd w) (h0 : (f != 0) = true)
    (HP : Hid (∀ W : World, Fd W → Calls Tryd.prog 58 #[.agg #[.int .i64 view, .int .i64 opn, .int .i64 under, .int .u64 (parent : Int), .int .i64 client, .int .i64 session, .int .i64 request, .int .i64 oper, .string body]] W fun x W' => x = .returned (.tuple #[.string T, .int .i64 f]) ∧ Below W.heap.size W W')) :
    Calls Tryd.prog 36 #[.agg #[.int .i64 view, .int .i64 opn, .int .i64 under, .int .u64 (parent : Int), .int .i64 client, .int .i64 session, .int .i64 request, .int .i64 oper, .string body]] w (VE w (.agg #[.int .i64 0, .int .i64 0, .int .u64 0])) := by
  have HZ := hid esize
  have HZM := hid msize
  have HB0 : Hid (Below w.heap.size w ((w.alloc (.cells #[.int .i64 view, .int .i64 opn, .int .i64 under, .int .u64 (parent : Int), .int .i64 client, .int .i64 session, .int .i64 request, .int .i64 oper, .string body] 28)).alloc (.cells #[.int .i64 0, .int .i64 0, .int .u64 0] 73))) := hid (((Below.refl w.heap.size w).alloc (Nat.le_refl _) _).alloc (by simp) _)
  have HE0 : Hid (Row ((w.alloc (.cells #[.int .i64 view, .int .i64 opn, .int .i64 under, .int .u64 (parent : Int), .int .i64 client, .int .i64 session, .int .i64 request, .int .i64 oper, .string body] 28)).alloc (.cells #[.int .i64 0, .int .i64 0, .int .u64 0] 73)) w.heap.size 28 (#[.int .i64 view, .int .i64 opn, .int .i64 under, .int .u64 (parent : Int), .int .i64 client, .int .i64 session, .int .i64 request, .int .i64 oper, .string body] : Array Value).toList) := hid ((Row.new _ _ _).alloc _)
  have HM0 : Hid (Row ((w.alloc (.cells #[.int .i64 view, .int .i64 opn, .int .i64 under, .int .u64 (parent : Int), .int .i64 client, .int .i64 session, .int .i64 request, .int .i64 oper, .string body] 28)).alloc (.cells #[.int .i64 0, .int .i64 0, .int .u64 0] 73)) (w.heap.size + 1) 73 (#[.int .i64 0, .int .i64 0, .int .u64 0] : Array Value).toList) := hid (by
    have := Row.new (w.alloc (.cells #[.int .i64 view, .int .i64 opn, .int .i64 under, .int .u64 (parent : Int), .int .i64 client, .int .i64 session, .int .i64 request, .int .i64 oper, .string body] 28)) 73 #[.int .i64 0, .int .i64 0, .int .u64 0]
    simpa using this)
  have HF := hid hf
  clear hf
  go_enter Tryd.func36, Tryd.ntmps36
  go_wp2_with (first
    | (go_at_call 58; refine (HP.out _ (HF.out.below HB0.out HF.out.1)).mono ?_; rintro e w1 ⟨rfl, hb1⟩; have hbb := HB0.out.trans (hb1.mono HB0.out.size); have he := HE0.out.below hb1 HE0.out.lt; have hm := HM0.out.below hb1 HM0.out.lt; clear hb1)
    | (refine wpl_store_st rfl (.tmp 2) (.tmp 12) rfl HZM.out (w.heap.size + 1) #[.int .i64 0, .int .i64 0, .int .u64 0] #[.int .i64 0, .int .i64 0, .int .u64 0] rfl rfl hm ?_ (hid rfl) (hid rfl) (hid (by simp [Value.oneCell'])); intro wz hrz hgz; have HBZ := hid (hbb.trans (below_grown hgz (by omega) hbb.size)); clear hgz))
  refine bodyPost_ret (v := .agg #[.int .i64 0, .int .i64 0, .int .u64 0])
    (results_cell_row rfl _ _ (w.heap.size + 1) 73 _ (0, 0) _ rfl (Row.arr (cs := #[.int .i64 0, .int .i64 0, .int .u64 0]) hrz) Tryd.underlying73 rfl HZM.out) rfl ⟨rfl, HBZ.out⟩
set_option maxHeartbeats 2000000 in
theorem emark_yes (view opn under : Int) (parent : Nat) (client session request oper : Int) (body : ByteArray) (T : ByteArray) (q : Nat) (w : World) (hf : Fd w)
    (HP : Hid (∀ W : World, Fd W → Calls Tryd.prog 58 #[.agg #[.int .i64 view, .int .i64 opn, .int .i64 under, .int .u64 (parent : Int), .int .i64 client, .int .i64 session, .int .i64 request, .int .i64 oper, .string body]] W fun x W' => x = .returned (.tuple #[.string T, .int .i64 0]) ∧ Below W.heap.size W W'))
    (HC : Hid (∀ W : World, Calls Tryd.prog 59 #[.int .u64 (parent : Int), .string T] W fun e w' => e = .returned (.int .u64 (q : Int)) ∧ Below W.heap.size W w')) :
    Calls Tryd.prog 36 #[.agg #[.int .i64 view, .int .i64 opn, .int .i64 under, .int .u64 (parent : Int), .int .i64 client, .int .i64 session, .int .i64 request, .int .i64 oper, .string body]] w (VE w (.agg #[.int .i64 opn, .int .i64 view, .int .u64 (q : Int)])) := by
  have HZ := hid esize
  have HZM := hid msize
  have HB0 : Hid (Below w.heap.size w ((w.alloc (.cells #[.int .i64 view, .int .i64 opn, .int .i64 under, .int .u64 (parent : Int), .int .i64 client, .int .i64 session, .int .i64 request, .int .i64 oper, .string body] 28)).alloc (.cells #[.int .i64 0, .int .i64 0, .int .u64 0] 73))) := hid (((Below.refl w.heap.size w).alloc (Nat.le_refl _) _).alloc (by simp) _)
  have HE0 : Hid (Row ((w.alloc (.cells #[.int .i64 view, .int .i64 opn, .int .i64 under, .int .u64 (parent : Int), .int .i64 client, .int .i64 session, .int .i64 request, .int .i64 oper, .string body] 28)).alloc (.cells #[.int .i64 0, .int .i64 0, .int .u64 0] 73)) w.heap.size 28 (#[.int .i64 view, .int .i64 opn, .int .i64 under, .int .u64 (parent : Int), .int .i64 client, .int .i64 session, .int .i64 request, .int .i64 oper, .string body] : Array Value).toList) := hid ((Row.new _ _ _).alloc _)
  have HM0 : Hid (Row ((w.alloc (.cells #[.int .i64 view, .int .i64 opn, .int .i64 under, .int .u64 (parent : Int), .int .i64 client, .int .i64 session, .int .i64 request, .int .i64 oper, .string body] 28)).alloc (.cells #[.int .i64 0, .int .i64 0, .int .u64 0] 73)) (w.heap.size + 1) 73 (#[.int .i64 0, .int .i64 0, .int .u64 0] : Array Value).toList) := hid (by
    have := Row.new (w.alloc (.cells #[.int .i64 view, .int .i64 opn, .int .i64 under, .int .u64 (parent : Int), .int .i64 client, .int .i64 session, .int .i64 request, .int .i64 oper, .string body] 28)) 73 #[.int .i64 0, .int .i64 0, .int .u64 0]
    simpa using this)
  have HF := hid hf
  clear hf
  go_enter Tryd.func36, Tryd.ntmps36
  go_wp2_with (go_at_call 58; refine (HP.out _ (HF.out.below HB0.out HF.out.1)).mono ?_; rintro e w1 ⟨rfl, hb1⟩; have hbb := HB0.out.trans (hb1.mono HB0.out.size); have he := HE0.out.below hb1 HE0.out.lt; have hm := HM0.out.below hb1 HM0.out.lt; clear hb1)
  try simp only [Act.put]
  have HBB := hid hbb
  have HEB := hid he
  have HMB := hid hm
  clear hbb he hm
  refine wp_region_held_drew (S := fun W => Below w.heap.size w W ∧ Row W w.heap.size 28 (#[.int .i64 view, .int .i64 opn, .int .i64 under, .int .u64 (parent : Int), .int .i64 client, .int .i64 session, .int .i64 request, .int .i64 oper, .string body] : Array Value).toList ∧ ∃ z : Array Value, z.size = 3 ∧ Row W (w.heap.size + 1) 73 z.toList) (by kernel_rfl) ⟨HBB.out.drew, HEB.out, #[.int .i64 0, .int .i64 0, .int .u64 0], rfl, HMB.out⟩ (fun hH => ?_)
  refine wpAnyH_take (i := 0) (v := .pointer (some ⟨w.heap.size, 1, none⟩)) rfl (by kernel_rfl) (by kernel_rfl) (by kernel_rfl) (fun _ _ _ h => h) (Or.inl ⟨by rfl, fun w' hw' => by clear hw'; go_simp⟩) hH ?_
  simp only [Act.put]
  refine wpAnyH_take (i := 1) (v := .int .i64 opn) rfl (by kernel_rfl) (by kernel_rfl) (by kernel_rfl) (fun _ _ _ h => h) (Or.inl ⟨by rfl, fun w' hw' => by have h := hw'.2.1.at_ 1 _ rfl; clear hw'; go_simp⟩) hH ?_
  simp only [Act.put]
  refine wpAnyH_take (i := 2) (v := .pointer (some ⟨w.heap.size, 0, none⟩)) rfl (by kernel_rfl) (by kernel_rfl) (by kernel_rfl) (fun _ _ _ h => h) (Or.inl ⟨by rfl, fun w' hw' => by clear hw'; go_simp⟩) hH ?_
  simp only [Act.put]
  refine wpAnyH_take (i := 3) (v := .int .i64 view) rfl (by kernel_rfl) (by kernel_rfl) (by kernel_rfl) (fun _ _ _ h => h) (Or.inl ⟨by rfl, fun w' hw' => by have h := hw'.2.1.at_ 0 _ rfl; clear hw'; go_simp⟩) hH ?_
  simp only [Act.put]
  refine wpAnyH_take (i := 4) (v := .pointer (some ⟨w.heap.size, 3, none⟩)) rfl (by kernel_rfl) (by kernel_rfl) (by kernel_rfl) (fun _ _ _ h => h) (Or.inl ⟨by rfl, fun w' hw' => by clear hw'; go_simp⟩) hH ?_
  simp only [Act.put]
  refine wpAnyH_take (i := 5) (v := .int .u64 (parent : Int)) rfl (by kernel_rfl) (by kernel_rfl) (by kernel_rfl) (fun _ _ _ h => h) (Or.inl ⟨by rfl, fun w' hw' => by have h := hw'.2.1.at_ 3 _ rfl; clear hw'; go_simp⟩) hH ?_
  simp only [Act.put]
  refine wpAnyH_take (i := 6) (v := .string T) rfl (by kernel_rfl) (by kernel_rfl) (by kernel_rfl) (fun _ _ _ h => h) (Or.inl ⟨by rfl, fun w' hw' => by clear hw'; go_simp⟩) hH ?_
  simp only [Act.put]
  refine wpAnyH_ready (rs := [7]) (by kernel_rfl) (by simp) ?_
  refine AllReadyH.cons rfl (fun K hK => ?_) AllReadyH.nil
  go_simp
  go_at_call 59
  refine (HC.out _).mono ?_
  rintro e w2 ⟨rfl, hb2⟩
  go_wp2_with fail
  refine hK.out _ _ (⟨hH.1.trans (Below.mono hb2 hH.1.size), Row.below hH.2.1 hb2 hH.2.1.lt, hH.2.2.elim fun z h => ⟨z, h.1, Row.below h.2 hb2 h.2.lt⟩⟩) (fun hH => ?_)
  clear hK K
  try simp only [Act.put]
  refine wpAnyH_take (i := 8) (v := .agg #[.int .i64 opn, .int .i64 view, .int .u64 (q : Int)]) rfl (by kernel_rfl) (by kernel_rfl) (by kernel_rfl) (fun _ _ _ h => h) (Or.inl ⟨by rfl, fun w' hw' => by clear hw'; go_simp⟩) hH ?_
  simp only [Act.put]
  refine wpAnyH_ready (rs := [9]) (by kernel_rfl) (by simp) ?_
  refine AllReadyH.cons rfl (fun K hK => ?_) AllReadyH.nil
  obtain ⟨hb8, he8, z, hz8, hm8⟩ := hH
  rw [if_pos (by kernel_rfl)]
  refine wp_store_st (.tmp 2) (.tmp 21) rfl HZM.out (w.heap.size + 1) z #[.int .i64 opn, .int .i64 view, .int .u64 (q : Int)] rfl rfl hm8 hz8 rfl (by simp [Value.oneCell']) (fun w9 hr9 hg9 => ?_)
  have hb9 : Below w.heap.size w w9 := hb8.trans (below_grown hg9 (by omega) hb8.size)
  refine hK.out _ _ ⟨hb9, he8.grown hg9 (by intro e; have := Option.some.inj e; omega), _, rfl, hr9⟩ (fun hH => ?_)
  clear hK K
  try simp only [Act.put]
  refine wpAnyH_done (by kernel_rfl) ?_ _
  try simp only [Act.put]
  go_wp2_with fail
  refine bodyPost_ret (v := .agg #[.int .i64 opn, .int .i64 view, .int .u64 (q : Int)])
    (results_cell_row rfl _ _ (w.heap.size + 1) 73 _ (0, 0) _ rfl (Row.arr (cs := #[.int .i64 opn, .int .i64 view, .int .u64 (q : Int)]) hr9) Tryd.underlying73 rfl HZM.out) rfl ⟨rfl, hb9⟩
theorem emark_any (e : En) (he : e.fits) (w : World) (hf : Fd w) : Calls Tryd.prog 36 #[e.val] w (VE w (markE e).val) := by
  have HP := hid (fun W hW => epack_any e W hW)
  unfold markE
  have hp : (BitVec.ofNat 64 e.parent).toNat = e.parent := by
    rw [BitVec.toNat_ofNat]
    exact Nat.mod_eq_of_lt he.2.2
  by_cases h0 : (packE e).2 = 0
  · rw [if_pos h0]
    have hl := packE_len (e := e) (s := (packE e).1) (by rw [← h0])
    have HC := hid (fun W => chain_calls (BitVec.ofNat 64 e.parent) ⟨(packE e).1.toArray⟩ W (by rw [← sb_len, sb_mk]; omega))
    rw [hp, sb_mk] at HC
    generalize (chainOf (BitVec.ofNat 64 e.parent) (packE e).1).toNat = q at *
    clear hl
    generalize packE e = r at *
    obtain ⟨rl, rf⟩ := r
    simp only at h0
    subst h0
    obtain ⟨view, opn, under, parent, client, session, request, oper, body⟩ := e
    exact emark_yes view opn under parent client session request oper body ⟨rl.toArray⟩ q w hf HP HC
  · rw [if_neg h0]
    generalize packE e = r at *
    obtain ⟨view, opn, under, parent, client, session, request, oper, body⟩ := e
    exact emark_no view opn under parent client session request oper body ⟨r.1.toArray⟩ r.2 w hf (by simpa using h0) HP
end Go.Proofs.YtafbeepacncooaaDoor
/-
  Plain words on slots: stubs, their numbers, their bytes; what a sector has; what two sectors say together.
-/
namespace Go.Proofs.YtafbeepacncooaaDoor
open Go.RowKit
set_option maxRecDepth 10000

theorem sg_in64 (n : Nat) : In64 (sg n) := by
  unfold In64 sg wrap64
  omega
/-- a stub -/
structure St where
  opn : Int
  view : Int
  under : Int
  parent : Nat
  sum : Nat
deriving DecidableEq
def St.cells (s : St) : Array Value := #[.int .i64 s.opn, .int .i64 s.view, .int .i64 s.under, .int .u64 (s.parent : Int), .int .u64 (s.sum : Int)]
def St.val (s : St) : Value := .agg s.cells
def st0 : St := ⟨0, 0, 0, 0, 0⟩
abbrev U64 (n : Nat) : Prop := n < 18446744073709551616
/-- of the machine's -/
def St.fits (s : St) : Prop := (In64 s.opn ∧ In64 s.view ∧ In64 s.under) ∧ U64 s.parent ∧ U64 s.sum
theorem st0_fits : st0.fits := by unfold St.fits st0 In64 U64; simp
/-- its numbers -/
def St.nums (s : St) : List Nat := [un s.opn, un s.view, un s.under, s.parent, s.sum]
theorem snums_len (s : St) : s.nums.length = 5 := rfl
theorem snums_lt (s : St) (h : s.fits) : ∀ n ∈ s.nums, n < 18446744073709551616 := by
  obtain ⟨-, a0, a1⟩ := h
  intro n hn
  simp only [St.nums, List.mem_cons, List.not_mem_nil, or_false] at hn
  rcases hn with rfl | rfl | rfl | rfl | rfl <;> first | exact un_lt _ | assumption
/-- the bytes of numbers -/
def nb : List Nat → List UInt8
  | [] => []
  | n :: r => le n 8 ++ nb r
theorem nb_len : ∀ l, (nb l).length = 8 * l.length
  | [] => rfl
  | n :: r => by simp [nb, le_len, nb_len r]; omega
theorem nb_app : ∀ a b, nb (a ++ b) = nb a ++ nb b
  | [], b => rfl
  | n :: r, b => by simp [nb, nb_app r b]
/-- the numbers of bytes -/
def tn (b : List UInt8) (k : Nat) : Nat := leV ((b.drop (8 * k)).take 8)
def takeT (b : List UInt8) : List Nat := (List.range 5).map (tn b)
theorem takeT_len (b : List UInt8) : (takeT b).length = 5 := by simp [takeT]
theorem leV8_lt (l : List UInt8) (h : l.length ≤ 8) : leV l < 18446744073709551616 := by
  have h1 : ∀ m : List UInt8, leV m < 2 ^ (8 * m.length) := by
    intro m
    induction m with
    | nil => simp [leV]
    | cons b r ih =>
      have := UInt8.toNat_lt b
      have e : 2 ^ (8 * (r.length + 1)) = 256 * 2 ^ (8 * r.length) := by rw [show 8 * (r.length + 1) = 8 + 8 * r.length by omega, Nat.pow_add]
      simp only [leV, List.length_cons, e]
      omega
  exact Nat.lt_of_lt_of_le (h1 l) (Nat.le_trans (Nat.pow_le_pow_right (by omega) (show 8 * l.length ≤ 64 by omega)) (by decide))
theorem tn_lt (b : List UInt8) (k : Nat) : tn b k < 18446744073709551616 := leV8_lt _ (by simp; omega)
theorem takeT_lt (b : List UInt8) : ∀ n ∈ takeT b, n < 18446744073709551616 := by
  intro n hn
  simp only [takeT, List.mem_map] at hn
  obtain ⟨k, _, rfl⟩ := hn
  exact tn_lt b k
/-- the stub of numbers -/
def stOf (l : List Nat) : St := ⟨sg (l.getD 0 0), sg (l.getD 1 0), sg (l.getD 2 0), l.getD 3 0, l.getD 4 0⟩
theorem list5 (l : List Nat) (h : l.length = 5) : ∃ a b c d e, l = [a, b, c, d, e] := by
  match l, h with
  | [a, b, c, d, e], _ => exact ⟨a, b, c, d, e, rfl⟩
theorem nums_stOf (s : St) (h : s.fits) : stOf s.nums = s := by
  obtain ⟨⟨a0, a1, a2⟩, -, -⟩ := h
  obtain ⟨opn, view, under, parent, sum⟩ := s
  show St.mk (sg (un opn)) (sg (un view)) (sg (un under)) parent sum = _
  rw [sg_un a0, sg_un a1, sg_un a2]
theorem stOf_fits (l : List Nat) (h : l.length = 5) (h2 : ∀ n ∈ l, n < 18446744073709551616) : (stOf l).fits := by
  obtain ⟨a, b, c, d, e, rfl⟩ := list5 l h
  simp only [List.mem_cons, List.not_mem_nil, or_false, forall_eq_or_imp, forall_eq] at h2
  obtain ⟨u0, u1, u2, u3, u4⟩ := h2
  exact ⟨⟨sg_in64 _, sg_in64 _, sg_in64 _⟩, u3, u4⟩
/-- its bytes -/
def St.bytes (s : St) : List UInt8 := nb s.nums
theorem sbytes_len (s : St) : s.bytes.length = 40 := by rw [St.bytes, nb_len, snums_len]
theorem tn_app (x : List UInt8) (r : List UInt8) (k : Nat) (hx : x.length = 8) : tn (x ++ r) (k + 1) = tn r k := by
  unfold tn
  rw [show 8 * (k + 1) = 8 + 8 * k by omega, ← List.drop_drop, ← hx, List.drop_left]
theorem tn_zero (n : Nat) (r : List UInt8) (hn : n < 18446744073709551616) : tn (le n 8 ++ r) 0 = n := by
  unfold tn
  rw [Nat.mul_zero, List.drop_zero, List.take_append_of_le_length (by rw [le_len]; omega), List.take_of_length_le (by rw [le_len]; omega)]
  exact leV_le 8 n (Nat.div_eq_of_lt (by simpa using hn))
theorem tn_nb : ∀ (l : List Nat) (k : Nat) (h : k < l.length), (∀ n ∈ l, n < 18446744073709551616) → tn (nb l) k = l[k]
  | n :: r, 0, _, hl => by simp only [nb, List.getElem_cons_zero]; exact tn_zero n _ (hl n (by simp))
  | n :: r, k + 1, h, hl => by
    simp only [nb, List.getElem_cons_succ]
    rw [tn_app _ _ _ (le_len 8 n)]
    exact tn_nb r k (by simpa using h) (fun m hm => hl m (by simp [hm]))
theorem takeT_nb (l : List Nat) (h : l.length = 5) (hl : ∀ n ∈ l, n < 18446744073709551616) : takeT (nb l) = l := by
  apply List.ext_getElem
  · rw [takeT_len, h]
  · intro k h1 h2
    simp only [takeT, List.getElem_map, List.getElem_range]
    exact tn_nb l k h2 hl
/-- may it be? -/
def SRt (s : St) : Prop := (1 ≤ s.opn ∧ s.opn ≤ 72057594037927935) ∧ 0 ≤ s.under ∧ s.under ≤ s.view ∧ s.view ≤ 72057594037927935
instance (s : St) : Decidable (SRt s) := by unfold SRt; infer_instance
theorem st0_not : ¬ SRt st0 := by unfold SRt st0; simp
/-- what packStub answers -/
def packT (s : St) : List UInt8 × Int := if SRt s then (s.bytes, 0) else ([], 4)
/-- what unpackStub answers -/
def unpackT (b : List UInt8) : St × Int := if b.length = 40 ∧ SRt (stOf (takeT b)) then (stOf (takeT b), 0) else (st0, 4)
theorem unpackT_pack (s : St) (hf : s.fits) (h : SRt s) : unpackT s.bytes = (s, 0) := by
  have e : stOf (takeT s.bytes) = s := by rw [St.bytes, takeT_nb _ (snums_len s) (snums_lt s hf), nums_stOf s hf]
  unfold unpackT
  rw [e, if_pos ⟨sbytes_len s, h⟩]
theorem unpackT_fits (b : List UInt8) : (unpackT b).1.fits := by
  unfold unpackT
  split
  · exact stOf_fits _ (takeT_len b) (takeT_lt b)
  · exact st0_fits
theorem unpackT_ok {b : List UInt8} (h : (unpackT b).2 = 0) : SRt (unpackT b).1 := by
  unfold unpackT at h ⊢
  split
  · rename_i h1
    exact h1.2
  · rename_i h1
    rw [if_neg h1] at h
    cases h
theorem packE_rt {e : En} (he : e.fits) (h : Rt e) : (packE e).2 = 0 ∧ (packE e).1.length = 128 + e.body.size ∧ e.body.size ≤ 200 := by
  have h1 := packS_rt he h
  have h2 : packE e = packS (hof e) (sb e.body) := if_pos h
  have h3 : (e.body.size : Int) ≤ 200 := h.2.2.2.2.2.2.2.2
  have h4 := packS_yes (body := sb e.body) h1.1 (by rw [sb_len]; omega)
  have h5 : packE e = ((packE e).1, 0) := by rw [h2, h4]
  exact ⟨by rw [h5], (packE_len h5).1, by omega⟩
/-- an entry's stub -/
def stubS (e : En) : St := if Rt e then ⟨e.opn, e.view, e.under, e.parent, (markE e).sum⟩ else st0
theorem markE_sum (e : En) : U64 (markE e).sum := by
  unfold markE
  split
  · exact (chainOf _ _).isLt
  · show 0 < _
    decide
theorem stubS_fits {e : En} (he : e.fits) : (stubS e).fits := by
  unfold stubS
  split
  · exact ⟨⟨he.1.2.1, he.1.1, he.1.2.2.1⟩, he.2.2, markE_sum e⟩
  · exact st0_fits
theorem stubS_rt {e : En} (h : Rt e) : stubS e = ⟨e.opn, e.view, e.under, e.parent, (markE e).sum⟩ := if_pos h
theorem stubS_ok {e : En} (h : Rt e) : SRt (stubS e) := by
  rw [stubS_rt h]
  obtain ⟨⟨a, b⟩, -, ⟨c, d⟩, ⟨f, g⟩, h⟩ := h
  exact ⟨⟨a, b⟩, f, by show e.under ≤ e.view; omega, d⟩
/-- the sector of an entry, of a stub, of nothing -/
def prepS (old : List UInt8) (e : En) : List UInt8 × Int := if (packE e).2 = 0 then sealS old (packE e).1 else ([], (packE e).2)
def hdrS (old : List UInt8) (s : St) : List UInt8 × Int := if SRt s then sealS old s.bytes else ([], 4)
def voidS (old : List UInt8) : List UInt8 := (sealS old []).1
/-- what a prepare sector has -/
def entryS (p : List UInt8) : En × Bool × Bool := if (openS p).1 = [] then (en0, false, (openS p).2) else if (unpackE (openS p).1).2 = 0 then ((unpackE (openS p).1).1, true, true) else (en0, false, false)
/-- what a header sector has -/
def stubT (h : List UInt8) : St × Bool × Bool := if (openS h).1 = [] then (st0, false, (openS h).2) else if (unpackT (openS h).1).2 = 0 then ((unpackT (openS h).1).1, true, true) else (st0, false, false)
/-- a slot's -/
structure It where
  kind : Int
  stub : St
  entry : En
def It.cells (i : It) : Array Value := #[.int .i64 i.kind, .int .i64 i.stub.opn, .int .i64 i.stub.view, .int .i64 i.stub.under, .int .u64 (i.stub.parent : Int), .int .u64 (i.stub.sum : Int), .int .i64 i.entry.view, .int .i64 i.entry.opn, .int .i64 i.entry.under, .int .u64 (i.entry.parent : Int), .int .i64 i.entry.client, .int .i64 i.entry.session, .int .i64 i.entry.request, .int .i64 i.entry.oper, .string i.entry.body]
def It.val (i : It) : Value := .agg i.cells
def it0 : It := ⟨0, st0, en0⟩
/-- what two sectors are together for an operation -/
def judgeS (p h : List UInt8) (n : Int) : It :=
  if (stubT h).2.1 = true ∧ (stubT h).1.opn = n ∧ stubS (entryS p).1 = (stubT h).1 then ⟨1, stubS (entryS p).1, (entryS p).1⟩
  else if (stubT h).2.1 = true ∧ (stubT h).1.opn = n then ⟨2, (stubT h).1, en0⟩
  else if (stubT h).2.2 = true then it0
  else if (entryS p).2.1 = true ∧ (entryS p).1.opn = n then ⟨1, stubS (entryS p).1, (entryS p).1⟩
  else if (entryS p).2.2 = true then it0
  else ⟨3, st0, en0⟩
end Go.Proofs.YtafbeepacncooaaDoor
/-
  The walks of package slot's right, numbers, stubOf.
-/
namespace Go.Proofs.YtafbeepacncooaaDoor
open Go.RowKit
set_option maxRecDepth 10000

theorem srt_bool (s : St) : decide (SRt s) = (decide (1 ≤ s.opn) && decide (s.opn ≤ 72057594037927935) && decide (0 ≤ s.under) && decide (s.under ≤ s.view) && decide (s.view ≤ 72057594037927935)) := by
  rw [Bool.eq_iff_iff, decide_eq_true_iff]
  unfold SRt
  simp only [Bool.and_eq_true, decide_eq_true_eq]
  constructor
  · rintro ⟨⟨h1, h2⟩, h3, h4, h5⟩
    exact ⟨⟨⟨⟨h1, h2⟩, h3⟩, h4⟩, h5⟩
  · rintro ⟨⟨⟨⟨h1, h2⟩, h3⟩, h4⟩, h5⟩
    exact ⟨⟨h1, h2⟩, h3, h4, h5⟩
set_option maxHeartbeats 2000000 in
theorem sright_any (s : St) (w : World) : Calls Tryd.prog 87 #[s.val] w (VE w (.bool (decide (SRt s)))) := by
  rw [srt_bool]
  obtain ⟨opn, view, under, parent, sum⟩ := s
  show Calls Tryd.prog 87 #[.agg #[.int .i64 opn, .int .i64 view, .int .i64 under, .int .u64 (parent : Int), .int .u64 (sum : Int)]] w (VE w (.bool (decide (1 ≤ opn) && decide (opn ≤ 72057594037927935) && decide (0 ≤ under) && decide (under ≤ view) && decide (view ≤ 72057594037927935))))
  generalize hb1 : decide (1 ≤ opn) = b1
  generalize hb2 : decide (opn ≤ 72057594037927935) = b2
  generalize hb3 : decide (0 ≤ under) = b3
  generalize hb4 : decide (under ≤ view) = b4
  generalize hb5 : decide (view ≤ 72057594037927935) = b5
  cases b1 <;> (try cases b2) <;> (try cases b3) <;> (try cases b4) <;> (
    go_enter Tryd.func87, Tryd.ntmps87
    go_wp2_with fail
    go_ret
    refine ⟨by first | rfl | simp [*] | (simp_all; done), (Below.refl _ _).alloc (Nat.le_refl _) _⟩)
theorem stsize : (Tryd.prog.info? 42).map (·.size) = some 5 := by kernel_rfl
theorem stcells_one (s : St) : s.cells.all (·.oneCell') = true := by simp [St.cells, Value.oneCell']
set_option maxHeartbeats 1000000 in
theorem snumbers_any (s : St) (w : World) : Calls Tryd.prog 101 #[s.val] w (VE w (.agg (av s.nums).toArray)) := by
  obtain ⟨opn, view, under, parent, sum⟩ := s
  show Calls Tryd.prog 101 #[.agg #[.int .i64 opn, .int .i64 view, .int .i64 under, .int .u64 (parent : Int), .int .u64 (sum : Int)]] w (VE w (.agg #[.int .u64 ((un opn : Nat) : Int), .int .u64 ((un view : Nat) : Int), .int .u64 ((un under : Nat) : Int), .int .u64 (parent : Int), .int .u64 (sum : Int)]))
  simp only [← un_wrap]
  go_enter Tryd.func101, Tryd.ntmps101
  go_wp2_with fail
  exact bodyPost_ret (results_cell_row rfl _ _ (w.heap.size + 1) 132 _ (0, 0) _ rfl (alloc2_new _ _ _) Tryd.underlying132 rfl (by kernel_rfl)) rfl ⟨rfl, ((Below.refl _ _).alloc (Nat.le_refl _) _).alloc (by simp) _⟩
set_option maxHeartbeats 1000000 in
theorem sstubOf_any (l : List Nat) (hl : l.length = 5) (w : World) : Calls Tryd.prog 86 #[.agg (av l).toArray] w (VE w (stOf l).val) := by
  obtain ⟨a, b, c, d, e, rfl⟩ := list5 l hl
  show Calls Tryd.prog 86 #[.agg #[.int .u64 (a : Int), .int .u64 (b : Int), .int .u64 (c : Int), .int .u64 (d : Int), .int .u64 (e : Int)]] w (VE w (.agg #[.int .i64 (sg a), .int .i64 (sg b), .int .i64 (sg c), .int .u64 (d : Int), .int .u64 (e : Int)]))
  unfold sg
  go_enter Tryd.func86, Tryd.ntmps86
  go_wp2_with fail
  exact bodyPost_ret (results_cell_row rfl _ _ (w.heap.size + 1) 42 _ (0, 0) _ rfl (alloc2_new _ _ _) Tryd.underlying42 rfl (by kernel_rfl)) rfl ⟨rfl, ((Below.refl _ _).alloc (Nat.le_refl _) _).alloc (by simp) _⟩
end Go.Proofs.YtafbeepacncooaaDoor
/-
  The walks of StubOf, package slot's and the document's.
-/
namespace Go.Proofs.YtafbeepacncooaaDoor
open Go.RowKit
set_option maxRecDepth 10000

set_option maxHeartbeats 1000000 in
theorem sstub_no (view opn under : Int) (parent : Nat) (client session request oper : Int) (body : ByteArray) (w : World)
    (HR : Hid (∀ W : World, Calls Tryd.prog 10 #[.agg #[.int .i64 view, .int .i64 opn, .int .i64 under, .int .u64 (parent : Int), .int .i64 client, .int .i64 session, .int .i64 request, .int .i64 oper, .string body]] W (VE W (.bool false)))) :
    Calls Tryd.prog 13 #[.agg #[.int .i64 view, .int .i64 opn, .int .i64 under, .int .u64 (parent : Int), .int .i64 client, .int .i64 session, .int .i64 request, .int .i64 oper, .string body]] w (VE w (.agg #[.int .i64 0, .int .i64 0, .int .i64 0, .int .u64 0, .int .u64 0])) := by
  have HZ := hid esize
  have HZM := hid stsize
  have HB0 : Hid (Below w.heap.size w ((w.alloc (.cells #[.int .i64 view, .int .i64 opn, .int .i64 under, .int .u64 (parent : Int), .int .i64 client, .int .i64 session, .int .i64 request, .int .i64 oper, .string body] 28)).alloc (.cells #[.int .i64 0, .int .i64 0, .int .i64 0, .int .u64 0, .int .u64 0] 42))) := hid (((Below.refl w.heap.size w).alloc (Nat.le_refl _) _).alloc (by simp) _)
  have HE0 : Hid (Row ((w.alloc (.cells #[.int .i64 view, .int .i64 opn, .int .i64 under, .int .u64 (parent : Int), .int .i64 client, .int .i64 session, .int .i64 request, .int .i64 oper, .string body] 28)).alloc (.cells #[.int .i64 0, .int .i64 0, .int .i64 0, .int .u64 0, .int .u64 0] 42)) w.heap.size 28 (#[.int .i64 view, .int .i64 opn, .int .i64 under, .int .u64 (parent : Int), .int .i64 client, .int .i64 session, .int .i64 request, .int .i64 oper, .string body] : Array Value).toList) := hid ((Row.new _ _ _).alloc _)
  have HM0 : Hid (Row ((w.alloc (.cells #[.int .i64 view, .int .i64 opn, .int .i64 under, .int .u64 (parent : Int), .int .i64 client, .int .i64 session, .int .i64 request, .int .i64 oper, .string body] 28)).alloc (.cells #[.int .i64 0, .int .i64 0, .int .i64 0, .int .u64 0, .int .u64 0] 42)) (w.heap.size + 1) 42 (#[.int .i64 0, .int .i64 0, .int .i64 0, .int .u64 0, .int .u64 0] : Array Value).toList) := hid (by
    have := Row.new (w.alloc (.cells #[.int .i64 view, .int .i64 opn, .int .i64 under, .int .u64 (parent : Int), .int .i64 client, .int .i64 session, .int .i64 request, .int .i64 oper, .string body] 28)) 42 #[.int .i64 0, .int .i64 0, .int .i64 0, .int .u64 0, .int .u64 0]
    simpa using this)
  have HW0 : Hid (∃ W0, W0 = (w.alloc (.cells #[.int .i64 view, .int .i64 opn, .int .i64 under, .int .u64 (parent : Int), .int .i64 client, .int .i64 session, .int .i64 request, .int .i64 oper, .string body] 28)).alloc (.cells #[.int .i64 0, .int .i64 0, .int .i64 0, .int .u64 0, .int .u64 0] 42)) := hid ⟨_, rfl⟩
  go_enter Tryd.func13, Tryd.ntmps13
  go_wp2_with (first
    | (refine wpList_load_row rfl 28 (.tmp 1) rfl w.heap.size rfl 28 #[.int .i64 view, .int .i64 opn, .int .i64 under, .int .u64 (parent : Int), .int .i64 client, .int .i64 session, .int .i64 request, .int .i64 oper, .string body] (0, 0) _ (Row.arr (cs := #[.int .i64 view, .int .i64 opn, .int .i64 under, .int .u64 (parent : Int), .int .i64 client, .int .i64 session, .int .i64 request, .int .i64 oper, .string body]) HE0.out) Tryd.underlying28 rfl HZ.out ?_)
    | (go_at_call 10; refine (HR.out _).mono ?_; rintro e w1 ⟨rfl, hb1⟩; have hbb := HB0.out.trans (hb1.mono HB0.out.size); have he := HE0.out.below hb1 HE0.out.lt; have hm := HM0.out.below hb1 HM0.out.lt; clear hb1)
    | (refine wpl_store_st rfl (.tmp 2) (.tmp 6) rfl HZM.out (w.heap.size + 1) #[.int .i64 0, .int .i64 0, .int .i64 0, .int .u64 0, .int .u64 0] #[.int .i64 0, .int .i64 0, .int .i64 0, .int .u64 0, .int .u64 0] rfl rfl hm ?_ (hid rfl) (hid rfl) (hid (by simp [Value.oneCell'])); intro wz hrz hgz; have HBZ := hid (hbb.trans (below_grown hgz (by omega) hbb.size)); clear hgz))
  refine bodyPost_ret (v := .agg #[.int .i64 0, .int .i64 0, .int .i64 0, .int .u64 0, .int .u64 0])
    (results_cell_row rfl _ _ (w.heap.size + 1) 42 _ (0, 0) _ rfl (Row.arr (cs := #[.int .i64 0, .int .i64 0, .int .i64 0, .int .u64 0, .int .u64 0]) hrz) Tryd.underlying42 rfl HZM.out) rfl ⟨rfl, HBZ.out⟩
set_option maxHeartbeats 2000000 in
theorem sstub_yes (view opn under : Int) (parent : Nat) (client session request oper : Int) (body : ByteArray) (q : Nat) (w : World) (hf : Fd w)
    (HR : Hid (∀ W : World, Calls Tryd.prog 10 #[.agg #[.int .i64 view, .int .i64 opn, .int .i64 under, .int .u64 (parent : Int), .int .i64 client, .int .i64 session, .int .i64 request, .int .i64 oper, .string body]] W (VE W (.bool true))))
    (HK : Hid (∀ W : World, Fd W → Calls Tryd.prog 36 #[.agg #[.int .i64 view, .int .i64 opn, .int .i64 under, .int .u64 (parent : Int), .int .i64 client, .int .i64 session, .int .i64 request, .int .i64 oper, .string body]] W (VE W (.agg #[.int .i64 opn, .int .i64 view, .int .u64 (q : Int)])))) :
    Calls Tryd.prog 13 #[.agg #[.int .i64 view, .int .i64 opn, .int .i64 under, .int .u64 (parent : Int), .int .i64 client, .int .i64 session, .int .i64 request, .int .i64 oper, .string body]] w (VE w (.agg #[.int .i64 opn, .int .i64 view, .int .i64 under, .int .u64 (parent : Int), .int .u64 (q : Int)])) := by
  have HZ := hid esize
  have HZM := hid stsize
  have HB0 : Hid (Below w.heap.size w ((w.alloc (.cells #[.int .i64 view, .int .i64 opn, .int .i64 under, .int .u64 (parent : Int), .int .i64 client, .int .i64 session, .int .i64 request, .int .i64 oper, .string body] 28)).alloc (.cells #[.int .i64 0, .int .i64 0, .int .i64 0, .int .u64 0, .int .u64 0] 42))) := hid (((Below.refl w.heap.size w).alloc (Nat.le_refl _) _).alloc (by simp) _)
  have HE0 : Hid (Row ((w.alloc (.cells #[.int .i64 view, .int .i64 opn, .int .i64 under, .int .u64 (parent : Int), .int .i64 client, .int .i64 session, .int .i64 request, .int .i64 oper, .string body] 28)).alloc (.cells #[.int .i64 0, .int .i64 0, .int .i64 0, .int .u64 0, .int .u64 0] 42)) w.heap.size 28 (#[.int .i64 view, .int .i64 opn, .int .i64 under, .int .u64 (parent : Int), .int .i64 client, .int .i64 session, .int .i64 request, .int .i64 oper, .string body] : Array Value).toList) := hid ((Row.new _ _ _).alloc _)
  have HM0 : Hid (Row ((w.alloc (.cells #[.int .i64 view, .int .i64 opn, .int .i64 under, .int .u64 (parent : Int), .int .i64 client, .int .i64 session, .int .i64 request, .int .i64 oper, .string body] 28)).alloc (.cells #[.int .i64 0, .int .i64 0, .int .i64 0, .int .u64 0, .int .u64 0] 42)) (w.heap.size + 1) 42 (#[.int .i64 0, .int .i64 0, .int .i64 0, .int .u64 0, .int .u64 0] : Array Value).toList) := hid (by
    have := Row.new (w.alloc (.cells #[.int .i64 view, .int .i64 opn, .int .i64 under, .int .u64 (parent : Int), .int .i64 client, .int .i64 session, .int .i64 request, .int .i64 oper, .string body] 28)) 42 #[.int .i64 0, .int .i64 0, .int .i64 0, .int .u64 0, .int .u64 0]
    simpa using this)
  have HW0 : Hid (∃ W0, W0 = (w.alloc (.cells #[.int .i64 view, .int .i64 opn, .int .i64 under, .int .u64 (parent : Int), .int .i64 client, .int .i64 session, .int .i64 request, .int .i64 oper, .string body] 28)).alloc (.cells #[.int .i64 0, .int .i64 0, .int .i64 0, .int .u64 0, .int .u64 0] 42)) := hid ⟨_, rfl⟩
  have HF := hid hf
  clear hf
  go_enter Tryd.func13, Tryd.ntmps13
  go_wp2_with (first
    | (refine wpList_load_row rfl 28 (.tmp 1) rfl w.heap.size rfl 28 #[.int .i64 view, .int .i64 opn, .int .i64 under, .int .u64 (parent : Int), .int .i64 client, .int .i64 session, .int .i64 request, .int .i64 oper, .string body] (0, 0) _ (Row.arr (cs := #[.int .i64 view, .int .i64 opn, .int .i64 under, .int .u64 (parent : Int), .int .i64 client, .int .i64 session, .int .i64 request, .int .i64 oper, .string body]) HE0.out) Tryd.underlying28 rfl HZ.out ?_)
    | (go_at_call 10; refine (HR.out _).mono ?_; rintro e w1 ⟨rfl, hb1⟩; have hbb := HB0.out.trans (hb1.mono HB0.out.size); have he := HE0.out.below hb1 HE0.out.lt; have hm := HM0.out.below hb1 HM0.out.lt; clear hb1))
  try simp only [Act.put]
  have HBB := hid hbb
  have HEB := hid he
  have HMB := hid hm
  clear hbb he hm
  refine wp_region_held_drew (S := fun W => Below w.heap.size w W ∧ Row W w.heap.size 28 (#[.int .i64 view, .int .i64 opn, .int .i64 under, .int .u64 (parent : Int), .int .i64 client, .int .i64 session, .int .i64 request, .int .i64 oper, .string body] : Array Value).toList ∧ ∃ z : Array Value, z.size = 5 ∧ Row W (w.heap.size + 1) 42 z.toList) (by kernel_rfl) ⟨HBB.out.drew, HEB.out, #[.int .i64 0, .int .i64 0, .int .i64 0, .int .u64 0, .int .u64 0], rfl, HMB.out⟩ (fun hH => ?_)
  refine wpAnyH_take (i := 0) (v := .pointer (some ⟨w.heap.size, 1, none⟩)) rfl (by kernel_rfl) (by kernel_rfl) (by kernel_rfl) (fun _ _ _ h => h) (Or.inl ⟨by rfl, fun w' hw' => by clear hw'; go_simp⟩) hH ?_
  simp only [Act.put]
  refine wpAnyH_take (i := 1) (v := .int .i64 opn) rfl (by kernel_rfl) (by kernel_rfl) (by kernel_rfl) (fun _ _ _ h => h) (Or.inl ⟨by rfl, fun w' hw' => by have h := hw'.2.1.at_ 1 _ rfl; clear hw'; go_simp⟩) hH ?_
  simp only [Act.put]
  refine wpAnyH_take (i := 2) (v := .pointer (some ⟨w.heap.size, 0, none⟩)) rfl (by kernel_rfl) (by kernel_rfl) (by kernel_rfl) (fun _ _ _ h => h) (Or.inl ⟨by rfl, fun w' hw' => by clear hw'; go_simp⟩) hH ?_
  simp only [Act.put]
  refine wpAnyH_take (i := 3) (v := .int .i64 view) rfl (by kernel_rfl) (by kernel_rfl) (by kernel_rfl) (fun _ _ _ h => h) (Or.inl ⟨by rfl, fun w' hw' => by have h := hw'.2.1.at_ 0 _ rfl; clear hw'; go_simp⟩) hH ?_
  simp only [Act.put]
  refine wpAnyH_take (i := 4) (v := .pointer (some ⟨w.heap.size, 2, none⟩)) rfl (by kernel_rfl) (by kernel_rfl) (by kernel_rfl) (fun _ _ _ h => h) (Or.inl ⟨by rfl, fun w' hw' => by clear hw'; go_simp⟩) hH ?_
  simp only [Act.put]
  refine wpAnyH_take (i := 5) (v := .int .i64 under) rfl (by kernel_rfl) (by kernel_rfl) (by kernel_rfl) (fun _ _ _ h => h) (Or.inl ⟨by rfl, fun w' hw' => by have h := hw'.2.1.at_ 2 _ rfl; clear hw'; go_simp⟩) hH ?_
  simp only [Act.put]
  refine wpAnyH_take (i := 6) (v := .pointer (some ⟨w.heap.size, 3, none⟩)) rfl (by kernel_rfl) (by kernel_rfl) (by kernel_rfl) (fun _ _ _ h => h) (Or.inl ⟨by rfl, fun w' hw' => by clear hw'; go_simp⟩) hH ?_
  simp only [Act.put]
  refine wpAnyH_take (i := 7) (v := .int .u64 (parent : Int)) rfl (by kernel_rfl) (by kernel_rfl) (by kernel_rfl) (fun _ _ _ h => h) (Or.inl ⟨by rfl, fun w' hw' => by have h := hw'.2.1.at_ 3 _ rfl; clear hw'; go_simp⟩) hH ?_
  simp only [Act.put]
  refine wpAnyH_take (i := 8) (v := .agg #[.int .i64 view, .int .i64 opn, .int .i64 under, .int .u64 (parent : Int), .int .i64 client, .int .i64 session, .int .i64 request, .int .i64 oper, .string body]) rfl (by kernel_rfl) (by kernel_rfl) (by kernel_rfl) (fun _ _ _ h => h) ?_ hH ?_
  · refine yieldsIf_load_mid ?_ 28 (.tmp 1) ?_ w.heap.size 0 ?_ (Array.toList #[.int .i64 view, .int .i64 opn, .int .i64 under, .int .u64 (parent : Int), .int .i64 client, .int .i64 session, .int .i64 request, .int .i64 oper, .string body]) _ (fun W hW => Row.range (hW.2.1)) Tryd.underlying28 rfl HZ.out
    all_goals kernel_rfl
  simp only [Act.put]
  refine wpAnyH_ready (rs := [9]) (by kernel_rfl) (by simp) ?_
  refine AllReadyH.cons rfl (fun K hK => ?_) AllReadyH.nil
  go_simp
  go_at_call 36
  refine (HK.out _ (HF.out.below hH.1 HF.out.1)).mono ?_
  rintro e w2 ⟨rfl, hb2⟩
  go_wp2_with fail
  refine hK.out _ _ (⟨hH.1.trans (Below.mono hb2 hH.1.size), Row.below hH.2.1 hb2 hH.2.1.lt, hH.2.2.elim fun z h => ⟨z, h.1, Row.below h.2 hb2 h.2.lt⟩⟩) (fun hH => ?_)
  clear hK K
  try simp only [Act.put]
  refine wpAnyH_take (i := 10) (v := .int .u64 (q : Int)) rfl (by kernel_rfl) (by kernel_rfl) (by kernel_rfl) (fun _ _ _ h => h) (Or.inl ⟨by kernel_rfl, fun w' _ => by kernel_rfl⟩) hH ?_
  simp only [Act.put]
  refine wpAnyH_take (i := 11) (v := .agg #[.int .i64 opn, .int .i64 view, .int .i64 under, .int .u64 (parent : Int), .int .u64 (q : Int)]) rfl (by kernel_rfl) (by kernel_rfl) (by kernel_rfl) (fun _ _ _ h => h) (Or.inl ⟨by rfl, fun w' hw' => by clear hw'; go_simp⟩) hH ?_
  simp only [Act.put]
  refine wpAnyH_ready (rs := [12]) (by kernel_rfl) (by simp) ?_
  refine AllReadyH.cons rfl (fun K hK => ?_) AllReadyH.nil
  obtain ⟨hb8, he8, z, hz8, hm8⟩ := hH
  rw [if_pos (by kernel_rfl)]
  refine wp_store_st (.tmp 2) (.tmp 18) rfl HZM.out (w.heap.size + 1) z #[.int .i64 opn, .int .i64 view, .int .i64 under, .int .u64 (parent : Int), .int .u64 (q : Int)] rfl rfl hm8 hz8 rfl (by simp [Value.oneCell']) (fun w9 hr9 hg9 => ?_)
  have hb9 : Below w.heap.size w w9 := hb8.trans (below_grown hg9 (by omega) hb8.size)
  refine hK.out _ _ ⟨hb9, he8.grown hg9 (by intro e; have := Option.some.inj e; omega), _, rfl, hr9⟩ (fun hH => ?_)
  clear hK K
  try simp only [Act.put]
  refine wpAnyH_done (by kernel_rfl) ?_ _
  try simp only [Act.put]
  go_wp2_with fail
  refine bodyPost_ret (v := .agg #[.int .i64 opn, .int .i64 view, .int .i64 under, .int .u64 (parent : Int), .int .u64 (q : Int)])
    (results_cell_row rfl _ _ (w.heap.size + 1) 42 _ (0, 0) _ rfl (Row.arr (cs := #[.int .i64 opn, .int .i64 view, .int .i64 under, .int .u64 (parent : Int), .int .u64 (q : Int)]) hr9) Tryd.underlying42 rfl HZM.out) rfl ⟨rfl, hb9⟩
theorem sstub_any (e : En) (he : e.fits) (w : World) (hf : Fd w) : Calls Tryd.prog 13 #[e.val] w (VE w (stubS e).val) := by
  have HR := hid (fun W => eright_any e W)
  by_cases h : Rt e
  · have HK := hid (fun W hW => emark_any e he W hW)
    rw [stubS_rt h]
    rw [decide_eq_true h] at HR
    have em : markE e = ⟨e.opn, e.view, (markE e).sum⟩ := by
      unfold markE
      rw [if_pos ((packE_rt he h).1)]
    rw [em] at HK
    generalize (markE e).sum = q at *
    clear em h
    obtain ⟨view, opn, under, parent, client, session, request, oper, body⟩ := e
    exact sstub_yes view opn under parent client session request oper body q w hf HR HK
  · rw [show stubS e = st0 from if_neg h]
    rw [decide_eq_false h] at HR
    obtain ⟨view, opn, under, parent, client, session, request, oper, body⟩ := e
    exact sstub_no view opn under parent client session request oper body w HR
end Go.Proofs.YtafbeepacncooaaDoor
/-
  The walk of package slot's packStub.
-/
namespace Go.Proofs.YtafbeepacncooaaDoor
open Go.RowKit
set_option maxRecDepth 10000

theorem nb_take (l : List Nat) (k : Nat) (h : k < l.length) : nb (l.take (k + 1)) = nb (l.take k) ++ le l[k] 8 := by
  rw [List.take_succ_eq_append_getElem h, nb_app]
  simp [nb]
theorem nbt_len (l : List Nat) (k : Nat) (h : k ≤ l.length) : (nb (l.take k)).length = 8 * k := by rw [nb_len, List.length_take, Nat.min_eq_left h]
/-- Put of eight bytes -/
theorem put_eight (A : Option Addr) (bs : List UInt8) (m c n B : Nat) (W : World) (hr : Rd W B A (bvs bs)) (hm : m = bs.length) (hn : U64 n) (hB : B ≤ W.heap.size) (hl : m ≤ 140737488351232) :
    Calls Tryd.prog 94 #[.slice A m c, .int .u64 (n : Int), .int .i64 8] W
    fun e w' => ∃ A c, e = .returned (.tuple #[.slice A (m + 8) c, .int .i64 0]) ∧ w'.ownsRow W.heap.size 5 1 (.slice A (m + 8) c) (m + 8) (bvs (bs ++ le n 8)) ∧ Below W.heap.size W w' := by
  subst hm
  have h := put_any A bs bs.length c n B 8 W hr rfl hB hl
  have e : putS bs n 8 = (bs ++ le n 8, 0) := by
    unfold putS
    rw [if_pos ⟨by omega, by omega, Nat.div_eq_of_lt (by simpa using hn)⟩]
    rfl
  rw [e] at h
  exact h.mono fun e w' hh => BE.len hh (by simp [le_len])
set_option maxHeartbeats 1000000 in
theorem spackT_any (s : St) (hf : s.fits) (w : World) : Calls Tryd.prog 92 #[s.val] w (SN w (packT s)) := by
  have HR : Hid (∀ W, Calls Tryd.prog 87 #[.agg s.cells] W (VE W (.bool (decide (SRt s))))) := hid (fun W => sright_any s W)
  have HNm : Hid (∀ W, Calls Tryd.prog 101 #[.agg s.cells] W (VE W (.agg (av s.nums).toArray))) := hid (fun W => snumbers_any s W)
  have HL := hid (snums_len s)
  have H64 : Hid (∀ k (hk : k < s.nums.length), U64 s.nums[k]) := hid (fun k hk => snums_lt s hf _ (List.getElem_mem hk))
  have HSZ : Hid (s.cells.size = 5) := hid rfl
  have e0 : packT s = if SRt s then (nb s.nums, 0) else ([], 4) := rfl
  rw [e0]
  show Calls Tryd.prog 92 #[.agg s.cells] w _
  generalize s.cells = C at *
  generalize s.nums = l at *
  by_cases h : SRt s
  · rw [decide_eq_true h] at HR
    rw [if_pos h]
    clear e0 h hf
    go_enter Tryd.func92, Tryd.ntmps92
    go_wp2_with (first
      | (refine wpList_load_row rfl 42 (.tmp 1) rfl w.heap.size rfl 42 C (0, 0) _ hrow1 Tryd.underlying42 rfl (by rw [HSZ.out]; kernel_rfl) ?_)
      | (refine wpList_load_row rfl 42 (.tmp 1) rfl w.heap.size rfl 42 C (0, 0) _ (heap_alloc_new _ _) Tryd.underlying42 rfl (by rw [HSZ.out]; kernel_rfl) ?_)
      | (go_at_call 87; refine (HR.out _).mono ?_; rintro e w1 ⟨rfl, hb1⟩; have hrow1 : w1.heap[w.heap.size]? = some (.cells C 42 (0, 0)) := (hb1.block _ (by simp)).trans (heap_alloc_new _ _))
      | (go_at_call 101; refine (HNm.out _).mono ?_; rintro e w2 ⟨rfl, hb2⟩))
    have hbe : Below w.heap.size w w2 := (((Below.refl _ _).alloc (Nat.le_refl _) _).trans (hb1.mono (by simp))).trans (hb2.mono (by have := hb1.size; simp at this; omega))
    have HB0 := hid hbe
    clear hb1 hb2 hrow1 hbe
    go_loopw [4, 12] (fun b i wr => ∃ k : Nat, k ≤ 5 ∧ i = .int .i64 k ∧ (∃ A c, b = .slice A (8 * k) c ∧ wr.ownsRow w.heap.size 5 1 (.slice A (8 * k) c) (8 * k) (bvs (nb (l.take k)))) ∧ Below w.heap.size w wr) (fun _ i _ => 5 - (intOf i).toNat)
    case atStart => exact ⟨0, by omega, rfl, ⟨none, 0, rfl, World.ownsRow_nil _ _ _ _⟩, HB0.out⟩
    case round =>
      obtain ⟨k, hk, rfl, ⟨A, c1, rfl, hown⟩, hbe⟩ := hrel
      have HBe := hid hbe
      have hsz := hbe.size
      obtain ⟨A', c', hv, -, -, hrd⟩ := own_shape hown
      cases hv
      by_cases hlt : k < 5
      · have hkl : k < l.length := by rw [HL.out]; exact hlt
        have hix := fun W => run_index_arr (P := Tryd.prog) W 132 26 5 (av l).toArray .i64 k _ .u64 Tryd.underlying132 Tryd.underlying26 (by kernel_rfl) hlt (by simpa using av_get l k hkl)
        have HT := hid (nb_take l k hkl)
        have hlen : 8 * k = (nb (l.take k)).length := by rw [nbt_len _ _ (by omega)]
        have HP := hid (put_eight A (nb (l.take k)) (8 * k) c1 l[k] wr.heap.size wr hrd hlen (H64.out k hkl) (Nat.le_refl _) (by omega))
        rw [← HT.out] at HP
        generalize l[k] = x at hix HP
        clear hown hbe hrd hlen HT
        go_wp2_with (go_at_call 94; refine HP.out.mono ?_; rintro e w2 ⟨A2, c2, rfl, hown2, hb2⟩)
        exact ⟨⟨k + 1, by omega, by go_num, ⟨A2, c2, rfl, own_base hown2 hsz⟩, HBe.out.trans (hb2.mono hsz)⟩, by simp [intOf]; omega⟩
      · obtain rfl : k = 5 := by omega
        have HT : Hid (l.take 5 = l) := hid (List.take_of_length_le (by rw [HL.out]; exact Nat.le_refl _))
        rw [HT.out] at hrd
        have HLb : Hid (8 * 5 = (nb l).length) := hid (by rw [nb_len, HL.out])
        clear hown
        go_wp2_with (with_reducible refine wpl_str rfl _ 96 9 rfl 5 Tryd.underlying96 Tryd.underlying5 Tryd.underlying9 A (8 * 5) c1 rfl wr.heap.size (nb l) ?_ (hid hrd) (hid HLb.out))
        go_ret2
        exact ⟨rfl, HBe.out⟩
  · rw [decide_eq_false h] at HR
    rw [if_neg h]
    clear e0 h hf
    go_enter Tryd.func92, Tryd.ntmps92
    go_wp2_with (first
      | (refine wpList_load_row rfl 42 (.tmp 1) rfl w.heap.size rfl 42 C (0, 0) _ (heap_alloc_new _ _) Tryd.underlying42 rfl (by rw [HSZ.out]; kernel_rfl) ?_)
      | (go_at_call 87; refine (HR.out _).mono ?_; rintro e w1 ⟨rfl, hb1⟩))
    go_ret2
    exact ⟨rfl, ((Below.refl _ _).alloc (Nat.le_refl _) _).trans (hb1.mono (by simp))⟩
end Go.Proofs.YtafbeepacncooaaDoor
/-
  The walk of package slot's unpackStub.
-/
namespace Go.Proofs.YtafbeepacncooaaDoor
open Go.RowKit
set_option maxRecDepth 10000

theorem name_wpS {P : Program} {c : Code} {Q : Exit → Act → World → Prop} {a : Act} {W : World} (h : ∀ w3, w3 = W → Code.wp P c Q a w3) : Code.wp P c Q a W := h W rfl
/-- a stub and an error's number -/
def TEs (w : World) (r : St × Int) (e : Ending) (w' : World) : Prop := e = .returned (.tuple #[r.1.val, .int .i64 r.2]) ∧ Below w.heap.size w w'
/-- the numbers of the first k places, noughts behind them -/
def tkv (s : List UInt8) (k : Nat) : List Nat := (List.range k).map (tn s) ++ List.replicate (5 - k) 0
theorem tkv_len (s : List UInt8) (k : Nat) (h : k ≤ 5) : (tkv s k).length = 5 := by simp [tkv]; omega
theorem tkv_end (s : List UInt8) : tkv s 5 = takeT s := by simp [tkv, takeT]
theorem tkv_zero (s : List UInt8) : tkv s 0 = List.replicate 5 0 := by simp [tkv]
theorem tkv_set (s : List UInt8) (k : Nat) (h : k < 5) : (tkv s k).set k (tn s k) = tkv s (k + 1) := by
  have h1 : ((List.range k).map (tn s)).length = k := by simp
  unfold tkv
  rw [List.set_append_right _ _ (by rw [h1]; omega), h1, Nat.sub_self, show 5 - k = (5 - (k + 1)) + 1 by omega, List.replicate_succ, List.set_cons_zero, List.range_succ, List.map_append, List.append_assoc]
  rfl
theorem take_av (A : Option Addr) (bs : List UInt8) (n c k B : Nat) (W : World) (hr : Rd W B A (bvs bs)) (hn : n = bs.length) (hl : bs.length = 40) (hc : n ≤ c) (hk : k < 5) (hB : B ≤ W.heap.size) :
    Calls Tryd.prog 85 #[.slice A n c, .int .i64 ((8 * k : Nat) : Int), .int .i64 8] W
    fun e w' => e = .returned (.tuple #[.int .u64 ((tn bs k : Nat) : Int), .int .i64 0]) ∧ Below W.heap.size W w' := by
  have h := take_any A bs n c B ((8 * k : Nat) : Int) 8 W hr hn (by omega) hc hB
  have e : takeS bs ((8 * k : Nat) : Int) 8 = (tn bs k, 0) := by
    unfold takeS
    rw [if_neg (by omega), if_neg (by omega)]
    rfl
  rw [e] at h
  exact h
set_option maxHeartbeats 1000000 in
theorem sunpackT_any (s : ByteArray) (w : World) : Calls Tryd.prog 71 #[.string s] w (TEs w (unpackT (sb s))) := by
  have hsl := sb_len s
  have HZS := hid stsize
  by_cases hl : s.size = 40
  · have hl2 : (sb s).length = 40 := by omega
    have HO : Hid (∀ W, Calls Tryd.prog 86 #[.agg (av (tkv (sb s) 5)).toArray] W (VE W (.agg (stOf (takeT (sb s))).cells))) := hid (fun W => by rw [tkv_end]; exact sstubOf_any _ (takeT_len _) W)
    have HR : Hid (∀ W, Calls Tryd.prog 87 #[.agg (stOf (takeT (sb s))).cells] W (VE W (.bool (decide (SRt (stOf (takeT (sb s)))))))) := hid (fun W => sright_any _ W)
    have e0 : unpackT (sb s) = if SRt (stOf (takeT (sb s))) then (stOf (takeT (sb s)), 0) else (st0, 4) := by
      unfold unpackT
      simp only [hl2, true_and]
    rw [e0]
    have HSZ : Hid ((stOf (takeT (sb s))).cells.size = 5) := hid rfl
    have HSO := hid (stcells_one (stOf (takeT (sb s))))
    have HTK : Hid (∀ (g c k : Nat) (W : World), FRow W g 5 (bvs (sb s) ++ List.replicate k (.int .u8 0)) → Hid (s.size ≤ c) → ∀ j, j < 5 → Calls Tryd.prog 85 #[.slice (some ⟨g, 0, none⟩) s.size c, .int .i64 ((8 * j : Nat) : Int), .int .i64 8] W fun e w' => e = .returned (.tuple #[.int .u64 ((tn (sb s) j : Nat) : Int), .int .i64 0]) ∧ Below W.heap.size W w') :=
      hid fun g c k W h1 h2 j hj => take_av _ (sb s) s.size c j (g + 1) W (bytes_rd h1) hsl.symm hl2 h2.out hj h1.lt
    generalize stOf (takeT (sb s)) = S at *
    have hfin : ∀ (x : Int) (e : Ending) (w' : World), e = .returned (.tuple #[.agg S.cells, .int .i64 x]) → Below w.heap.size w w' → TEs w (S, x) e w' := fun _ _ _ h1 h2 => ⟨h1, h2⟩
    have HF := hid hfin
    obtain ⟨r, hr⟩ : ∃ r : St × Int, r = if SRt S then (S, 0) else (st0, 4) := ⟨_, rfl⟩
    rw [← hr]
    have HRR := hid hr
    clear hr
    have h40 : (((s.size : Nat) : Int) != 40) = false := by simp; omega
    clear e0 hfin hsl hl hl2
    go_enter Tryd.func71, Tryd.ntmps71
    go_wp2_with fail
    refine name_wpS (fun w1 hw1 => ?_)
    have hr0 : Row w1 w.heap.size 42 (#[.int .i64 0, .int .i64 0, .int .i64 0, .int .u64 0, .int .u64 0] : Array Value).toList := by rw [hw1]; exact (Row.new w 42 _).alloc _
    have hr1 : Row w1 (w.heap.size + 1) 132 (av (tkv (sb s) 0)) := by
      rw [tkv_zero, hw1]
      exact alloc2_new _ _ _
    have hbe : Below w.heap.size w w1 := by rw [hw1]; exact ((Below.refl _ _).alloc (Nat.le_refl _) _).alloc (by simp) _
    clear hw1
    have HE := hid hbe
    have H0 := hid hr0
    have H1 := hid hr1
    clear hbe hr0 hr1 h40
    go_loopw [11] (fun i wr => ∃ k : Nat, k ≤ 5 ∧ i = .int .i64 k ∧ Row wr w.heap.size 42 (#[.int .i64 0, .int .i64 0, .int .i64 0, .int .u64 0, .int .u64 0] : Array Value).toList ∧ Row wr (w.heap.size + 1) 132 (av (tkv (sb s) k)) ∧ Below w.heap.size w wr) (fun i _ => 5 - (intOf i).toNat)
    case atStart => exact ⟨0, by omega, rfl, H0.out, H1.out, HE.out⟩
    case round =>
      obtain ⟨k, hk, rfl, h0, h1, hbe⟩ := hrel
      have HE := hid hbe
      have H0 := hid h0
      have H1 := hid h1
      have hsz := h1.lt
      by_cases hlt : k < 5
      · have HK : Hid (∀ W : World, Below wr.heap.size wr W → W.cell? ⟨w.heap.size + 1, k, none⟩ = some (.int .u64 (((tkv (sb s) k)[k]'(by rw [tkv_len _ _ hk]; exact hlt) : Nat) : Int)) ∧ W.frozen? ⟨w.heap.size + 1, k, none⟩ = false ∧
            Row (W.setCell ⟨w.heap.size + 1, k, none⟩ (.int .u64 ((tn (sb s) k : Nat) : Int))) (w.heap.size + 1) 132 (av (tkv (sb s) (k + 1)))) := hid fun W hb => by
          have h1 := H1.out.below hb (by omega)
          refine ⟨?_, h1.frozen _, ?_⟩
          · rw [h1.cell]
            exact av_get _ k (by rw [tkv_len _ _ hk]; exact hlt)
          · have := h1.set_ k (.int .u64 ((tn (sb s) k : Nat) : Int))
            rw [av_set, tkv_set _ _ hlt] at this
            exact this
        have HP : Hid (∀ (g c k1 : Nat) (W : World), FRow W g 5 (bvs (sb s) ++ List.replicate k1 (.int .u8 0)) → Hid (s.size ≤ c) → Calls Tryd.prog 85 #[.slice (some ⟨g, 0, none⟩) s.size c, .int .i64 ((k : Int) * 8), .int .i64 8] W fun e w' => e = .returned (.tuple #[.int .u64 ((tn (sb s) k : Nat) : Int), .int .i64 0]) ∧ Below W.heap.size W w') := hid fun g c k1 W h1 h2 => by
          have := HTK.out g c k1 W h1 h2 k hlt
          rw [show ((8 * k : Nat) : Int) = (k : Int) * 8 by omega] at this
          exact this
        generalize (tkv (sb s) k)[k]'(by rw [tkv_len _ _ hk]; exact hlt) = y at HK
        generalize tn (sb s) k = x at HP HK
        clear hbe h0 h1
        go_wp2_with (first
          | (with_reducible refine wpl_bytes rfl _ _ _ rfl 5 Tryd.underlying9 Tryd.underlying96 Tryd.underlying5 s rfl ?_; intro g c k0 w2 HG HC HRW HB)
          | (go_at_call 85; refine (HP.out g c k0 w2 HRW HC).mono ?_; rintro e w3 ⟨rfl, hb3⟩; have hb4 := HB.trans (hb3.mono HB.size); obtain ⟨q1, q2, q4⟩ := HK.out w3 hb4; have Q4 := hid q4; clear q4))
        have hsz2 := hb4.size
        exact ⟨⟨k + 1, by omega, by go_num, (H0.out.below hb4 (by omega)).far (by simp) _, Q4.out, (HE.out.trans (hb4.mono (by omega))).setCell (by simp) _⟩, by simp [intOf]; omega⟩
      · obtain rfl : k = 5 := by omega
        have H0 := hid h0
        have H1 := hid h1
        have HT : Hid ((av (tkv (sb s) 5)).toArray.size = 5) := hid (by simp [av, tkv_len])
        generalize (av (tkv (sb s) 5)) = L at *
        clear h0 h1 hbe HTK
        by_cases h : SRt S
        · have hr := HRR.out
          rw [if_pos h] at hr
          subst hr
          rw [decide_eq_true h] at HR
          generalize S.cells = C at *
          clear h HRR
          go_wp2_with (first
            | (refine wpList_load_row rfl 132 (.tmp 4) rfl (w.heap.size + 1) rfl 132 L.toArray (0, 0) _ H1.out Tryd.underlying132 rfl (by rw [HT.out]; kernel_rfl) ?_)
            | (go_at_call 86; refine (HO.out _).mono ?_; rintro e w3 ⟨rfl, hb3⟩; have hrow3 := H0.out.below hb3 (by omega); have hbe3 := HE.out.trans (hb3.mono HE.out.size))
            | (refine wpl_store_st rfl (.tmp 6) (.tmp 26) rfl (n := 5) HZS.out w3.heap.size #[.int .i64 0, .int .i64 0, .int .i64 0, .int .u64 0, .int .u64 0] C rfl rfl (Row.new _ _ _) ?_ (hid rfl) HSZ HSO; intro w4 HR4 HB4; have hrow4 := (hrow3.alloc (.cells #[.int .i64 0, .int .i64 0, .int .i64 0, .int .u64 0, .int .u64 0] 42)).grown HB4 (by have := hrow3.lt; intro e; have := Option.some.inj e; omega); have hbe4 := (hbe3.alloc hbe3.size (.cells #[.int .i64 0, .int .i64 0, .int .i64 0, .int .u64 0, .int .u64 0] 42)).trans (below_grown HB4 hbe3.size (by have := hbe3.size; simp; omega)))
            | (refine wpList_load_row rfl 42 (.tmp 6) rfl w3.heap.size rfl 42 C (0, 0) _ hrow6.arr Tryd.underlying42 rfl (by rw [HSZ.out]; exact HZS.out) ?_)
            | (refine wpList_load_row rfl 42 (.tmp 6) rfl w3.heap.size rfl 42 C (0, 0) _ HR4.arr Tryd.underlying42 rfl (by rw [HSZ.out]; exact HZS.out) ?_)
            | (go_at_call 87; refine (HR.out _).mono ?_; rintro e w5 ⟨rfl, hb5⟩; have hrow6 := HR4.below hb5 HR4.lt; have hrow5 := hrow4.below hb5 hrow4.lt; have hbe5 := hbe4.trans (hb5.mono hbe4.size))
            | (refine wpl_store_st rfl (.tmp 2) (.tmp 31) rfl (n := 5) HZS.out w.heap.size #[.int .i64 0, .int .i64 0, .int .i64 0, .int .u64 0, .int .u64 0] C rfl rfl hrow5 ?_ (hid rfl) HSZ HSO; intro w7 HR7 HB7))
          exact bodyPost_ret (v := .tuple #[.agg C, .int .i64 0]) (results_cell1 rfl _ _ w.heap.size 42 C (0, 0) _ (.int .i64 0) rfl rfl HR7 Tryd.underlying42 rfl (by rw [HSZ.out]; exact HZS.out)) rfl
            (HF.out _ _ _ rfl (hbe5.trans (below_grown HB7 (Nat.le_refl _) hbe5.size)))
        · have hr := HRR.out
          rw [if_neg h] at hr
          subst hr
          rw [decide_eq_false h] at HR
          generalize S.cells = C at *
          clear h HRR
          go_wp2_with (first
            | (refine wpList_load_row rfl 132 (.tmp 4) rfl (w.heap.size + 1) rfl 132 L.toArray (0, 0) _ H1.out Tryd.underlying132 rfl (by rw [HT.out]; kernel_rfl) ?_)
            | (go_at_call 86; refine (HO.out _).mono ?_; rintro e w3 ⟨rfl, hb3⟩; have hrow3 := H0.out.below hb3 (by omega); have hbe3 := HE.out.trans (hb3.mono HE.out.size))
            | (refine wpl_store_st rfl (.tmp 6) (.tmp 26) rfl (n := 5) HZS.out w3.heap.size #[.int .i64 0, .int .i64 0, .int .i64 0, .int .u64 0, .int .u64 0] C rfl rfl (Row.new _ _ _) ?_ (hid rfl) HSZ HSO; intro w4 HR4 HB4; have hrow4 := (hrow3.alloc (.cells #[.int .i64 0, .int .i64 0, .int .i64 0, .int .u64 0, .int .u64 0] 42)).grown HB4 (by have := hrow3.lt; intro e; have := Option.some.inj e; omega); have hbe4 := (hbe3.alloc hbe3.size (.cells #[.int .i64 0, .int .i64 0, .int .i64 0, .int .u64 0, .int .u64 0] 42)).trans (below_grown HB4 hbe3.size (by have := hbe3.size; simp; omega)))
            | (refine wpList_load_row rfl 42 (.tmp 6) rfl w3.heap.size rfl 42 C (0, 0) _ hrow6.arr Tryd.underlying42 rfl (by rw [HSZ.out]; exact HZS.out) ?_)
            | (refine wpList_load_row rfl 42 (.tmp 6) rfl w3.heap.size rfl 42 C (0, 0) _ HR4.arr Tryd.underlying42 rfl (by rw [HSZ.out]; exact HZS.out) ?_)
            | (go_at_call 87; refine (HR.out _).mono ?_; rintro e w5 ⟨rfl, hb5⟩; have hrow6 := HR4.below hb5 HR4.lt; have hrow5 := hrow4.below hb5 hrow4.lt; have hbe5 := hbe4.trans (hb5.mono hbe4.size))
            | (refine wpl_store_st rfl (.tmp 2) (.tmp 30) rfl (n := 5) HZS.out w.heap.size #[.int .i64 0, .int .i64 0, .int .i64 0, .int .u64 0, .int .u64 0] #[.int .i64 0, .int .i64 0, .int .i64 0, .int .u64 0, .int .u64 0] rfl rfl hrow5 ?_ (hid rfl) (hid rfl) (stcells_one st0); intro w7 HR7 HB7))
          exact bodyPost_ret (v := .tuple #[.agg #[.int .i64 0, .int .i64 0, .int .i64 0, .int .u64 0, .int .u64 0], .int .i64 4]) (results_cell1 rfl _ _ w.heap.size 42 #[.int .i64 0, .int .i64 0, .int .i64 0, .int .u64 0, .int .u64 0] (0, 0) _ (.int .i64 4) rfl rfl HR7 Tryd.underlying42 rfl (by exact HZS.out)) rfl
            (⟨rfl, (hbe5.trans (below_grown HB7 (Nat.le_refl _) hbe5.size))⟩)
  · have e0 : unpackT (sb s) = (st0, 4) := by
      unfold unpackT
      rw [if_neg (by intro h; omega)]
    rw [e0]
    have h1 : (((s.size : Nat) : Int) != 40) = true := by simp; omega
    clear e0 hsl
    go_enter Tryd.func71, Tryd.ntmps71
    go_wp2_with fail
    exact bodyPost_ret (v := .tuple #[.agg #[.int .i64 0, .int .i64 0, .int .i64 0, .int .u64 0, .int .u64 0], .int .i64 4]) (results_cell1 rfl _ _ w.heap.size 42 #[.int .i64 0, .int .i64 0, .int .i64 0, .int .u64 0, .int .u64 0] (0, 0) _ (.int .i64 4) rfl rfl (heap_alloc_new _ _) Tryd.underlying42 rfl (by kernel_rfl)) rfl
      ⟨rfl, (Below.refl _ _).alloc (Nat.le_refl _) _⟩
end Go.Proofs.YtafbeepacncooaaDoor
/-
  The walks of Prepare, Header, Void, package slot's and the document's.
-/
namespace Go.Proofs.YtafbeepacncooaaDoor
open Go.RowKit
set_option maxRecDepth 10000

theorem sprep_no (C : Array Value) (old : ByteArray) (T : List UInt8) (f : Int) (w : World) (hf : Fd w) (HSZ : Hid (C.size = 9)) (h0 : (f != 0) = true)
    (HP : Hid (∀ W : World, Fd W → Calls Tryd.prog 58 #[.agg C] W fun e w' => e = .returned (.tuple #[.string ⟨T.toArray⟩, .int .i64 f]) ∧ Below W.heap.size W w')) :
    Calls Tryd.prog 77 #[.string old, .agg C] w (SN w ([], f)) := by
  have HZS := hid esize
  have HFd := hid hf
  clear hf
  go_enter Tryd.func77, Tryd.ntmps77
  go_wp2_with (first
    | (refine wpList_load_row rfl 28 (.tmp 3) rfl w.heap.size rfl 28 C (0, 0) _ (heap_alloc_new _ _) Tryd.underlying28 rfl (by rw [HSZ.out]; exact HZS.out) ?_)
    | (go_at_call 58; refine (HP.out _ (HFd.out.below ((Below.refl w.heap.size w).alloc (Nat.le_refl _) _) HFd.out.1)).mono ?_; rintro e w1 ⟨rfl, hb1⟩))
  go_ret2
  exact ⟨rfl, ((Below.refl _ _).alloc (Nat.le_refl _) _).trans (hb1.mono (by simp))⟩
theorem sprep_yes (C : Array Value) (old : ByteArray) (T : List UInt8) (r : List UInt8 × Int) (w : World) (hf : Fd w) (HSZ : Hid (C.size = 9))
    (HP : Hid (∀ W : World, Fd W → Calls Tryd.prog 58 #[.agg C] W fun e w' => e = .returned (.tuple #[.string ⟨T.toArray⟩, .int .i64 0]) ∧ Below W.heap.size W w'))
    (HS : Hid (∀ W : World, Calls Tryd.prog 66 #[.string old, .string ⟨T.toArray⟩] W (SN W r))) :
    Calls Tryd.prog 77 #[.string old, .agg C] w (SN w r) := by
  have HZS := hid esize
  have HFd := hid hf
  clear hf
  go_enter Tryd.func77, Tryd.ntmps77
  go_wp2_with (first
    | (refine wpList_load_row rfl 28 (.tmp 3) rfl w.heap.size rfl 28 C (0, 0) _ (heap_alloc_new _ _) Tryd.underlying28 rfl (by rw [HSZ.out]; exact HZS.out) ?_)
    | (go_at_call 58; refine (HP.out _ (HFd.out.below ((Below.refl w.heap.size w).alloc (Nat.le_refl _) _) HFd.out.1)).mono ?_; rintro e w1 ⟨rfl, hb1⟩)
    | (go_at_call 66; refine (HS.out _).mono ?_; rintro e w2 ⟨rfl, hb2⟩))
  go_ret2
  exact ⟨rfl, (((Below.refl _ _).alloc (Nat.le_refl _) _).trans (hb1.mono (by simp))).trans (hb2.mono (by have := hb1.size; simp at this; omega))⟩
theorem shdr_no (C : Array Value) (old : ByteArray) (T : List UInt8)  (w : World) (HSZ : Hid (C.size = 5)) 
    (HP : Hid (∀ W : World, Calls Tryd.prog 92 #[.agg C] W fun e w' => e = .returned (.tuple #[.string ⟨T.toArray⟩, .int .i64 4]) ∧ Below W.heap.size W w')) :
    Calls Tryd.prog 79 #[.string old, .agg C] w (SN w ([], 4)) := by
  have HZS := hid stsize
  go_enter Tryd.func79, Tryd.ntmps79
  go_wp2_with (first
    | (refine wpList_load_row rfl 42 (.tmp 3) rfl w.heap.size rfl 42 C (0, 0) _ (heap_alloc_new _ _) Tryd.underlying42 rfl (by rw [HSZ.out]; exact HZS.out) ?_)
    | (go_at_call 92; refine (HP.out _).mono ?_; rintro e w1 ⟨rfl, hb1⟩))
  go_ret2
  exact ⟨rfl, ((Below.refl _ _).alloc (Nat.le_refl _) _).trans (hb1.mono (by simp))⟩
theorem shdr_yes (C : Array Value) (old : ByteArray) (T : List UInt8) (r : List UInt8 × Int) (w : World) (HSZ : Hid (C.size = 5))
    (HP : Hid (∀ W : World, Calls Tryd.prog 92 #[.agg C] W fun e w' => e = .returned (.tuple #[.string ⟨T.toArray⟩, .int .i64 0]) ∧ Below W.heap.size W w'))
    (HS : Hid (∀ W : World, Calls Tryd.prog 66 #[.string old, .string ⟨T.toArray⟩] W (SN W r))) :
    Calls Tryd.prog 79 #[.string old, .agg C] w (SN w r) := by
  have HZS := hid stsize
  go_enter Tryd.func79, Tryd.ntmps79
  go_wp2_with (first
    | (refine wpList_load_row rfl 42 (.tmp 3) rfl w.heap.size rfl 42 C (0, 0) _ (heap_alloc_new _ _) Tryd.underlying42 rfl (by rw [HSZ.out]; exact HZS.out) ?_)
    | (go_at_call 92; refine (HP.out _).mono ?_; rintro e w1 ⟨rfl, hb1⟩)
    | (go_at_call 66; refine (HS.out _).mono ?_; rintro e w2 ⟨rfl, hb2⟩))
  go_ret2
  exact ⟨rfl, (((Below.refl _ _).alloc (Nat.le_refl _) _).trans (hb1.mono (by simp))).trans (hb2.mono (by have := hb1.size; simp at this; omega))⟩
theorem sprep_any (old : ByteArray) (e : En) (hold : old.size ≤ 1125899906842624) (w : World) (hf : Fd w) : Calls Tryd.prog 77 #[.string old, e.val] w (SN w (prepS (sb old) e)) := by
  have HSZ : Hid (e.cells.size = 9) := hid rfl
  have HP := hid (fun (W : World) (hW : Fd W) => epack_any e W hW)
  unfold prepS
  by_cases h0 : (packE e).2 = 0
  · rw [if_pos h0]
    have HS := hid (fun W => seal_calls old ⟨(packE e).1.toArray⟩ W hold)
    rw [sb_mk] at HS
    have HP2 : Hid (∀ W : World, Fd W → Calls Tryd.prog 58 #[.agg e.cells] W fun e' w' => e' = .returned (.tuple #[.string ⟨(packE e).1.toArray⟩, .int .i64 0]) ∧ Below W.heap.size W w') := hid fun W hW => by
      have := HP.out W hW
      rw [show packE e = ((packE e).1, 0) by rw [← h0]] at this
      exact this
    exact sprep_yes e.cells old _ _ w hf HSZ HP2 HS
  · rw [if_neg h0]
    exact sprep_no e.cells old _ _ w hf HSZ (by simpa using h0) HP
theorem shdr_any (old : ByteArray) (s : St) (hs : s.fits) (hold : old.size ≤ 1125899906842624) (w : World) : Calls Tryd.prog 79 #[.string old, s.val] w (SN w (hdrS (sb old) s)) := by
  have HSZ : Hid (s.cells.size = 5) := hid rfl
  have HP := hid (fun W => spackT_any s hs W)
  unfold hdrS
  unfold packT at HP
  by_cases h0 : SRt s
  · rw [if_pos h0] at HP ⊢
    have HS := hid (fun W => seal_calls old ⟨s.bytes.toArray⟩ W hold)
    rw [sb_mk] at HS
    exact shdr_yes s.cells old _ _ w HSZ HP HS
  · rw [if_neg h0] at HP ⊢
    exact shdr_no s.cells old _ w HSZ HP
theorem svoid_any (old : ByteArray) (hold : old.size ≤ 1125899906842624) (w : World) : Calls Tryd.prog 48 #[.string old] w (SE w (voidS (sb old))) := by
  have HS := hid (fun W => seal_calls old ⟨#[]⟩ W hold)
  rw [show sb (⟨#[]⟩ : ByteArray) = [] from rfl] at HS
  unfold voidS
  generalize sealS (sb old) [] = r at *
  go_enter Tryd.func48, Tryd.ntmps48
  go_wp2_with (go_at_call 66; refine (HS.out _).mono ?_; rintro e w1 ⟨rfl, hb1⟩)
  go_ret
  exact ⟨rfl, hb1⟩
end Go.Proofs.YtafbeepacncooaaDoor
/-
  The walks of package slot's look, Entry, Stub.
-/
namespace Go.Proofs.YtafbeepacncooaaDoor
open Go.RowKit
set_option maxRecDepth 10000

/-- an entry, or a stub, and two answers -/
def LQ (w : World) (C : Array Value) (a b : Bool) (e : Ending) (w' : World) : Prop := e = .returned (.tuple #[.agg C, .bool a, .bool b]) ∧ Below w.heap.size w w'
theorem ezero_one : (#[.int .i64 0, .int .i64 0, .int .i64 0, .int .u64 0, .int .i64 0, .int .i64 0, .int .i64 0, .int .i64 0, .string ⟨#[]⟩] : Array Value).all (·.oneCell') = true := by simp [Value.oneCell']
theorem szero_one : (#[.int .i64 0, .int .i64 0, .int .i64 0, .int .u64 0, .int .u64 0] : Array Value).all (·.oneCell') = true := by simp [Value.oneCell']
set_option maxHeartbeats 1000000 in
theorem slke_void (s : ByteArray) (b : Bool) (w : World) (HO : Hid (∀ W : World, Calls Tryd.prog 82 #[.string s] W fun e w' => e = .returned (.tuple #[.string ⟨#[]⟩, .bool b]) ∧ Below W.heap.size W w')) :
    Calls Tryd.prog 68 #[.string s, .func (.func 69) #[] #[]] w (LQ w #[.int .i64 0, .int .i64 0, .int .i64 0, .int .u64 0, .int .i64 0, .int .i64 0, .int .i64 0, .int .i64 0, .string ⟨#[]⟩] false b) := by
  have HZS := hid esize
  go_enter Tryd.func68, Tryd.ntmps68
  go_wp2_with (first
    | (go_at_call 82; refine (HO.out _).mono ?_; rintro e w1 ⟨rfl, hb1⟩; have hr0 : Row w1 w.heap.size 28 (Array.toList #[.int .i64 0, .int .i64 0, .int .i64 0, .int .u64 0, .int .i64 0, .int .i64 0, .int .i64 0, .int .i64 0, .string ⟨#[]⟩]) := ((Row.new w 28 #[.int .i64 0, .int .i64 0, .int .i64 0, .int .u64 0, .int .i64 0, .int .i64 0, .int .i64 0, .int .i64 0, .string ⟨#[]⟩]).alloc (.cells #[.int .i64 0, .int .i64 0, .int .i64 0, .int .u64 0, .int .i64 0, .int .i64 0, .int .i64 0, .int .i64 0, .string ⟨#[]⟩] 28)).below hb1 (by simp; omega); have hr1 : Row w1 (w.heap.size + 1) 28 (Array.toList #[.int .i64 0, .int .i64 0, .int .i64 0, .int .u64 0, .int .i64 0, .int .i64 0, .int .i64 0, .int .i64 0, .string ⟨#[]⟩]) := Row.below (B := w.heap.size + 1 + 1) (alloc2_new _ _ _) (hb1.mono (by simp)) (by omega); have hbe := (((Below.refl w.heap.size w).alloc (Nat.le_refl _) (.cells #[.int .i64 0, .int .i64 0, .int .i64 0, .int .u64 0, .int .i64 0, .int .i64 0, .int .i64 0, .int .i64 0, .string ⟨#[]⟩] 28)).alloc (by simp) (.cells #[.int .i64 0, .int .i64 0, .int .i64 0, .int .u64 0, .int .i64 0, .int .i64 0, .int .i64 0, .int .i64 0, .string ⟨#[]⟩] 28)).trans (hb1.mono (by simp; omega)))
    | (refine wpList_load_row rfl 28 (.tmp 7) rfl (w.heap.size + 1) rfl 28 #[.int .i64 0, .int .i64 0, .int .i64 0, .int .u64 0, .int .i64 0, .int .i64 0, .int .i64 0, .int .i64 0, .string ⟨#[]⟩] (0, 0) _ hr1.arr Tryd.underlying28 rfl HZS.out ?_)
    | (refine wpl_store_st rfl (.tmp 4) (.tmp 19) rfl (n := 9) HZS.out w.heap.size #[.int .i64 0, .int .i64 0, .int .i64 0, .int .u64 0, .int .i64 0, .int .i64 0, .int .i64 0, .int .i64 0, .string ⟨#[]⟩] #[.int .i64 0, .int .i64 0, .int .i64 0, .int .u64 0, .int .i64 0, .int .i64 0, .int .i64 0, .int .i64 0, .string ⟨#[]⟩] rfl rfl hr0 ?_ (hid rfl) (hid rfl) (hid ezero_one); intro w7 HR7 HB7))
  exact bodyPost_ret (v := .tuple #[.agg #[.int .i64 0, .int .i64 0, .int .i64 0, .int .u64 0, .int .i64 0, .int .i64 0, .int .i64 0, .int .i64 0, .string ⟨#[]⟩], .bool false, .bool b]) (results_cell2 rfl _ _ w.heap.size 28 #[.int .i64 0, .int .i64 0, .int .i64 0, .int .u64 0, .int .i64 0, .int .i64 0, .int .i64 0, .int .i64 0, .string ⟨#[]⟩] (0, 0) _ (.bool false) (.bool b) rfl rfl rfl HR7.arr Tryd.underlying28 rfl (by exact HZS.out)) rfl
    ⟨rfl, hbe.trans (below_grown HB7 (Nat.le_refl _) hbe.size)⟩
set_option maxHeartbeats 1000000 in
theorem slke_bad (s T : ByteArray) (b : Bool) (C : Array Value) (f : Int) (w : World) (hf : Fd w) (hne : T.toList.isEmpty = false) (h0 : (f != 0) = true) (HSZ : Hid (C.size = 9)) (HSO : Hid (C.all (·.oneCell') = true))
    (HO : Hid (∀ W : World, Calls Tryd.prog 82 #[.string s] W fun e w' => e = .returned (.tuple #[.string T, .bool b]) ∧ Below W.heap.size W w'))
    (HU : Hid (∀ W : World, Fd W → Calls Tryd.prog 69 #[.string T] W fun e w' => e = .returned (.tuple #[.agg C, .int .i64 f]) ∧ Below W.heap.size W w')) :
    Calls Tryd.prog 68 #[.string s, .func (.func 69) #[] #[]] w (LQ w #[.int .i64 0, .int .i64 0, .int .i64 0, .int .u64 0, .int .i64 0, .int .i64 0, .int .i64 0, .int .i64 0, .string ⟨#[]⟩] false false) := by
  have HZS := hid esize
  have HFd := hid hf
  clear hf
  go_enter Tryd.func68, Tryd.ntmps68
  go_wp2_with (first
    | (go_at_call 82; refine (HO.out _).mono ?_; rintro e w1 ⟨rfl, hb1⟩; have hr0 : Row w1 w.heap.size 28 (Array.toList #[.int .i64 0, .int .i64 0, .int .i64 0, .int .u64 0, .int .i64 0, .int .i64 0, .int .i64 0, .int .i64 0, .string ⟨#[]⟩]) := ((Row.new w 28 #[.int .i64 0, .int .i64 0, .int .i64 0, .int .u64 0, .int .i64 0, .int .i64 0, .int .i64 0, .int .i64 0, .string ⟨#[]⟩]).alloc (.cells #[.int .i64 0, .int .i64 0, .int .i64 0, .int .u64 0, .int .i64 0, .int .i64 0, .int .i64 0, .int .i64 0, .string ⟨#[]⟩] 28)).below hb1 (by simp; omega); have hr1 : Row w1 (w.heap.size + 1) 28 (Array.toList #[.int .i64 0, .int .i64 0, .int .i64 0, .int .u64 0, .int .i64 0, .int .i64 0, .int .i64 0, .int .i64 0, .string ⟨#[]⟩]) := Row.below (B := w.heap.size + 1 + 1) (alloc2_new _ _ _) (hb1.mono (by simp)) (by omega); have hbe := (((Below.refl w.heap.size w).alloc (Nat.le_refl _) (.cells #[.int .i64 0, .int .i64 0, .int .i64 0, .int .u64 0, .int .i64 0, .int .i64 0, .int .i64 0, .int .i64 0, .string ⟨#[]⟩] 28)).alloc (by simp) (.cells #[.int .i64 0, .int .i64 0, .int .i64 0, .int .u64 0, .int .i64 0, .int .i64 0, .int .i64 0, .int .i64 0, .string ⟨#[]⟩] 28)).trans (hb1.mono (by simp; omega)))
    | (go_at_call 69; refine (HU.out _ (HFd.out.below hbe HFd.out.1)).mono ?_; rintro e w2 ⟨rfl, hb2⟩; replace hr0 := hr0.below hb2 hr0.lt; replace hr1 := hr1.below hb2 hr1.lt; replace hbe := hbe.trans (hb2.mono hbe.size))
    | (refine wpl_store_st rfl (.tmp 10) (.tmp 25) rfl (n := 9) HZS.out w2.heap.size #[.int .i64 0, .int .i64 0, .int .i64 0, .int .u64 0, .int .i64 0, .int .i64 0, .int .i64 0, .int .i64 0, .string ⟨#[]⟩] C rfl rfl (Row.new _ _ _) ?_ (hid rfl) HSZ HSO; intro w3 HR3 HB3; replace hr0 := (hr0.alloc (.cells #[.int .i64 0, .int .i64 0, .int .i64 0, .int .u64 0, .int .i64 0, .int .i64 0, .int .i64 0, .int .i64 0, .string ⟨#[]⟩] 28)).grown HB3 (by have := hr0.lt; intro e; have := Option.some.inj e; omega); replace hr1 := (hr1.alloc (.cells #[.int .i64 0, .int .i64 0, .int .i64 0, .int .u64 0, .int .i64 0, .int .i64 0, .int .i64 0, .int .i64 0, .string ⟨#[]⟩] 28)).grown HB3 (by have := hr1.lt; intro e; have := Option.some.inj e; omega); replace hbe := (hbe.alloc hbe.size (.cells #[.int .i64 0, .int .i64 0, .int .i64 0, .int .u64 0, .int .i64 0, .int .i64 0, .int .i64 0, .int .i64 0, .string ⟨#[]⟩] 28)).trans (below_grown HB3 hbe.size (by have := hbe.size; simp; omega)))
    | (refine wpList_load_row rfl 28 (.tmp 7) rfl (w.heap.size + 1) rfl 28 #[.int .i64 0, .int .i64 0, .int .i64 0, .int .u64 0, .int .i64 0, .int .i64 0, .int .i64 0, .int .i64 0, .string ⟨#[]⟩] (0, 0) _ hr1.arr Tryd.underlying28 rfl HZS.out ?_)
    | (refine wpl_store_st rfl (.tmp 4) (.tmp 29) rfl (n := 9) HZS.out w.heap.size #[.int .i64 0, .int .i64 0, .int .i64 0, .int .u64 0, .int .i64 0, .int .i64 0, .int .i64 0, .int .i64 0, .string ⟨#[]⟩] #[.int .i64 0, .int .i64 0, .int .i64 0, .int .u64 0, .int .i64 0, .int .i64 0, .int .i64 0, .int .i64 0, .string ⟨#[]⟩] rfl rfl hr0 ?_ (hid rfl) (hid rfl) (hid ezero_one); intro w7 HR7 HB7))
  exact bodyPost_ret (v := .tuple #[.agg #[.int .i64 0, .int .i64 0, .int .i64 0, .int .u64 0, .int .i64 0, .int .i64 0, .int .i64 0, .int .i64 0, .string ⟨#[]⟩], .bool false, .bool false]) (results_cell2 rfl _ _ w.heap.size 28 #[.int .i64 0, .int .i64 0, .int .i64 0, .int .u64 0, .int .i64 0, .int .i64 0, .int .i64 0, .int .i64 0, .string ⟨#[]⟩] (0, 0) _ (.bool false) (.bool false) rfl rfl rfl HR7.arr Tryd.underlying28 rfl (by exact HZS.out)) rfl
    ⟨rfl, hbe.trans (below_grown HB7 (Nat.le_refl _) hbe.size)⟩
set_option maxHeartbeats 1000000 in
theorem slke_good (s T : ByteArray) (b : Bool) (C : Array Value) (w : World) (hf : Fd w) (hne : T.toList.isEmpty = false) (HSZ : Hid (C.size = 9)) (HSO : Hid (C.all (·.oneCell') = true))
    (HO : Hid (∀ W : World, Calls Tryd.prog 82 #[.string s] W fun e w' => e = .returned (.tuple #[.string T, .bool b]) ∧ Below W.heap.size W w'))
    (HU : Hid (∀ W : World, Fd W → Calls Tryd.prog 69 #[.string T] W fun e w' => e = .returned (.tuple #[.agg C, .int .i64 0]) ∧ Below W.heap.size W w')) :
    Calls Tryd.prog 68 #[.string s, .func (.func 69) #[] #[]] w (LQ w C true true) := by
  have HZS := hid esize
  have HFd := hid hf
  clear hf
  go_enter Tryd.func68, Tryd.ntmps68
  go_wp2_with (first
    | (go_at_call 82; refine (HO.out _).mono ?_; rintro e w1 ⟨rfl, hb1⟩; have hr0 : Row w1 w.heap.size 28 (Array.toList #[.int .i64 0, .int .i64 0, .int .i64 0, .int .u64 0, .int .i64 0, .int .i64 0, .int .i64 0, .int .i64 0, .string ⟨#[]⟩]) := ((Row.new w 28 #[.int .i64 0, .int .i64 0, .int .i64 0, .int .u64 0, .int .i64 0, .int .i64 0, .int .i64 0, .int .i64 0, .string ⟨#[]⟩]).alloc (.cells #[.int .i64 0, .int .i64 0, .int .i64 0, .int .u64 0, .int .i64 0, .int .i64 0, .int .i64 0, .int .i64 0, .string ⟨#[]⟩] 28)).below hb1 (by simp; omega); have hr1 : Row w1 (w.heap.size + 1) 28 (Array.toList #[.int .i64 0, .int .i64 0, .int .i64 0, .int .u64 0, .int .i64 0, .int .i64 0, .int .i64 0, .int .i64 0, .string ⟨#[]⟩]) := Row.below (B := w.heap.size + 1 + 1) (alloc2_new _ _ _) (hb1.mono (by simp)) (by omega); have hbe := (((Below.refl w.heap.size w).alloc (Nat.le_refl _) (.cells #[.int .i64 0, .int .i64 0, .int .i64 0, .int .u64 0, .int .i64 0, .int .i64 0, .int .i64 0, .int .i64 0, .string ⟨#[]⟩] 28)).alloc (by simp) (.cells #[.int .i64 0, .int .i64 0, .int .i64 0, .int .u64 0, .int .i64 0, .int .i64 0, .int .i64 0, .int .i64 0, .string ⟨#[]⟩] 28)).trans (hb1.mono (by simp; omega)))
    | (go_at_call 69; refine (HU.out _ (HFd.out.below hbe HFd.out.1)).mono ?_; rintro e w2 ⟨rfl, hb2⟩; replace hr0 := hr0.below hb2 hr0.lt; replace hr1 := hr1.below hb2 hr1.lt; replace hbe := hbe.trans (hb2.mono hbe.size))
    | (refine wpl_store_st rfl (.tmp 10) (.tmp 25) rfl (n := 9) HZS.out w2.heap.size #[.int .i64 0, .int .i64 0, .int .i64 0, .int .u64 0, .int .i64 0, .int .i64 0, .int .i64 0, .int .i64 0, .string ⟨#[]⟩] C rfl rfl (Row.new _ _ _) ?_ (hid rfl) HSZ HSO; intro w3 HR3 HB3; replace hr0 := (hr0.alloc (.cells #[.int .i64 0, .int .i64 0, .int .i64 0, .int .u64 0, .int .i64 0, .int .i64 0, .int .i64 0, .int .i64 0, .string ⟨#[]⟩] 28)).grown HB3 (by have := hr0.lt; intro e; have := Option.some.inj e; omega); replace hr1 := (hr1.alloc (.cells #[.int .i64 0, .int .i64 0, .int .i64 0, .int .u64 0, .int .i64 0, .int .i64 0, .int .i64 0, .int .i64 0, .string ⟨#[]⟩] 28)).grown HB3 (by have := hr1.lt; intro e; have := Option.some.inj e; omega); replace hbe := (hbe.alloc hbe.size (.cells #[.int .i64 0, .int .i64 0, .int .i64 0, .int .u64 0, .int .i64 0, .int .i64 0, .int .i64 0, .int .i64 0, .string ⟨#[]⟩] 28)).trans (below_grown HB3 hbe.size (by have := hbe.size; simp; omega)))
    | (refine wpList_load_row rfl 28 (.tmp 10) rfl w2.heap.size rfl 28 C (0, 0) _ HR3.arr Tryd.underlying28 rfl (by rw [HSZ.out]; exact HZS.out) ?_)
    | (refine wpl_store_st rfl (.tmp 4) (.tmp 30) rfl (n := 9) HZS.out w.heap.size #[.int .i64 0, .int .i64 0, .int .i64 0, .int .u64 0, .int .i64 0, .int .i64 0, .int .i64 0, .int .i64 0, .string ⟨#[]⟩] C rfl rfl hr0 ?_ (hid rfl) HSZ HSO; intro w7 HR7 HB7))
  exact bodyPost_ret (v := .tuple #[.agg C, .bool true, .bool true]) (results_cell2 rfl _ _ w.heap.size 28 C (0, 0) _ (.bool true) (.bool true) rfl rfl rfl HR7.arr Tryd.underlying28 rfl (by rw [HSZ.out]; exact HZS.out)) rfl
    ⟨rfl, hbe.trans (below_grown HB7 (Nat.le_refl _) hbe.size)⟩
theorem olke_of (s : ByteArray) (C : Array Value) (a b : Bool) (w : World) (hf : Fd w) (HSZ : Hid (C.size = 9)) (HSO : Hid (C.all (·.oneCell') = true))
    (HL : Hid (∀ W : World, Fd W → Calls Tryd.prog 68 #[.string s, .func (.func 69) #[] #[]] W (LQ W C a b))) : Calls Tryd.prog 51 #[.string s] w (LQ w C a b) := by
  have HZS := hid esize
  have HFd := hid hf
  clear hf
  go_enter Tryd.func51, Tryd.ntmps51
  go_wp2_with (first
    | (go_at_call 68; refine (HL.out _ (HFd.out.below ((Below.refl w.heap.size w).alloc (Nat.le_refl _) _) HFd.out.1)).mono ?_; rintro e w1 ⟨rfl, hb1⟩; have hr0 := (Row.new w 28 #[.int .i64 0, .int .i64 0, .int .i64 0, .int .u64 0, .int .i64 0, .int .i64 0, .int .i64 0, .int .i64 0, .string ⟨#[]⟩]).below hb1 (by simp); have hbe := ((Below.refl w.heap.size w).alloc (Nat.le_refl _) (.cells #[.int .i64 0, .int .i64 0, .int .i64 0, .int .u64 0, .int .i64 0, .int .i64 0, .int .i64 0, .int .i64 0, .string ⟨#[]⟩] 28)).trans (hb1.mono (by simp)))
    | (refine wpl_store_st rfl (.tmp 2) (.tmp 7) rfl (n := 9) HZS.out w.heap.size #[.int .i64 0, .int .i64 0, .int .i64 0, .int .u64 0, .int .i64 0, .int .i64 0, .int .i64 0, .int .i64 0, .string ⟨#[]⟩] C rfl rfl hr0 ?_ (hid rfl) HSZ HSO; intro w7 HR7 HB7))
  exact bodyPost_ret (v := .tuple #[.agg C, .bool a, .bool b]) (results_cell2 rfl _ _ w.heap.size 28 C (0, 0) _ (.bool a) (.bool b) rfl rfl rfl HR7.arr Tryd.underlying28 rfl (by rw [HSZ.out]; exact HZS.out)) rfl
    ⟨rfl, hbe.trans (below_grown HB7 (Nat.le_refl _) hbe.size)⟩
set_option maxHeartbeats 1000000 in
theorem slks_void (s : ByteArray) (b : Bool) (w : World) (HO : Hid (∀ W : World, Calls Tryd.prog 82 #[.string s] W fun e w' => e = .returned (.tuple #[.string ⟨#[]⟩, .bool b]) ∧ Below W.heap.size W w')) :
    Calls Tryd.prog 70 #[.string s, .func (.func 71) #[] #[]] w (LQ w #[.int .i64 0, .int .i64 0, .int .i64 0, .int .u64 0, .int .u64 0] false b) := by
  have HZS := hid stsize
  go_enter Tryd.func70, Tryd.ntmps70
  go_wp2_with (first
    | (go_at_call 82; refine (HO.out _).mono ?_; rintro e w1 ⟨rfl, hb1⟩; have hr0 : Row w1 w.heap.size 42 (Array.toList #[.int .i64 0, .int .i64 0, .int .i64 0, .int .u64 0, .int .u64 0]) := ((Row.new w 42 #[.int .i64 0, .int .i64 0, .int .i64 0, .int .u64 0, .int .u64 0]).alloc (.cells #[.int .i64 0, .int .i64 0, .int .i64 0, .int .u64 0, .int .u64 0] 42)).below hb1 (by simp; omega); have hr1 : Row w1 (w.heap.size + 1) 42 (Array.toList #[.int .i64 0, .int .i64 0, .int .i64 0, .int .u64 0, .int .u64 0]) := Row.below (B := w.heap.size + 1 + 1) (alloc2_new _ _ _) (hb1.mono (by simp)) (by omega); have hbe := (((Below.refl w.heap.size w).alloc (Nat.le_refl _) (.cells #[.int .i64 0, .int .i64 0, .int .i64 0, .int .u64 0, .int .u64 0] 42)).alloc (by simp) (.cells #[.int .i64 0, .int .i64 0, .int .i64 0, .int .u64 0, .int .u64 0] 42)).trans (hb1.mono (by simp; omega)))
    | (refine wpList_load_row rfl 42 (.tmp 7) rfl (w.heap.size + 1) rfl 42 #[.int .i64 0, .int .i64 0, .int .i64 0, .int .u64 0, .int .u64 0] (0, 0) _ hr1.arr Tryd.underlying42 rfl HZS.out ?_)
    | (refine wpl_store_st rfl (.tmp 4) (.tmp 19) rfl (n := 5) HZS.out w.heap.size #[.int .i64 0, .int .i64 0, .int .i64 0, .int .u64 0, .int .u64 0] #[.int .i64 0, .int .i64 0, .int .i64 0, .int .u64 0, .int .u64 0] rfl rfl hr0 ?_ (hid rfl) (hid rfl) (hid szero_one); intro w7 HR7 HB7))
  exact bodyPost_ret (v := .tuple #[.agg #[.int .i64 0, .int .i64 0, .int .i64 0, .int .u64 0, .int .u64 0], .bool false, .bool b]) (results_cell2 rfl _ _ w.heap.size 42 #[.int .i64 0, .int .i64 0, .int .i64 0, .int .u64 0, .int .u64 0] (0, 0) _ (.bool false) (.bool b) rfl rfl rfl HR7.arr Tryd.underlying42 rfl (by exact HZS.out)) rfl
    ⟨rfl, hbe.trans (below_grown HB7 (Nat.le_refl _) hbe.size)⟩
set_option maxHeartbeats 1000000 in
theorem slks_bad (s T : ByteArray) (b : Bool) (C : Array Value) (f : Int) (w : World) (hne : T.toList.isEmpty = false) (h0 : (f != 0) = true) (HSZ : Hid (C.size = 5)) (HSO : Hid (C.all (·.oneCell') = true))
    (HO : Hid (∀ W : World, Calls Tryd.prog 82 #[.string s] W fun e w' => e = .returned (.tuple #[.string T, .bool b]) ∧ Below W.heap.size W w'))
    (HU : Hid (∀ W : World, Calls Tryd.prog 71 #[.string T] W fun e w' => e = .returned (.tuple #[.agg C, .int .i64 f]) ∧ Below W.heap.size W w')) :
    Calls Tryd.prog 70 #[.string s, .func (.func 71) #[] #[]] w (LQ w #[.int .i64 0, .int .i64 0, .int .i64 0, .int .u64 0, .int .u64 0] false false) := by
  have HZS := hid stsize
  go_enter Tryd.func70, Tryd.ntmps70
  go_wp2_with (first
    | (go_at_call 82; refine (HO.out _).mono ?_; rintro e w1 ⟨rfl, hb1⟩; have hr0 : Row w1 w.heap.size 42 (Array.toList #[.int .i64 0, .int .i64 0, .int .i64 0, .int .u64 0, .int .u64 0]) := ((Row.new w 42 #[.int .i64 0, .int .i64 0, .int .i64 0, .int .u64 0, .int .u64 0]).alloc (.cells #[.int .i64 0, .int .i64 0, .int .i64 0, .int .u64 0, .int .u64 0] 42)).below hb1 (by simp; omega); have hr1 : Row w1 (w.heap.size + 1) 42 (Array.toList #[.int .i64 0, .int .i64 0, .int .i64 0, .int .u64 0, .int .u64 0]) := Row.below (B := w.heap.size + 1 + 1) (alloc2_new _ _ _) (hb1.mono (by simp)) (by omega); have hbe := (((Below.refl w.heap.size w).alloc (Nat.le_refl _) (.cells #[.int .i64 0, .int .i64 0, .int .i64 0, .int .u64 0, .int .u64 0] 42)).alloc (by simp) (.cells #[.int .i64 0, .int .i64 0, .int .i64 0, .int .u64 0, .int .u64 0] 42)).trans (hb1.mono (by simp; omega)))
    | (go_at_call 71; refine (HU.out _).mono ?_; rintro e w2 ⟨rfl, hb2⟩; replace hr0 := hr0.below hb2 hr0.lt; replace hr1 := hr1.below hb2 hr1.lt; replace hbe := hbe.trans (hb2.mono hbe.size))
    | (refine wpl_store_st rfl (.tmp 10) (.tmp 25) rfl (n := 5) HZS.out w2.heap.size #[.int .i64 0, .int .i64 0, .int .i64 0, .int .u64 0, .int .u64 0] C rfl rfl (Row.new _ _ _) ?_ (hid rfl) HSZ HSO; intro w3 HR3 HB3; replace hr0 := (hr0.alloc (.cells #[.int .i64 0, .int .i64 0, .int .i64 0, .int .u64 0, .int .u64 0] 42)).grown HB3 (by have := hr0.lt; intro e; have := Option.some.inj e; omega); replace hr1 := (hr1.alloc (.cells #[.int .i64 0, .int .i64 0, .int .i64 0, .int .u64 0, .int .u64 0] 42)).grown HB3 (by have := hr1.lt; intro e; have := Option.some.inj e; omega); replace hbe := (hbe.alloc hbe.size (.cells #[.int .i64 0, .int .i64 0, .int .i64 0, .int .u64 0, .int .u64 0] 42)).trans (below_grown HB3 hbe.size (by have := hbe.size; simp; omega)))
    | (refine wpList_load_row rfl 42 (.tmp 7) rfl (w.heap.size + 1) rfl 42 #[.int .i64 0, .int .i64 0, .int .i64 0, .int .u64 0, .int .u64 0] (0, 0) _ hr1.arr Tryd.underlying42 rfl HZS.out ?_)
    | (refine wpl_store_st rfl (.tmp 4) (.tmp 29) rfl (n := 5) HZS.out w.heap.size #[.int .i64 0, .int .i64 0, .int .i64 0, .int .u64 0, .int .u64 0] #[.int .i64 0, .int .i64 0, .int .i64 0, .int .u64 0, .int .u64 0] rfl rfl hr0 ?_ (hid rfl) (hid rfl) (hid szero_one); intro w7 HR7 HB7))
  exact bodyPost_ret (v := .tuple #[.agg #[.int .i64 0, .int .i64 0, .int .i64 0, .int .u64 0, .int .u64 0], .bool false, .bool false]) (results_cell2 rfl _ _ w.heap.size 42 #[.int .i64 0, .int .i64 0, .int .i64 0, .int .u64 0, .int .u64 0] (0, 0) _ (.bool false) (.bool false) rfl rfl rfl HR7.arr Tryd.underlying42 rfl (by exact HZS.out)) rfl
    ⟨rfl, hbe.trans (below_grown HB7 (Nat.le_refl _) hbe.size)⟩
set_option maxHeartbeats 1000000 in
theorem slks_good (s T : ByteArray) (b : Bool) (C : Array Value) (w : World) (hne : T.toList.isEmpty = false) (HSZ : Hid (C.size = 5)) (HSO : Hid (C.all (·.oneCell') = true))
    (HO : Hid (∀ W : World, Calls Tryd.prog 82 #[.string s] W fun e w' => e = .returned (.tuple #[.string T, .bool b]) ∧ Below W.heap.size W w'))
    (HU : Hid (∀ W : World, Calls Tryd.prog 71 #[.string T] W fun e w' => e = .returned (.tuple #[.agg C, .int .i64 0]) ∧ Below W.heap.size W w')) :
    Calls Tryd.prog 70 #[.string s, .func (.func 71) #[] #[]] w (LQ w C true true) := by
  have HZS := hid stsize
  go_enter Tryd.func70, Tryd.ntmps70
  go_wp2_with (first
    | (go_at_call 82; refine (HO.out _).mono ?_; rintro e w1 ⟨rfl, hb1⟩; have hr0 : Row w1 w.heap.size 42 (Array.toList #[.int .i64 0, .int .i64 0, .int .i64 0, .int .u64 0, .int .u64 0]) := ((Row.new w 42 #[.int .i64 0, .int .i64 0, .int .i64 0, .int .u64 0, .int .u64 0]).alloc (.cells #[.int .i64 0, .int .i64 0, .int .i64 0, .int .u64 0, .int .u64 0] 42)).below hb1 (by simp; omega); have hr1 : Row w1 (w.heap.size + 1) 42 (Array.toList #[.int .i64 0, .int .i64 0, .int .i64 0, .int .u64 0, .int .u64 0]) := Row.below (B := w.heap.size + 1 + 1) (alloc2_new _ _ _) (hb1.mono (by simp)) (by omega); have hbe := (((Below.refl w.heap.size w).alloc (Nat.le_refl _) (.cells #[.int .i64 0, .int .i64 0, .int .i64 0, .int .u64 0, .int .u64 0] 42)).alloc (by simp) (.cells #[.int .i64 0, .int .i64 0, .int .i64 0, .int .u64 0, .int .u64 0] 42)).trans (hb1.mono (by simp; omega)))
    | (go_at_call 71; refine (HU.out _).mono ?_; rintro e w2 ⟨rfl, hb2⟩; replace hr0 := hr0.below hb2 hr0.lt; replace hr1 := hr1.below hb2 hr1.lt; replace hbe := hbe.trans (hb2.mono hbe.size))
    | (refine wpl_store_st rfl (.tmp 10) (.tmp 25) rfl (n := 5) HZS.out w2.heap.size #[.int .i64 0, .int .i64 0, .int .i64 0, .int .u64 0, .int .u64 0] C rfl rfl (Row.new _ _ _) ?_ (hid rfl) HSZ HSO; intro w3 HR3 HB3; replace hr0 := (hr0.alloc (.cells #[.int .i64 0, .int .i64 0, .int .i64 0, .int .u64 0, .int .u64 0] 42)).grown HB3 (by have := hr0.lt; intro e; have := Option.some.inj e; omega); replace hr1 := (hr1.alloc (.cells #[.int .i64 0, .int .i64 0, .int .i64 0, .int .u64 0, .int .u64 0] 42)).grown HB3 (by have := hr1.lt; intro e; have := Option.some.inj e; omega); replace hbe := (hbe.alloc hbe.size (.cells #[.int .i64 0, .int .i64 0, .int .i64 0, .int .u64 0, .int .u64 0] 42)).trans (below_grown HB3 hbe.size (by have := hbe.size; simp; omega)))
    | (refine wpList_load_row rfl 42 (.tmp 10) rfl w2.heap.size rfl 42 C (0, 0) _ HR3.arr Tryd.underlying42 rfl (by rw [HSZ.out]; exact HZS.out) ?_)
    | (refine wpl_store_st rfl (.tmp 4) (.tmp 30) rfl (n := 5) HZS.out w.heap.size #[.int .i64 0, .int .i64 0, .int .i64 0, .int .u64 0, .int .u64 0] C rfl rfl hr0 ?_ (hid rfl) HSZ HSO; intro w7 HR7 HB7))
  exact bodyPost_ret (v := .tuple #[.agg C, .bool true, .bool true]) (results_cell2 rfl _ _ w.heap.size 42 C (0, 0) _ (.bool true) (.bool true) rfl rfl rfl HR7.arr Tryd.underlying42 rfl (by rw [HSZ.out]; exact HZS.out)) rfl
    ⟨rfl, hbe.trans (below_grown HB7 (Nat.le_refl _) hbe.size)⟩
theorem olks_of (s : ByteArray) (C : Array Value) (a b : Bool) (w : World) (HSZ : Hid (C.size = 5)) (HSO : Hid (C.all (·.oneCell') = true))
    (HL : Hid (∀ W : World, Calls Tryd.prog 70 #[.string s, .func (.func 71) #[] #[]] W (LQ W C a b))) : Calls Tryd.prog 52 #[.string s] w (LQ w C a b) := by
  have HZS := hid stsize
  go_enter Tryd.func52, Tryd.ntmps52
  go_wp2_with (first
    | (go_at_call 70; refine (HL.out _).mono ?_; rintro e w1 ⟨rfl, hb1⟩; have hr0 := (Row.new w 42 #[.int .i64 0, .int .i64 0, .int .i64 0, .int .u64 0, .int .u64 0]).below hb1 (by simp); have hbe := ((Below.refl w.heap.size w).alloc (Nat.le_refl _) (.cells #[.int .i64 0, .int .i64 0, .int .i64 0, .int .u64 0, .int .u64 0] 42)).trans (hb1.mono (by simp)))
    | (refine wpl_store_st rfl (.tmp 2) (.tmp 7) rfl (n := 5) HZS.out w.heap.size #[.int .i64 0, .int .i64 0, .int .i64 0, .int .u64 0, .int .u64 0] C rfl rfl hr0 ?_ (hid rfl) HSZ HSO; intro w7 HR7 HB7))
  exact bodyPost_ret (v := .tuple #[.agg C, .bool a, .bool b]) (results_cell2 rfl _ _ w.heap.size 42 C (0, 0) _ (.bool a) (.bool b) rfl rfl rfl HR7.arr Tryd.underlying42 rfl (by rw [HSZ.out]; exact HZS.out)) rfl
    ⟨rfl, hbe.trans (below_grown HB7 (Nat.le_refl _) hbe.size)⟩
theorem openS_len (l : List UInt8) : (openS l).1.length ≤ 376 := by
  unfold openS
  split
  · rename_i h
    exact tt_len l h.2.1
  · simp
theorem full_l {l : List UInt8} (h : l ≠ []) : (⟨l.toArray⟩ : ByteArray).toList.isEmpty = false := full_of (by rw [← sb_len, sb_mk]; intro e; exact h (List.length_eq_zero_iff.1 e))
theorem entryS_any (s : ByteArray) (w : World) (hf : Fd w) : Calls Tryd.prog 51 #[.string s] w (LQ w (entryS (sb s)).1.cells (entryS (sb s)).2.1 (entryS (sb s)).2.2) := by
  have HO : Hid (∀ W : World, Calls Tryd.prog 82 #[.string s] W fun e w' => e = .returned (.tuple #[.string ⟨(openS (sb s)).1.toArray⟩, .bool (openS (sb s)).2]) ∧ Below W.heap.size W w') := hid fun W => open_calls s W
  have hsz : (openS (sb s)).1.length ≤ 376 := openS_len _
  refine olke_of s _ _ _ w hf (hid rfl) (hid (ecells_one _)) (hid fun W hW => ?_)
  unfold entryS
  generalize openS (sb s) = r at *
  obtain ⟨l, b⟩ := r
  by_cases h0 : l = []
  · subst h0
    rw [if_pos rfl]
    exact slke_void s b W HO
  · rw [if_neg h0]
    have HU := hid (fun W (hW : Fd W) => eup_any ⟨l.toArray⟩ W hW (by rw [← sb_len, sb_mk]; simp only at hsz; omega))
    rw [sb_mk] at HU
    simp only
    by_cases h1 : (unpackE l).2 = 0
    · rw [if_pos h1]
      have e : unpackE l = ((unpackE l).1, 0) := by rw [← h1]
      rw [e] at HU
      exact slke_good s ⟨l.toArray⟩ b _ W hW (full_l h0) (hid rfl) (hid (ecells_one _)) HO HU
    · rw [if_neg h1]
      exact slke_bad s ⟨l.toArray⟩ b _ _ W hW (full_l h0) (by simpa using h1) (hid rfl) (hid (ecells_one _)) HO HU
theorem stubT_any (s : ByteArray) (w : World) : Calls Tryd.prog 52 #[.string s] w (LQ w (stubT (sb s)).1.cells (stubT (sb s)).2.1 (stubT (sb s)).2.2) := by
  have HO : Hid (∀ W : World, Calls Tryd.prog 82 #[.string s] W fun e w' => e = .returned (.tuple #[.string ⟨(openS (sb s)).1.toArray⟩, .bool (openS (sb s)).2]) ∧ Below W.heap.size W w') := hid fun W => open_calls s W
  refine olks_of s _ _ _ w (hid rfl) (hid (stcells_one _)) (hid fun W => ?_)
  unfold stubT
  generalize openS (sb s) = r at *
  obtain ⟨l, b⟩ := r
  by_cases h0 : l = []
  · subst h0
    rw [if_pos rfl]
    exact slks_void s b W HO
  · rw [if_neg h0]
    have HU := hid (fun W => sunpackT_any ⟨l.toArray⟩ W)
    rw [sb_mk] at HU
    simp only
    by_cases h1 : (unpackT l).2 = 0
    · rw [if_pos h1]
      have e : unpackT l = ((unpackT l).1, 0) := by rw [← h1]
      rw [e] at HU
      exact slks_good s ⟨l.toArray⟩ b _ W (full_l h0) (hid rfl) (hid (stcells_one _)) HO HU
    · rw [if_neg h1]
      exact slks_bad s ⟨l.toArray⟩ b _ _ W (full_l h0) (by simpa using h1) (hid rfl) (hid (stcells_one _)) HO HU
end Go.Proofs.YtafbeepacncooaaDoor
/-
  Stubs, entries, items held against each other.
-/
namespace Go.Proofs.YtafbeepacncooaaDoor
open Go.RowKit
set_option maxRecDepth 10000

theorem stubFields : (Tryd.prog.fieldsOf 42).toList = [{ name := "Op", type := 3, offset := 0, embedded := false, tag := "", pkgPath := "", byteOffset := 0 }, { name := "View", type := 3, offset := 1, embedded := false, tag := "", pkgPath := "", byteOffset := 8 }, { name := "Under", type := 3, offset := 2, embedded := false, tag := "", pkgPath := "", byteOffset := 16 }, { name := "Parent", type := 26, offset := 3, embedded := false, tag := "", pkgPath := "", byteOffset := 24 }, { name := "Sum", type := 26, offset := 4, embedded := false, tag := "", pkgPath := "", byteOffset := 32 }] := by kernel_rfl
theorem itemFields : (Tryd.prog.fieldsOf 44).toList = [{ name := "Kind", type := 3, offset := 0, embedded := false, tag := "", pkgPath := "", byteOffset := 0 }, { name := "Stub", type := 42, offset := 1, embedded := false, tag := "", pkgPath := "", byteOffset := 8 }, { name := "Entry", type := 28, offset := 6, embedded := false, tag := "", pkgPath := "", byteOffset := 48 }] := by kernel_rfl
theorem eqSt (d : Nat) (x y : St) (W : World) : (Op.equalIn (d + 2) 42 (.agg x.cells) (.agg y.cells)).run Tryd.prog W = .ok (decide (x = y)) W := by
  rw [run_equalIn_struct W (d + 1) 42 x.cells y.cells (by kernel_rfl) (by kernel_rfl), stubFields]
  have x0 : x.cells[0]? = some (.int .i64 x.opn) := rfl
  have y0 : y.cells[0]? = some (.int .i64 y.opn) := rfl
  have x1 : x.cells[1]? = some (.int .i64 x.view) := rfl
  have y1 : y.cells[1]? = some (.int .i64 y.view) := rfl
  have x2 : x.cells[2]? = some (.int .i64 x.under) := rfl
  have y2 : y.cells[2]? = some (.int .i64 y.under) := rfl
  have x3 : x.cells[3]? = some (.int .u64 (x.parent : Int)) := rfl
  have y3 : y.cells[3]? = some (.int .u64 (y.parent : Int)) := rfl
  have x4 : x.cells[4]? = some (.int .u64 (x.sum : Int)) := rfl
  have y4 : y.cells[4]? = some (.int .u64 (y.sum : Int)) := rfl
  generalize x.cells = X at *
  generalize y.cells = Y at *
  rw [eqF_int (P := Tryd.prog) (W := W) d X Y { name := "Op", type := 3, offset := 0, embedded := false, tag := "", pkgPath := "", byteOffset := 0 } _ .i64 x.opn y.opn (by simp) (part_int 3 X 0 _ .i64 Tryd.underlying3 sizeInt x0) (part_int 3 Y 0 _ .i64 Tryd.underlying3 sizeInt y0) Tryd.underlying3]
  rw [eqF_int (P := Tryd.prog) (W := W) d X Y { name := "View", type := 3, offset := 1, embedded := false, tag := "", pkgPath := "", byteOffset := 8 } _ .i64 x.view y.view (by simp) (part_int 3 X 1 _ .i64 Tryd.underlying3 sizeInt x1) (part_int 3 Y 1 _ .i64 Tryd.underlying3 sizeInt y1) Tryd.underlying3]
  rw [eqF_int (P := Tryd.prog) (W := W) d X Y { name := "Under", type := 3, offset := 2, embedded := false, tag := "", pkgPath := "", byteOffset := 16 } _ .i64 x.under y.under (by simp) (part_int 3 X 2 _ .i64 Tryd.underlying3 sizeInt x2) (part_int 3 Y 2 _ .i64 Tryd.underlying3 sizeInt y2) Tryd.underlying3]
  rw [eqF_int (P := Tryd.prog) (W := W) d X Y { name := "Parent", type := 26, offset := 3, embedded := false, tag := "", pkgPath := "", byteOffset := 24 } _ .u64 (x.parent : Int) (y.parent : Int) (by simp) (part_int 26 X 3 _ .u64 Tryd.underlying26 sizeU64 x3) (part_int 26 Y 3 _ .u64 Tryd.underlying26 sizeU64 y3) Tryd.underlying26]
  rw [eqF_int (P := Tryd.prog) (W := W) d X Y { name := "Sum", type := 26, offset := 4, embedded := false, tag := "", pkgPath := "", byteOffset := 32 } _ .u64 (x.sum : Int) (y.sum : Int) (by simp) (part_int 26 X 4 _ .u64 Tryd.underlying26 sizeU64 x4) (part_int 26 Y 4 _ .u64 Tryd.underlying26 sizeU64 y4) Tryd.underlying26]
  rw [eqF_nil]
  obtain ⟨o1, v1, u1, p1, s1⟩ := x
  obtain ⟨o2, v2, u2, p2, s2⟩ := y
  simp only [St.mk.injEq]
  by_cases c0 : o1 = o2
  case neg => simp [c0]
  by_cases c1 : v1 = v2
  case neg => simp [c1]
  by_cases c2 : u1 = u2
  case neg => simp [c2]
  by_cases c3 : (p1 : Int) = (p2 : Int)
  case neg => simp [c3]; omega
  by_cases c4 : (s1 : Int) = (s2 : Int)
  case neg => simp [c4]; omega
  simp [*]
  omega
theorem eqEn2 (d : Nat) (x y : En) (b : Bool) (hb : b = true ↔ x = y) (W : World) : (Op.equalIn (d + 2) 28 (.agg x.cells) (.agg y.cells)).run Tryd.prog W = .ok b W := by
  rw [run_equalIn_struct W (d + 1) 28 x.cells y.cells (by kernel_rfl) (by kernel_rfl), entryFields]
  have x0 : x.cells[0]? = some (.int .i64 x.view) := rfl
  have y0 : y.cells[0]? = some (.int .i64 y.view) := rfl
  have x1 : x.cells[1]? = some (.int .i64 x.opn) := rfl
  have y1 : y.cells[1]? = some (.int .i64 y.opn) := rfl
  have x2 : x.cells[2]? = some (.int .i64 x.under) := rfl
  have y2 : y.cells[2]? = some (.int .i64 y.under) := rfl
  have x3 : x.cells[3]? = some (.int .u64 (x.parent : Int)) := rfl
  have y3 : y.cells[3]? = some (.int .u64 (y.parent : Int)) := rfl
  have x4 : x.cells[4]? = some (.int .i64 x.client) := rfl
  have y4 : y.cells[4]? = some (.int .i64 y.client) := rfl
  have x5 : x.cells[5]? = some (.int .i64 x.session) := rfl
  have y5 : y.cells[5]? = some (.int .i64 y.session) := rfl
  have x6 : x.cells[6]? = some (.int .i64 x.request) := rfl
  have y6 : y.cells[6]? = some (.int .i64 y.request) := rfl
  have x7 : x.cells[7]? = some (.int .i64 x.oper) := rfl
  have y7 : y.cells[7]? = some (.int .i64 y.oper) := rfl
  have x8 : x.cells[8]? = some (.string x.body) := rfl
  have y8 : y.cells[8]? = some (.string y.body) := rfl
  generalize x.cells = X at *
  generalize y.cells = Y at *
  rw [eqF_int (P := Tryd.prog) (W := W) d X Y { name := "View", type := 3, offset := 0, embedded := false, tag := "", pkgPath := "", byteOffset := 0 } _ .i64 x.view y.view (by simp) (part_int 3 X 0 _ .i64 Tryd.underlying3 sizeInt x0) (part_int 3 Y 0 _ .i64 Tryd.underlying3 sizeInt y0) Tryd.underlying3]
  rw [eqF_int (P := Tryd.prog) (W := W) d X Y { name := "Op", type := 3, offset := 1, embedded := false, tag := "", pkgPath := "", byteOffset := 8 } _ .i64 x.opn y.opn (by simp) (part_int 3 X 1 _ .i64 Tryd.underlying3 sizeInt x1) (part_int 3 Y 1 _ .i64 Tryd.underlying3 sizeInt y1) Tryd.underlying3]
  rw [eqF_int (P := Tryd.prog) (W := W) d X Y { name := "Under", type := 3, offset := 2, embedded := false, tag := "", pkgPath := "", byteOffset := 16 } _ .i64 x.under y.under (by simp) (part_int 3 X 2 _ .i64 Tryd.underlying3 sizeInt x2) (part_int 3 Y 2 _ .i64 Tryd.underlying3 sizeInt y2) Tryd.underlying3]
  rw [eqF_int (P := Tryd.prog) (W := W) d X Y { name := "Parent", type := 26, offset := 3, embedded := false, tag := "", pkgPath := "", byteOffset := 24 } _ .u64 (x.parent : Int) (y.parent : Int) (by simp) (part_int 26 X 3 _ .u64 Tryd.underlying26 sizeU64 x3) (part_int 26 Y 3 _ .u64 Tryd.underlying26 sizeU64 y3) Tryd.underlying26]
  rw [eqF_int (P := Tryd.prog) (W := W) d X Y { name := "Client", type := 3, offset := 4, embedded := false, tag := "", pkgPath := "", byteOffset := 32 } _ .i64 x.client y.client (by simp) (part_int 3 X 4 _ .i64 Tryd.underlying3 sizeInt x4) (part_int 3 Y 4 _ .i64 Tryd.underlying3 sizeInt y4) Tryd.underlying3]
  rw [eqF_int (P := Tryd.prog) (W := W) d X Y { name := "Session", type := 3, offset := 5, embedded := false, tag := "", pkgPath := "", byteOffset := 40 } _ .i64 x.session y.session (by simp) (part_int 3 X 5 _ .i64 Tryd.underlying3 sizeInt x5) (part_int 3 Y 5 _ .i64 Tryd.underlying3 sizeInt y5) Tryd.underlying3]
  rw [eqF_int (P := Tryd.prog) (W := W) d X Y { name := "Request", type := 3, offset := 6, embedded := false, tag := "", pkgPath := "", byteOffset := 48 } _ .i64 x.request y.request (by simp) (part_int 3 X 6 _ .i64 Tryd.underlying3 sizeInt x6) (part_int 3 Y 6 _ .i64 Tryd.underlying3 sizeInt y6) Tryd.underlying3]
  rw [eqF_int (P := Tryd.prog) (W := W) d X Y { name := "Operation", type := 3, offset := 7, embedded := false, tag := "", pkgPath := "", byteOffset := 56 } _ .i64 x.oper y.oper (by simp) (part_int 3 X 7 _ .i64 Tryd.underlying3 sizeInt x7) (part_int 3 Y 7 _ .i64 Tryd.underlying3 sizeInt y7) Tryd.underlying3]
  rw [eqF_strs (P := Tryd.prog) (W := W) d X Y { name := "Body", type := 9, offset := 8, embedded := false, tag := "", pkgPath := "", byteOffset := 64 } _ x.body y.body (by simp) (part_str 9 X 8 _ Tryd.underlying9 sizeStr x8) (part_str 9 Y 8 _ Tryd.underlying9 sizeStr y8) Tryd.underlying9]
  rw [eqF_nil]
  clear x0 y0 x1 y1 x2 y2 x3 y3 x4 y4 x5 y5 x6 y6 x7 y7 x8 y8
  obtain ⟨a1, a2, a3, a4, a5, a6, a7, a8, a9⟩ := x
  obtain ⟨b1, b2, b3, b4, b5, b6, b7, b8, b9⟩ := y
  simp only [En.mk.injEq] at hb
  simp only
  by_cases h : b = true
  · obtain ⟨rfl, rfl, rfl, rfl, rfl, rfl, rfl, rfl, rfl⟩ := hb.1 h
    subst h
    simp
  · have hn := fun q => h (hb.2 q)
    rw [Bool.eq_false_iff.2 h]
    clear hb h
    by_cases c0 : a1 = b1
    case neg => simp [c0]
    by_cases c1 : a2 = b2
    case neg => simp [c1]
    by_cases c2 : a3 = b3
    case neg => simp [c2]
    by_cases c3 : (a4 : Int) = (b4 : Int)
    case neg => simp [c3]
    by_cases c4 : a5 = b5
    case neg => simp [c4]
    by_cases c5 : a6 = b6
    case neg => simp [c5]
    by_cases c6 : a7 = b7
    case neg => simp [c6]
    by_cases c7 : a8 = b8
    case neg => simp [c7]
    by_cases c8 : a9 = b9
    case neg => simp [c8]
    exact absurd ⟨c0, c1, c2, by omega, c4, c5, c6, c7, c8⟩ hn
theorem eqF_agg {P : Program} {W : World} (d : Nat) (xs ys : Array Value) (f : Field) (fs : List Field) (X Y : Array Value) (b : Bool) (hn : f.name ≠ "_") (hx : (part f.type xs f.offset).run P W = .ok (.agg X) W) (hy : (part f.type ys f.offset).run P W = .ok (.agg Y) W)
    (hE : (Op.equalIn (d + 1) f.type (.agg X) (.agg Y)).run P W = .ok b W) : (Op.eqFields (d + 1) xs ys (f :: fs)).run P W = if b = true then (Op.eqFields (d + 1) xs ys fs).run P W else .ok false W := by
  simp only [Op.eqFields, if_pos hn, Sem.run_bind, hx, hy, Result.andThen_ok, hE]
  cases b <;> simp
theorem part_stub (x : It) (W : World) : (part 42 x.cells 1).run Tryd.prog W = .ok (.agg x.stub.cells) W := by kernel_rfl
theorem part_entry (x : It) (W : World) : (part 28 x.cells 6).run Tryd.prog W = .ok (.agg x.entry.cells) W := by kernel_rfl
theorem part_kind (x : It) (W : World) : (part 3 x.cells 0).run Tryd.prog W = .ok (.int .i64 x.kind) W := by kernel_rfl
theorem eqIt (d : Nat) (x y : It) (W : World) (b : Bool) (h : (b = true ∧ x = y) ∨ (b = false ∧ x.kind ≠ y.kind)) : (Op.equalIn (d + 4) 44 (.agg x.cells) (.agg y.cells)).run Tryd.prog W = .ok b W := by
  rw [run_equalIn_struct W (d + 3) 44 x.cells y.cells (by kernel_rfl) (by kernel_rfl), itemFields]
  rw [eqF_int (P := Tryd.prog) (W := W) (d + 2) x.cells y.cells { name := "Kind", type := 3, offset := 0, embedded := false, tag := "", pkgPath := "", byteOffset := 0 } _ .i64 x.kind y.kind (by simp) (part_kind x W) (part_kind y W) Tryd.underlying3]
  rcases h with ⟨rfl, rfl⟩ | ⟨rfl, h⟩
  · rw [if_pos rfl]
    rw [eqF_agg (P := Tryd.prog) (W := W) (d + 2) x.cells x.cells { name := "Stub", type := 42, offset := 1, embedded := false, tag := "", pkgPath := "", byteOffset := 8 } _ x.stub.cells x.stub.cells (decide (x.stub = x.stub)) (by simp) (part_stub x W) (part_stub x W) (eqSt (d + 1) x.stub x.stub W)]
    rw [if_pos (by simp)]
    rw [eqF_agg (P := Tryd.prog) (W := W) (d + 2) x.cells x.cells { name := "Entry", type := 28, offset := 6, embedded := false, tag := "", pkgPath := "", byteOffset := 48 } _ x.entry.cells x.entry.cells true (by simp) (part_entry x W) (part_entry x W) (eqEn2 (d + 1) x.entry x.entry true (by simp) W)]
    rw [if_pos rfl, eqF_nil]
  · rw [if_neg h]
theorem wpl_run {P : Program} {ops : Array Oper} {rest : List Oper} {o : Oper} {a : Act} {w : World} {Q : Exit → Act → World → Prop} (hw : Region.wanted o (yielded ops a.tmps) = true) (v : Value) (hrun : ∀ w, (execOp a.eval o).run P w = .ok (.value v) w)
    (h : wpList P ops Q rest (a.put o.dst v) w) : wpList P ops Q (o :: rest) a w := by
  refine BigFrame.wpList_want hw fun K hK => ?_
  unfold Oper.wp
  rw [hrun, Oper.upon_value]
  exact hK _ _ h
theorem egSt : Tryd.prog.eqGuardType Tryd.prog.depth 42 = false := by kernel_rfl
theorem egIt : Tryd.prog.eqGuardType Tryd.prog.depth 44 = false := by kernel_rfl
theorem wpl_load_midw {P : Program} {ops : Array Oper} {rest : List Oper} {o : Oper} {a : Act} {w : World} {Q : Exit → Act → World → Prop} (hw : Region.wanted o (yielded ops a.tmps) = true) (ty : TypeId) (x : Operand) (ho : o.op = .load ty x)
    (b k : Nat) (hx : a.eval x = .pointer (some ⟨b, k, none⟩)) (cs : List Value) (d : TypeDesc) (hc : w.rangeAt b k cs)
    (hu : P.underlying ty = some d) (hd : d.isRow = true) (hi : (P.info? ty).map (·.size) = some cs.length)
    (h : wpList P ops Q rest (a.put o.dst (.agg cs.toArray)) w) : wpList P ops Q (o :: rest) a w :=
  BigFrame.wpList_want hw fun _ hK => wp_load_mid ty x ho b k hx cs d hc hu hd hi (hK _ _ h)
theorem item_entry {W : World} {g : Nat} (x : It) (h : Row W g 44 x.cells.toList) : W.rangeAt g 6 x.entry.cells.toList := fun j v hv => by
  rw [h.cell]
  have e : x.cells.toList = [.int .i64 x.kind, .int .i64 x.stub.opn, .int .i64 x.stub.view, .int .i64 x.stub.under, .int .u64 (x.stub.parent : Int), .int .u64 (x.stub.sum : Int)] ++ x.entry.cells.toList := rfl
  rw [e, List.getElem?_append_right (by simp)]
  simpa using hv
section
variable {ops : Array Oper} {rest : List Oper} {o : Oper} {a : Act} {w : World} {Q : Exit → Act → World → Prop}
theorem wpl_eqs (hw : Region.wanted o (yielded ops a.tmps) = true) (s t : St) (b : Bool) (x y : Operand) (ty : TypeId) (ho : o.op = .binOp .eql 42 x y ty)
    (hx : a.eval x = .agg s.cells) (hy : a.eval y = .agg t.cells) (hb : Hid (decide (s = t) = b)) (h : wpList Tryd.prog ops Q rest (a.put o.dst (.bool b)) w) : wpList Tryd.prog ops Q (o :: rest) a w := by
  refine BigFrame.wpList_want hw fun K hK => ?_
  have hEQ := hb.out ▸ eqSt 9998 s t w
  have hEG := egSt
  generalize s.cells = Z at *
  generalize t.cells = Y at *
  unfold Oper.wp execOp
  simp [ho, hx, hy, eqGuard, hEG, binOp, Op.equal, Op.maxDepth, hEQ, Result.andThen]
  exact hK _ _ h
theorem wpl_eqe2 (hw : Region.wanted o (yielded ops a.tmps) = true) (s t : En) (b : Bool) (x y : Operand) (ty : TypeId) (ho : o.op = .binOp .eql 28 x y ty)
    (hx : a.eval x = .agg s.cells) (hy : a.eval y = .agg t.cells) (hb : Hid (b = true ↔ s = t)) (h : wpList Tryd.prog ops Q rest (a.put o.dst (.bool b)) w) : wpList Tryd.prog ops Q (o :: rest) a w := by
  refine BigFrame.wpList_want hw fun K hK => ?_
  have hEQ := eqEn2 9998 s t b hb.out w
  have hEG := egEn
  generalize s.cells = Z at *
  generalize t.cells = Y at *
  unfold Oper.wp execOp
  simp [ho, hx, hy, eqGuard, hEG, binOp, Op.equal, Op.maxDepth, hEQ, Result.andThen]
  exact hK _ _ h
theorem wpl_nee2 (hw : Region.wanted o (yielded ops a.tmps) = true) (s t : En) (b : Bool) (x y : Operand) (ty : TypeId) (ho : o.op = .binOp .neq 28 x y ty)
    (hx : a.eval x = .agg s.cells) (hy : a.eval y = .agg t.cells) (hb : Hid (b = true ↔ s = t)) (h : wpList Tryd.prog ops Q rest (a.put o.dst (.bool (!b))) w) : wpList Tryd.prog ops Q (o :: rest) a w := by
  refine BigFrame.wpList_want hw fun K hK => ?_
  have hEQ := eqEn2 9998 s t b hb.out w
  have hEG := egEn
  generalize s.cells = Z at *
  generalize t.cells = Y at *
  unfold Oper.wp execOp
  simp [ho, hx, hy, eqGuard, hEG, binOp, Op.equal, Op.maxDepth, hEQ, Result.andThen]
  exact hK _ _ h
theorem wpl_eqi (hw : Region.wanted o (yielded ops a.tmps) = true) (s t : It) (b : Bool) (x y : Operand) (ty : TypeId) (ho : o.op = .binOp .eql 44 x y ty)
    (hx : a.eval x = .agg s.cells) (hy : a.eval y = .agg t.cells) (hb : Hid ((b = true ∧ s = t) ∨ (b = false ∧ s.kind ≠ t.kind))) (h : wpList Tryd.prog ops Q rest (a.put o.dst (.bool b)) w) : wpList Tryd.prog ops Q (o :: rest) a w := by
  refine BigFrame.wpList_want hw fun K hK => ?_
  have hEQ := eqIt 9996 s t w b hb.out
  have hEG := egIt
  generalize s.cells = Z at *
  generalize t.cells = Y at *
  unfold Oper.wp execOp
  simp [ho, hx, hy, eqGuard, hEG, binOp, Op.equal, Op.maxDepth, hEQ, Result.andThen]
  exact hK _ _ h
end
theorem yields_nes {ops : Array Oper} {S : World → Prop} {o : Oper} {a : Act} (hw : Region.wanted o (yielded ops a.tmps) = true) (s t : St) (b : Bool) (hb : Hid (decide (s = t) = b)) (x y : Operand) (ty : TypeId) (ho : o.op = .binOp .neq 42 x y ty)
    (hx : a.eval x = .agg s.cells) (hy : a.eval y = .agg t.cells) : YieldsIf Tryd.prog ops S o (.bool (!b)) a :=
  .inl ⟨hw, fun w _ => by
    have hEG := egSt
    have hE := eqSt 9998 s t w
    rw [hb.out] at hE
    generalize s.cells = Z at *
    generalize t.cells = Y at *
    unfold execOp
    simp [ho, hx, hy, eqGuard, hEG, binOp, Op.equal, Op.maxDepth, hE, Result.andThen]⟩
end Go.Proofs.YtafbeepacncooaaDoor
