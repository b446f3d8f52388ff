/-
  Plain words on entries: packed and read again, turned; the walk of EntryTurns.
-/
import Derived.Test.YteahbalcielhpaaDoorM09
import Derived.Test.YteahbalcielhpaaDoorM07
import Derived.Test.YteahbalcielhpaaDoorM02
import Derived.Test.YteahbalcielhpaaDoorM05
import Derived.Test.YteahbalcielhpaaDoorM03
namespace Go.Proofs.YteahbalcielhpaaDoor
open Go.RowKit
set_option maxRecDepth 10000

theorem packE_ok {e : En} {s : List UInt8} (h : packE e = (s, 0)) : Rt e ∧ packS (hof e) (sb e.body) = (s, 0) := by
  unfold packE at h
  by_cases h1 : Rt e
  · rw [if_pos h1] at h
    exact ⟨h1, h⟩
  · rw [if_neg h1] at h
    simp at h
theorem packE_len {e : En} {s : List UInt8} (h : packE e = (s, 0)) : s.length = 128 + e.body.size ∧ (e.body.size : Int) ≤ 200 := by
  obtain ⟨h1, h2⟩ := packE_ok h
  obtain ⟨_, _, h3⟩ := packS_ok h2
  rw [h3, List.length_append, headB_len, sb_len]
  exact ⟨rfl, h1.2.2.2.2.2.2.2.2⟩
end Go.Proofs.YteahbalcielhpaaDoor
/-
  The walks of MarkOf, package entry's and the document's.
-/
namespace Go.Proofs.YteahbalcielhpaaDoor
open Go.RowKit
set_option maxRecDepth 10000

/-- what MarkOf answers -/
def markE (e : En) : Mk := if (packE e).2 = 0 then ⟨e.opn, e.view, (chainOf (BitVec.ofNat 64 e.parent) (packE e).1).toNat⟩ else mk0
theorem wp_store_st {P : Program} {o : Oper} {a : Act} {w : World} {K : Act → World → Prop} {Q : Exit → Act → World → Prop} {T : TypeId} (x y : Operand) (ho : o.op = .store T x y) {n : Nat} (hn : (P.info? T).map (·.size) = some n)
    (g : Nat) (cs0 cs : Array Value) (hx : a.eval x = .pointer (some ⟨g, 0, none⟩)) (hy : a.eval y = .agg cs) (hrow : Row w g T cs0.toList) (h0 : cs0.size = n) (h1 : cs.size = n) (hone : cs.all (·.oneCell') = true)
    (hK : ∀ w', Row w' g T cs.toList → w.grownBy w' (some g) → K (a.put o.dst undef) w') : o.wp P a w K Q :=
  wp_store_row T x y ho g cs hx hy T cs0 hrow.arr (by rw [hn, h1]) (by simp [h0, h1]) (by simpa using hone)
    (hK _ (by
      have := setRow_heap w g cs0 cs T (0, 0) hrow.arr
      simpa [Row] using this) (grownBy_setRow w g _))
set_option maxHeartbeats 1000000 in
theorem emark_no (view opn under : Int) (parent : Nat) (client session request oper : Int) (body : ByteArray) (T : ByteArray) (f : Int) (w : World) (hf : Fd w) (h0 : (f != 0) = true)
    (HP : Hid (∀ W : World, Fd W → Calls Tryd.prog 23 #[.agg #[.int .i64 view, .int .i64 opn, .int .i64 under, .int .u64 (parent : Int), .int .i64 client, .int .i64 session, .int .i64 request, .int .i64 oper, .string body]] W fun x W' => x = .returned (.tuple #[.string T, .int .i64 f]) ∧ Below W.heap.size W W')) :
    Calls Tryd.prog 11 #[.agg #[.int .i64 view, .int .i64 opn, .int .i64 under, .int .u64 (parent : Int), .int .i64 client, .int .i64 session, .int .i64 request, .int .i64 oper, .string body]] w (VE w (.agg #[.int .i64 0, .int .i64 0, .int .u64 0])) := by
  have HZ := hid esize
  have HZM := hid msize
  have HB0 : Hid (Below w.heap.size w ((w.alloc (.cells #[.int .i64 view, .int .i64 opn, .int .i64 under, .int .u64 (parent : Int), .int .i64 client, .int .i64 session, .int .i64 request, .int .i64 oper, .string body] 30)).alloc (.cells #[.int .i64 0, .int .i64 0, .int .u64 0] 27))) := hid (((Below.refl w.heap.size w).alloc (Nat.le_refl _) _).alloc (by simp) _)
  have HE0 : Hid (Row ((w.alloc (.cells #[.int .i64 view, .int .i64 opn, .int .i64 under, .int .u64 (parent : Int), .int .i64 client, .int .i64 session, .int .i64 request, .int .i64 oper, .string body] 30)).alloc (.cells #[.int .i64 0, .int .i64 0, .int .u64 0] 27)) w.heap.size 30 (#[.int .i64 view, .int .i64 opn, .int .i64 under, .int .u64 (parent : Int), .int .i64 client, .int .i64 session, .int .i64 request, .int .i64 oper, .string body] : Array Value).toList) := hid ((Row.new _ _ _).alloc _)
  have HM0 : Hid (Row ((w.alloc (.cells #[.int .i64 view, .int .i64 opn, .int .i64 under, .int .u64 (parent : Int), .int .i64 client, .int .i64 session, .int .i64 request, .int .i64 oper, .string body] 30)).alloc (.cells #[.int .i64 0, .int .i64 0, .int .u64 0] 27)) (w.heap.size + 1) 27 (#[.int .i64 0, .int .i64 0, .int .u64 0] : Array Value).toList) := hid (by
    have := Row.new (w.alloc (.cells #[.int .i64 view, .int .i64 opn, .int .i64 under, .int .u64 (parent : Int), .int .i64 client, .int .i64 session, .int .i64 request, .int .i64 oper, .string body] 30)) 27 #[.int .i64 0, .int .i64 0, .int .u64 0]
    simpa using this)
  have HF := hid hf
  clear hf
  go_enter Tryd.func11, Tryd.ntmps11
  go_wp2_with (first
    | (go_at_call 23; refine (HP.out _ (HF.out.below HB0.out HF.out.1)).mono ?_; rintro e w1 ⟨rfl, hb1⟩; have hbb := HB0.out.trans (hb1.mono HB0.out.size); have he := HE0.out.below hb1 HE0.out.lt; have hm := HM0.out.below hb1 HM0.out.lt; clear hb1)
    | (refine wpl_store_st rfl (.tmp 2) (.tmp 12) rfl HZM.out (w.heap.size + 1) #[.int .i64 0, .int .i64 0, .int .u64 0] #[.int .i64 0, .int .i64 0, .int .u64 0] rfl rfl hm ?_ (hid rfl) (hid rfl) (hid (by simp [Value.oneCell'])); intro wz hrz hgz; have HBZ := hid (hbb.trans (below_grown hgz (by omega) hbb.size)); clear hgz))
  refine bodyPost_ret (v := .agg #[.int .i64 0, .int .i64 0, .int .u64 0])
    (results_cell_row rfl _ _ (w.heap.size + 1) 27 _ (0, 0) _ rfl (Row.arr (cs := #[.int .i64 0, .int .i64 0, .int .u64 0]) hrz) Tryd.underlying27 rfl HZM.out) rfl ⟨rfl, HBZ.out⟩
set_option maxHeartbeats 2000000 in
theorem emark_yes (view opn under : Int) (parent : Nat) (client session request oper : Int) (body : ByteArray) (T : ByteArray) (q : Nat) (w : World) (hf : Fd w)
    (HP : Hid (∀ W : World, Fd W → Calls Tryd.prog 23 #[.agg #[.int .i64 view, .int .i64 opn, .int .i64 under, .int .u64 (parent : Int), .int .i64 client, .int .i64 session, .int .i64 request, .int .i64 oper, .string body]] W fun x W' => x = .returned (.tuple #[.string T, .int .i64 0]) ∧ Below W.heap.size W W'))
    (HC : Hid (∀ W : World, Calls Tryd.prog 24 #[.int .u64 (parent : Int), .string T] W fun e w' => e = .returned (.int .u64 (q : Int)) ∧ Below W.heap.size W w')) :
    Calls Tryd.prog 11 #[.agg #[.int .i64 view, .int .i64 opn, .int .i64 under, .int .u64 (parent : Int), .int .i64 client, .int .i64 session, .int .i64 request, .int .i64 oper, .string body]] w (VE w (.agg #[.int .i64 opn, .int .i64 view, .int .u64 (q : Int)])) := by
  have HZ := hid esize
  have HZM := hid msize
  have HB0 : Hid (Below w.heap.size w ((w.alloc (.cells #[.int .i64 view, .int .i64 opn, .int .i64 under, .int .u64 (parent : Int), .int .i64 client, .int .i64 session, .int .i64 request, .int .i64 oper, .string body] 30)).alloc (.cells #[.int .i64 0, .int .i64 0, .int .u64 0] 27))) := hid (((Below.refl w.heap.size w).alloc (Nat.le_refl _) _).alloc (by simp) _)
  have HE0 : Hid (Row ((w.alloc (.cells #[.int .i64 view, .int .i64 opn, .int .i64 under, .int .u64 (parent : Int), .int .i64 client, .int .i64 session, .int .i64 request, .int .i64 oper, .string body] 30)).alloc (.cells #[.int .i64 0, .int .i64 0, .int .u64 0] 27)) w.heap.size 30 (#[.int .i64 view, .int .i64 opn, .int .i64 under, .int .u64 (parent : Int), .int .i64 client, .int .i64 session, .int .i64 request, .int .i64 oper, .string body] : Array Value).toList) := hid ((Row.new _ _ _).alloc _)
  have HM0 : Hid (Row ((w.alloc (.cells #[.int .i64 view, .int .i64 opn, .int .i64 under, .int .u64 (parent : Int), .int .i64 client, .int .i64 session, .int .i64 request, .int .i64 oper, .string body] 30)).alloc (.cells #[.int .i64 0, .int .i64 0, .int .u64 0] 27)) (w.heap.size + 1) 27 (#[.int .i64 0, .int .i64 0, .int .u64 0] : Array Value).toList) := hid (by
    have := Row.new (w.alloc (.cells #[.int .i64 view, .int .i64 opn, .int .i64 under, .int .u64 (parent : Int), .int .i64 client, .int .i64 session, .int .i64 request, .int .i64 oper, .string body] 30)) 27 #[.int .i64 0, .int .i64 0, .int .u64 0]
    simpa using this)
  have HF := hid hf
  clear hf
  go_enter Tryd.func11, Tryd.ntmps11
  go_wp2_with (go_at_call 23; refine (HP.out _ (HF.out.below HB0.out HF.out.1)).mono ?_; rintro e w1 ⟨rfl, hb1⟩; have hbb := HB0.out.trans (hb1.mono HB0.out.size); have he := HE0.out.below hb1 HE0.out.lt; have hm := HM0.out.below hb1 HM0.out.lt; clear hb1)
  try simp only [Act.put]
  have HBB := hid hbb
  have HEB := hid he
  have HMB := hid hm
  clear hbb he hm
  refine wp_region_held_drew (S := fun W => Below w.heap.size w W ∧ Row W w.heap.size 30 (#[.int .i64 view, .int .i64 opn, .int .i64 under, .int .u64 (parent : Int), .int .i64 client, .int .i64 session, .int .i64 request, .int .i64 oper, .string body] : Array Value).toList ∧ ∃ z : Array Value, z.size = 3 ∧ Row W (w.heap.size + 1) 27 z.toList) (by kernel_rfl) ⟨HBB.out.drew, HEB.out, #[.int .i64 0, .int .i64 0, .int .u64 0], rfl, HMB.out⟩ (fun hH => ?_)
  refine wpAnyH_take (i := 0) (v := .pointer (some ⟨w.heap.size, 1, none⟩)) rfl (by kernel_rfl) (by kernel_rfl) (by kernel_rfl) (fun _ _ _ h => h) (Or.inl ⟨by rfl, fun w' hw' => by clear hw'; go_simp⟩) hH ?_
  simp only [Act.put]
  refine wpAnyH_take (i := 1) (v := .int .i64 opn) rfl (by kernel_rfl) (by kernel_rfl) (by kernel_rfl) (fun _ _ _ h => h) (Or.inl ⟨by rfl, fun w' hw' => by have h := hw'.2.1.at_ 1 _ rfl; clear hw'; go_simp⟩) hH ?_
  simp only [Act.put]
  refine wpAnyH_take (i := 2) (v := .pointer (some ⟨w.heap.size, 0, none⟩)) rfl (by kernel_rfl) (by kernel_rfl) (by kernel_rfl) (fun _ _ _ h => h) (Or.inl ⟨by rfl, fun w' hw' => by clear hw'; go_simp⟩) hH ?_
  simp only [Act.put]
  refine wpAnyH_take (i := 3) (v := .int .i64 view) rfl (by kernel_rfl) (by kernel_rfl) (by kernel_rfl) (fun _ _ _ h => h) (Or.inl ⟨by rfl, fun w' hw' => by have h := hw'.2.1.at_ 0 _ rfl; clear hw'; go_simp⟩) hH ?_
  simp only [Act.put]
  refine wpAnyH_take (i := 4) (v := .pointer (some ⟨w.heap.size, 3, none⟩)) rfl (by kernel_rfl) (by kernel_rfl) (by kernel_rfl) (fun _ _ _ h => h) (Or.inl ⟨by rfl, fun w' hw' => by clear hw'; go_simp⟩) hH ?_
  simp only [Act.put]
  refine wpAnyH_take (i := 5) (v := .int .u64 (parent : Int)) rfl (by kernel_rfl) (by kernel_rfl) (by kernel_rfl) (fun _ _ _ h => h) (Or.inl ⟨by rfl, fun w' hw' => by have h := hw'.2.1.at_ 3 _ rfl; clear hw'; go_simp⟩) hH ?_
  simp only [Act.put]
  refine wpAnyH_take (i := 6) (v := .string T) rfl (by kernel_rfl) (by kernel_rfl) (by kernel_rfl) (fun _ _ _ h => h) (Or.inl ⟨by rfl, fun w' hw' => by clear hw'; go_simp⟩) hH ?_
  simp only [Act.put]
  refine wpAnyH_ready (rs := [7]) (by kernel_rfl) (by simp) ?_
  refine AllReadyH.cons rfl (fun K hK => ?_) AllReadyH.nil
  go_simp
  go_at_call 24
  refine (HC.out _).mono ?_
  rintro e w2 ⟨rfl, hb2⟩
  go_wp2_with fail
  refine hK.out _ _ (⟨hH.1.trans (Below.mono hb2 hH.1.size), Row.below hH.2.1 hb2 hH.2.1.lt, hH.2.2.elim fun z h => ⟨z, h.1, Row.below h.2 hb2 h.2.lt⟩⟩) (fun hH => ?_)
  clear hK K
  try simp only [Act.put]
  refine wpAnyH_take (i := 8) (v := .agg #[.int .i64 opn, .int .i64 view, .int .u64 (q : Int)]) rfl (by kernel_rfl) (by kernel_rfl) (by kernel_rfl) (fun _ _ _ h => h) (Or.inl ⟨by rfl, fun w' hw' => by clear hw'; go_simp⟩) hH ?_
  simp only [Act.put]
  refine wpAnyH_ready (rs := [9]) (by kernel_rfl) (by simp) ?_
  refine AllReadyH.cons rfl (fun K hK => ?_) AllReadyH.nil
  obtain ⟨hb8, he8, z, hz8, hm8⟩ := hH
  rw [if_pos (by kernel_rfl)]
  refine wp_store_st (.tmp 2) (.tmp 21) rfl HZM.out (w.heap.size + 1) z #[.int .i64 opn, .int .i64 view, .int .u64 (q : Int)] rfl rfl hm8 hz8 rfl (by simp [Value.oneCell']) (fun w9 hr9 hg9 => ?_)
  have hb9 : Below w.heap.size w w9 := hb8.trans (below_grown hg9 (by omega) hb8.size)
  refine hK.out _ _ ⟨hb9, he8.grown hg9 (by intro e; have := Option.some.inj e; omega), _, rfl, hr9⟩ (fun hH => ?_)
  clear hK K
  try simp only [Act.put]
  refine wpAnyH_done (by kernel_rfl) ?_ _
  try simp only [Act.put]
  go_wp2_with fail
  refine bodyPost_ret (v := .agg #[.int .i64 opn, .int .i64 view, .int .u64 (q : Int)])
    (results_cell_row rfl _ _ (w.heap.size + 1) 27 _ (0, 0) _ rfl (Row.arr (cs := #[.int .i64 opn, .int .i64 view, .int .u64 (q : Int)]) hr9) Tryd.underlying27 rfl HZM.out) rfl ⟨rfl, hb9⟩
theorem emark_any (e : En) (he : e.fits) (w : World) (hf : Fd w) : Calls Tryd.prog 11 #[e.val] w (VE w (markE e).val) := by
  have HP := hid (fun W hW => epack_any e W hW)
  unfold markE
  have hp : (BitVec.ofNat 64 e.parent).toNat = e.parent := by
    rw [BitVec.toNat_ofNat]
    exact Nat.mod_eq_of_lt he.2.2
  by_cases h0 : (packE e).2 = 0
  · rw [if_pos h0]
    have hl := packE_len (e := e) (s := (packE e).1) (by rw [← h0])
    have HC := hid (fun W => chain_calls (BitVec.ofNat 64 e.parent) ⟨(packE e).1.toArray⟩ W (by rw [← sb_len, sb_mk]; omega))
    rw [hp, sb_mk] at HC
    generalize (chainOf (BitVec.ofNat 64 e.parent) (packE e).1).toNat = q at *
    clear hl
    generalize packE e = r at *
    obtain ⟨rl, rf⟩ := r
    simp only at h0
    subst h0
    obtain ⟨view, opn, under, parent, client, session, request, oper, body⟩ := e
    exact emark_yes view opn under parent client session request oper body ⟨rl.toArray⟩ q w hf HP HC
  · rw [if_neg h0]
    generalize packE e = r at *
    obtain ⟨view, opn, under, parent, client, session, request, oper, body⟩ := e
    exact emark_no view opn under parent client session request oper body ⟨r.1.toArray⟩ r.2 w hf (by simpa using h0) HP
end Go.Proofs.YteahbalcielhpaaDoor
/-
  Plain words on slots: stubs, their numbers, their bytes; what a sector has; what two sectors say together.
-/
namespace Go.Proofs.YteahbalcielhpaaDoor
open Go.RowKit
set_option maxRecDepth 10000

/-- a stub -/
structure St where
  opn : Int
  view : Int
  under : Int
  parent : Nat
  sum : Nat
deriving DecidableEq
def St.cells (s : St) : Array Value := #[.int .i64 s.opn, .int .i64 s.view, .int .i64 s.under, .int .u64 (s.parent : Int), .int .u64 (s.sum : Int)]
def St.val (s : St) : Value := .agg s.cells
def st0 : St := ⟨0, 0, 0, 0, 0⟩
abbrev U64 (n : Nat) : Prop := n < 18446744073709551616
/-- of the machine's -/
def St.fits (s : St) : Prop := (In64 s.opn ∧ In64 s.view ∧ In64 s.under) ∧ U64 s.parent ∧ U64 s.sum
theorem st0_fits : st0.fits := by unfold St.fits st0 In64 U64; simp
/-- its numbers -/
def St.nums (s : St) : List Nat := [un s.opn, un s.view, un s.under, s.parent, s.sum]
theorem snums_len (s : St) : s.nums.length = 5 := rfl
theorem snums_lt (s : St) (h : s.fits) : ∀ n ∈ s.nums, n < 18446744073709551616 := by
  obtain ⟨-, a0, a1⟩ := h
  intro n hn
  simp only [St.nums, List.mem_cons, List.not_mem_nil, or_false] at hn
  rcases hn with rfl | rfl | rfl | rfl | rfl <;> first | exact un_lt _ | assumption
/-- the bytes of numbers -/
def nb : List Nat → List UInt8
  | [] => []
  | n :: r => le n 8 ++ nb r
theorem nb_len : ∀ l, (nb l).length = 8 * l.length
  | [] => rfl
  | n :: r => by simp [nb, le_len, nb_len r]; omega
theorem nb_app : ∀ a b, nb (a ++ b) = nb a ++ nb b
  | [], b => rfl
  | n :: r, b => by simp [nb, nb_app r b]
/-- its bytes -/
def St.bytes (s : St) : List UInt8 := nb s.nums
theorem sbytes_len (s : St) : s.bytes.length = 40 := by rw [St.bytes, nb_len, snums_len]
/-- may it be? -/
def SRt (s : St) : Prop := (1 ≤ s.opn ∧ s.opn ≤ 72057594037927935) ∧ 0 ≤ s.under ∧ s.under ≤ s.view ∧ s.view ≤ 72057594037927935
instance (s : St) : Decidable (SRt s) := by unfold SRt; infer_instance
/-- what packStub answers -/
def packT (s : St) : List UInt8 × Int := if SRt s then (s.bytes, 0) else ([], 4)
theorem packE_rt {e : En} (he : e.fits) (h : Rt e) : (packE e).2 = 0 ∧ (packE e).1.length = 128 + e.body.size ∧ e.body.size ≤ 200 := by
  have h1 := packS_rt he h
  have h2 : packE e = packS (hof e) (sb e.body) := if_pos h
  have h3 : (e.body.size : Int) ≤ 200 := h.2.2.2.2.2.2.2.2
  have h4 := packS_yes (body := sb e.body) h1.1 (by rw [sb_len]; omega)
  have h5 : packE e = ((packE e).1, 0) := by rw [h2, h4]
  exact ⟨by rw [h5], (packE_len h5).1, by omega⟩
/-- an entry's stub -/
def stubS (e : En) : St := if Rt e then ⟨e.opn, e.view, e.under, e.parent, (markE e).sum⟩ else st0
theorem markE_sum (e : En) : U64 (markE e).sum := by
  unfold markE
  split
  · exact (chainOf _ _).isLt
  · show 0 < _
    decide
theorem stubS_fits {e : En} (he : e.fits) : (stubS e).fits := by
  unfold stubS
  split
  · exact ⟨⟨he.1.2.1, he.1.1, he.1.2.2.1⟩, he.2.2, markE_sum e⟩
  · exact st0_fits
theorem stubS_rt {e : En} (h : Rt e) : stubS e = ⟨e.opn, e.view, e.under, e.parent, (markE e).sum⟩ := if_pos h
def hdrS (old : List UInt8) (s : St) : List UInt8 × Int := if SRt s then sealS old s.bytes else ([], 4)
/-- a slot's -/
structure It where
  kind : Int
  stub : St
  entry : En
def It.cells (i : It) : Array Value := #[.int .i64 i.kind, .int .i64 i.stub.opn, .int .i64 i.stub.view, .int .i64 i.stub.under, .int .u64 (i.stub.parent : Int), .int .u64 (i.stub.sum : Int), .int .i64 i.entry.view, .int .i64 i.entry.opn, .int .i64 i.entry.under, .int .u64 (i.entry.parent : Int), .int .i64 i.entry.client, .int .i64 i.entry.session, .int .i64 i.entry.request, .int .i64 i.entry.oper, .string i.entry.body]
def It.val (i : It) : Value := .agg i.cells
def it0 : It := ⟨0, st0, en0⟩
end Go.Proofs.YteahbalcielhpaaDoor
/-
  The walks of package slot's right, numbers, stubOf.
-/
namespace Go.Proofs.YteahbalcielhpaaDoor
open Go.RowKit
set_option maxRecDepth 10000

theorem srt_bool (s : St) : decide (SRt s) = (decide (1 ≤ s.opn) && decide (s.opn ≤ 72057594037927935) && decide (0 ≤ s.under) && decide (s.under ≤ s.view) && decide (s.view ≤ 72057594037927935)) := by
  rw [Bool.eq_iff_iff, decide_eq_true_iff]
  unfold SRt
  simp only [Bool.and_eq_true, decide_eq_true_eq]
  constructor
  · rintro ⟨⟨h1, h2⟩, h3, h4, h5⟩
    exact ⟨⟨⟨⟨h1, h2⟩, h3⟩, h4⟩, h5⟩
  · rintro ⟨⟨⟨⟨h1, h2⟩, h3⟩, h4⟩, h5⟩
    exact ⟨⟨h1, h2⟩, h3, h4, h5⟩
set_option maxHeartbeats 2000000 in
theorem sright_any (s : St) (w : World) : Calls Tryd.prog 75 #[s.val] w (VE w (.bool (decide (SRt s)))) := by
  rw [srt_bool]
  obtain ⟨opn, view, under, parent, sum⟩ := s
  show Calls Tryd.prog 75 #[.agg #[.int .i64 opn, .int .i64 view, .int .i64 under, .int .u64 (parent : Int), .int .u64 (sum : Int)]] w (VE w (.bool (decide (1 ≤ opn) && decide (opn ≤ 72057594037927935) && decide (0 ≤ under) && decide (under ≤ view) && decide (view ≤ 72057594037927935))))
  generalize hb1 : decide (1 ≤ opn) = b1
  generalize hb2 : decide (opn ≤ 72057594037927935) = b2
  generalize hb3 : decide (0 ≤ under) = b3
  generalize hb4 : decide (under ≤ view) = b4
  generalize hb5 : decide (view ≤ 72057594037927935) = b5
  cases b1 <;> (try cases b2) <;> (try cases b3) <;> (try cases b4) <;> (
    go_enter Tryd.func75, Tryd.ntmps75
    go_wp2_with fail
    go_ret
    refine ⟨by first | rfl | simp [*] | (simp_all; done), (Below.refl _ _).alloc (Nat.le_refl _) _⟩)
theorem stsize : (Tryd.prog.info? 49).map (·.size) = some 5 := by kernel_rfl
set_option maxHeartbeats 1000000 in
theorem snumbers_any (s : St) (w : World) : Calls Tryd.prog 76 #[s.val] w (VE w (.agg (av s.nums).toArray)) := by
  obtain ⟨opn, view, under, parent, sum⟩ := s
  show Calls Tryd.prog 76 #[.agg #[.int .i64 opn, .int .i64 view, .int .i64 under, .int .u64 (parent : Int), .int .u64 (sum : Int)]] w (VE w (.agg #[.int .u64 ((un opn : Nat) : Int), .int .u64 ((un view : Nat) : Int), .int .u64 ((un under : Nat) : Int), .int .u64 (parent : Int), .int .u64 (sum : Int)]))
  simp only [← un_wrap]
  go_enter Tryd.func76, Tryd.ntmps76
  go_wp2_with fail
  exact bodyPost_ret (results_cell_row rfl _ _ (w.heap.size + 1) 120 _ (0, 0) _ rfl (alloc2_new _ _ _) Tryd.underlying120 rfl (by kernel_rfl)) rfl ⟨rfl, ((Below.refl _ _).alloc (Nat.le_refl _) _).alloc (by simp) _⟩
end Go.Proofs.YteahbalcielhpaaDoor
/-
  The walks of StubOf, package slot's and the document's.
-/
namespace Go.Proofs.YteahbalcielhpaaDoor
open Go.RowKit
set_option maxRecDepth 10000

set_option maxHeartbeats 1000000 in
theorem sstub_no (view opn under : Int) (parent : Nat) (client session request oper : Int) (body : ByteArray) (w : World)
    (HR : Hid (∀ W : World, Calls Tryd.prog 10 #[.agg #[.int .i64 view, .int .i64 opn, .int .i64 under, .int .u64 (parent : Int), .int .i64 client, .int .i64 session, .int .i64 request, .int .i64 oper, .string body]] W (VE W (.bool false)))) :
    Calls Tryd.prog 25 #[.agg #[.int .i64 view, .int .i64 opn, .int .i64 under, .int .u64 (parent : Int), .int .i64 client, .int .i64 session, .int .i64 request, .int .i64 oper, .string body]] w (VE w (.agg #[.int .i64 0, .int .i64 0, .int .i64 0, .int .u64 0, .int .u64 0])) := by
  have HZ := hid esize
  have HZM := hid stsize
  have HB0 : Hid (Below w.heap.size w ((w.alloc (.cells #[.int .i64 view, .int .i64 opn, .int .i64 under, .int .u64 (parent : Int), .int .i64 client, .int .i64 session, .int .i64 request, .int .i64 oper, .string body] 30)).alloc (.cells #[.int .i64 0, .int .i64 0, .int .i64 0, .int .u64 0, .int .u64 0] 49))) := hid (((Below.refl w.heap.size w).alloc (Nat.le_refl _) _).alloc (by simp) _)
  have HE0 : Hid (Row ((w.alloc (.cells #[.int .i64 view, .int .i64 opn, .int .i64 under, .int .u64 (parent : Int), .int .i64 client, .int .i64 session, .int .i64 request, .int .i64 oper, .string body] 30)).alloc (.cells #[.int .i64 0, .int .i64 0, .int .i64 0, .int .u64 0, .int .u64 0] 49)) w.heap.size 30 (#[.int .i64 view, .int .i64 opn, .int .i64 under, .int .u64 (parent : Int), .int .i64 client, .int .i64 session, .int .i64 request, .int .i64 oper, .string body] : Array Value).toList) := hid ((Row.new _ _ _).alloc _)
  have HM0 : Hid (Row ((w.alloc (.cells #[.int .i64 view, .int .i64 opn, .int .i64 under, .int .u64 (parent : Int), .int .i64 client, .int .i64 session, .int .i64 request, .int .i64 oper, .string body] 30)).alloc (.cells #[.int .i64 0, .int .i64 0, .int .i64 0, .int .u64 0, .int .u64 0] 49)) (w.heap.size + 1) 49 (#[.int .i64 0, .int .i64 0, .int .i64 0, .int .u64 0, .int .u64 0] : Array Value).toList) := hid (by
    have := Row.new (w.alloc (.cells #[.int .i64 view, .int .i64 opn, .int .i64 under, .int .u64 (parent : Int), .int .i64 client, .int .i64 session, .int .i64 request, .int .i64 oper, .string body] 30)) 49 #[.int .i64 0, .int .i64 0, .int .i64 0, .int .u64 0, .int .u64 0]
    simpa using this)
  have HW0 : Hid (∃ W0, W0 = (w.alloc (.cells #[.int .i64 view, .int .i64 opn, .int .i64 under, .int .u64 (parent : Int), .int .i64 client, .int .i64 session, .int .i64 request, .int .i64 oper, .string body] 30)).alloc (.cells #[.int .i64 0, .int .i64 0, .int .i64 0, .int .u64 0, .int .u64 0] 49)) := hid ⟨_, rfl⟩
  go_enter Tryd.func25, Tryd.ntmps25
  go_wp2_with (first
    | (refine wpList_load_row rfl 30 (.tmp 1) rfl w.heap.size rfl 30 #[.int .i64 view, .int .i64 opn, .int .i64 under, .int .u64 (parent : Int), .int .i64 client, .int .i64 session, .int .i64 request, .int .i64 oper, .string body] (0, 0) _ (Row.arr (cs := #[.int .i64 view, .int .i64 opn, .int .i64 under, .int .u64 (parent : Int), .int .i64 client, .int .i64 session, .int .i64 request, .int .i64 oper, .string body]) HE0.out) Tryd.underlying30 rfl HZ.out ?_)
    | (go_at_call 10; refine (HR.out _).mono ?_; rintro e w1 ⟨rfl, hb1⟩; have hbb := HB0.out.trans (hb1.mono HB0.out.size); have he := HE0.out.below hb1 HE0.out.lt; have hm := HM0.out.below hb1 HM0.out.lt; clear hb1)
    | (refine wpl_store_st rfl (.tmp 2) (.tmp 6) rfl HZM.out (w.heap.size + 1) #[.int .i64 0, .int .i64 0, .int .i64 0, .int .u64 0, .int .u64 0] #[.int .i64 0, .int .i64 0, .int .i64 0, .int .u64 0, .int .u64 0] rfl rfl hm ?_ (hid rfl) (hid rfl) (hid (by simp [Value.oneCell'])); intro wz hrz hgz; have HBZ := hid (hbb.trans (below_grown hgz (by omega) hbb.size)); clear hgz))
  refine bodyPost_ret (v := .agg #[.int .i64 0, .int .i64 0, .int .i64 0, .int .u64 0, .int .u64 0])
    (results_cell_row rfl _ _ (w.heap.size + 1) 49 _ (0, 0) _ rfl (Row.arr (cs := #[.int .i64 0, .int .i64 0, .int .i64 0, .int .u64 0, .int .u64 0]) hrz) Tryd.underlying49 rfl HZM.out) rfl ⟨rfl, HBZ.out⟩
set_option maxHeartbeats 2000000 in
theorem sstub_yes (view opn under : Int) (parent : Nat) (client session request oper : Int) (body : ByteArray) (q : Nat) (w : World) (hf : Fd w)
    (HR : Hid (∀ W : World, Calls Tryd.prog 10 #[.agg #[.int .i64 view, .int .i64 opn, .int .i64 under, .int .u64 (parent : Int), .int .i64 client, .int .i64 session, .int .i64 request, .int .i64 oper, .string body]] W (VE W (.bool true))))
    (HK : Hid (∀ W : World, Fd W → Calls Tryd.prog 11 #[.agg #[.int .i64 view, .int .i64 opn, .int .i64 under, .int .u64 (parent : Int), .int .i64 client, .int .i64 session, .int .i64 request, .int .i64 oper, .string body]] W (VE W (.agg #[.int .i64 opn, .int .i64 view, .int .u64 (q : Int)])))) :
    Calls Tryd.prog 25 #[.agg #[.int .i64 view, .int .i64 opn, .int .i64 under, .int .u64 (parent : Int), .int .i64 client, .int .i64 session, .int .i64 request, .int .i64 oper, .string body]] w (VE w (.agg #[.int .i64 opn, .int .i64 view, .int .i64 under, .int .u64 (parent : Int), .int .u64 (q : Int)])) := by
  have HZ := hid esize
  have HZM := hid stsize
  have HB0 : Hid (Below w.heap.size w ((w.alloc (.cells #[.int .i64 view, .int .i64 opn, .int .i64 under, .int .u64 (parent : Int), .int .i64 client, .int .i64 session, .int .i64 request, .int .i64 oper, .string body] 30)).alloc (.cells #[.int .i64 0, .int .i64 0, .int .i64 0, .int .u64 0, .int .u64 0] 49))) := hid (((Below.refl w.heap.size w).alloc (Nat.le_refl _) _).alloc (by simp) _)
  have HE0 : Hid (Row ((w.alloc (.cells #[.int .i64 view, .int .i64 opn, .int .i64 under, .int .u64 (parent : Int), .int .i64 client, .int .i64 session, .int .i64 request, .int .i64 oper, .string body] 30)).alloc (.cells #[.int .i64 0, .int .i64 0, .int .i64 0, .int .u64 0, .int .u64 0] 49)) w.heap.size 30 (#[.int .i64 view, .int .i64 opn, .int .i64 under, .int .u64 (parent : Int), .int .i64 client, .int .i64 session, .int .i64 request, .int .i64 oper, .string body] : Array Value).toList) := hid ((Row.new _ _ _).alloc _)
  have HM0 : Hid (Row ((w.alloc (.cells #[.int .i64 view, .int .i64 opn, .int .i64 under, .int .u64 (parent : Int), .int .i64 client, .int .i64 session, .int .i64 request, .int .i64 oper, .string body] 30)).alloc (.cells #[.int .i64 0, .int .i64 0, .int .i64 0, .int .u64 0, .int .u64 0] 49)) (w.heap.size + 1) 49 (#[.int .i64 0, .int .i64 0, .int .i64 0, .int .u64 0, .int .u64 0] : Array Value).toList) := hid (by
    have := Row.new (w.alloc (.cells #[.int .i64 view, .int .i64 opn, .int .i64 under, .int .u64 (parent : Int), .int .i64 client, .int .i64 session, .int .i64 request, .int .i64 oper, .string body] 30)) 49 #[.int .i64 0, .int .i64 0, .int .i64 0, .int .u64 0, .int .u64 0]
    simpa using this)
  have HW0 : Hid (∃ W0, W0 = (w.alloc (.cells #[.int .i64 view, .int .i64 opn, .int .i64 under, .int .u64 (parent : Int), .int .i64 client, .int .i64 session, .int .i64 request, .int .i64 oper, .string body] 30)).alloc (.cells #[.int .i64 0, .int .i64 0, .int .i64 0, .int .u64 0, .int .u64 0] 49)) := hid ⟨_, rfl⟩
  have HF := hid hf
  clear hf
  go_enter Tryd.func25, Tryd.ntmps25
  go_wp2_with (first
    | (refine wpList_load_row rfl 30 (.tmp 1) rfl w.heap.size rfl 30 #[.int .i64 view, .int .i64 opn, .int .i64 under, .int .u64 (parent : Int), .int .i64 client, .int .i64 session, .int .i64 request, .int .i64 oper, .string body] (0, 0) _ (Row.arr (cs := #[.int .i64 view, .int .i64 opn, .int .i64 under, .int .u64 (parent : Int), .int .i64 client, .int .i64 session, .int .i64 request, .int .i64 oper, .string body]) HE0.out) Tryd.underlying30 rfl HZ.out ?_)
    | (go_at_call 10; refine (HR.out _).mono ?_; rintro e w1 ⟨rfl, hb1⟩; have hbb := HB0.out.trans (hb1.mono HB0.out.size); have he := HE0.out.below hb1 HE0.out.lt; have hm := HM0.out.below hb1 HM0.out.lt; clear hb1))
  try simp only [Act.put]
  have HBB := hid hbb
  have HEB := hid he
  have HMB := hid hm
  clear hbb he hm
  refine wp_region_held_drew (S := fun W => Below w.heap.size w W ∧ Row W w.heap.size 30 (#[.int .i64 view, .int .i64 opn, .int .i64 under, .int .u64 (parent : Int), .int .i64 client, .int .i64 session, .int .i64 request, .int .i64 oper, .string body] : Array Value).toList ∧ ∃ z : Array Value, z.size = 5 ∧ Row W (w.heap.size + 1) 49 z.toList) (by kernel_rfl) ⟨HBB.out.drew, HEB.out, #[.int .i64 0, .int .i64 0, .int .i64 0, .int .u64 0, .int .u64 0], rfl, HMB.out⟩ (fun hH => ?_)
  refine wpAnyH_take (i := 0) (v := .pointer (some ⟨w.heap.size, 1, none⟩)) rfl (by kernel_rfl) (by kernel_rfl) (by kernel_rfl) (fun _ _ _ h => h) (Or.inl ⟨by rfl, fun w' hw' => by clear hw'; go_simp⟩) hH ?_
  simp only [Act.put]
  refine wpAnyH_take (i := 1) (v := .int .i64 opn) rfl (by kernel_rfl) (by kernel_rfl) (by kernel_rfl) (fun _ _ _ h => h) (Or.inl ⟨by rfl, fun w' hw' => by have h := hw'.2.1.at_ 1 _ rfl; clear hw'; go_simp⟩) hH ?_
  simp only [Act.put]
  refine wpAnyH_take (i := 2) (v := .pointer (some ⟨w.heap.size, 0, none⟩)) rfl (by kernel_rfl) (by kernel_rfl) (by kernel_rfl) (fun _ _ _ h => h) (Or.inl ⟨by rfl, fun w' hw' => by clear hw'; go_simp⟩) hH ?_
  simp only [Act.put]
  refine wpAnyH_take (i := 3) (v := .int .i64 view) rfl (by kernel_rfl) (by kernel_rfl) (by kernel_rfl) (fun _ _ _ h => h) (Or.inl ⟨by rfl, fun w' hw' => by have h := hw'.2.1.at_ 0 _ rfl; clear hw'; go_simp⟩) hH ?_
  simp only [Act.put]
  refine wpAnyH_take (i := 4) (v := .pointer (some ⟨w.heap.size, 2, none⟩)) rfl (by kernel_rfl) (by kernel_rfl) (by kernel_rfl) (fun _ _ _ h => h) (Or.inl ⟨by rfl, fun w' hw' => by clear hw'; go_simp⟩) hH ?_
  simp only [Act.put]
  refine wpAnyH_take (i := 5) (v := .int .i64 under) rfl (by kernel_rfl) (by kernel_rfl) (by kernel_rfl) (fun _ _ _ h => h) (Or.inl ⟨by rfl, fun w' hw' => by have h := hw'.2.1.at_ 2 _ rfl; clear hw'; go_simp⟩) hH ?_
  simp only [Act.put]
  refine wpAnyH_take (i := 6) (v := .pointer (some ⟨w.heap.size, 3, none⟩)) rfl (by kernel_rfl) (by kernel_rfl) (by kernel_rfl) (fun _ _ _ h => h) (Or.inl ⟨by rfl, fun w' hw' => by clear hw'; go_simp⟩) hH ?_
  simp only [Act.put]
  refine wpAnyH_take (i := 7) (v := .int .u64 (parent : Int)) rfl (by kernel_rfl) (by kernel_rfl) (by kernel_rfl) (fun _ _ _ h => h) (Or.inl ⟨by rfl, fun w' hw' => by have h := hw'.2.1.at_ 3 _ rfl; clear hw'; go_simp⟩) hH ?_
  simp only [Act.put]
  refine wpAnyH_take (i := 8) (v := .agg #[.int .i64 view, .int .i64 opn, .int .i64 under, .int .u64 (parent : Int), .int .i64 client, .int .i64 session, .int .i64 request, .int .i64 oper, .string body]) rfl (by kernel_rfl) (by kernel_rfl) (by kernel_rfl) (fun _ _ _ h => h) ?_ hH ?_
  · refine yieldsIf_load_mid ?_ 30 (.tmp 1) ?_ w.heap.size 0 ?_ (Array.toList #[.int .i64 view, .int .i64 opn, .int .i64 under, .int .u64 (parent : Int), .int .i64 client, .int .i64 session, .int .i64 request, .int .i64 oper, .string body]) _ (fun W hW => Row.range (hW.2.1)) Tryd.underlying30 rfl HZ.out
    all_goals kernel_rfl
  simp only [Act.put]
  refine wpAnyH_ready (rs := [9]) (by kernel_rfl) (by simp) ?_
  refine AllReadyH.cons rfl (fun K hK => ?_) AllReadyH.nil
  go_simp
  go_at_call 11
  refine (HK.out _ (HF.out.below hH.1 HF.out.1)).mono ?_
  rintro e w2 ⟨rfl, hb2⟩
  go_wp2_with fail
  refine hK.out _ _ (⟨hH.1.trans (Below.mono hb2 hH.1.size), Row.below hH.2.1 hb2 hH.2.1.lt, hH.2.2.elim fun z h => ⟨z, h.1, Row.below h.2 hb2 h.2.lt⟩⟩) (fun hH => ?_)
  clear hK K
  try simp only [Act.put]
  refine wpAnyH_take (i := 10) (v := .int .u64 (q : Int)) rfl (by kernel_rfl) (by kernel_rfl) (by kernel_rfl) (fun _ _ _ h => h) (Or.inl ⟨by kernel_rfl, fun w' _ => by kernel_rfl⟩) hH ?_
  simp only [Act.put]
  refine wpAnyH_take (i := 11) (v := .agg #[.int .i64 opn, .int .i64 view, .int .i64 under, .int .u64 (parent : Int), .int .u64 (q : Int)]) rfl (by kernel_rfl) (by kernel_rfl) (by kernel_rfl) (fun _ _ _ h => h) (Or.inl ⟨by rfl, fun w' hw' => by clear hw'; go_simp⟩) hH ?_
  simp only [Act.put]
  refine wpAnyH_ready (rs := [12]) (by kernel_rfl) (by simp) ?_
  refine AllReadyH.cons rfl (fun K hK => ?_) AllReadyH.nil
  obtain ⟨hb8, he8, z, hz8, hm8⟩ := hH
  rw [if_pos (by kernel_rfl)]
  refine wp_store_st (.tmp 2) (.tmp 18) rfl HZM.out (w.heap.size + 1) z #[.int .i64 opn, .int .i64 view, .int .i64 under, .int .u64 (parent : Int), .int .u64 (q : Int)] rfl rfl hm8 hz8 rfl (by simp [Value.oneCell']) (fun w9 hr9 hg9 => ?_)
  have hb9 : Below w.heap.size w w9 := hb8.trans (below_grown hg9 (by omega) hb8.size)
  refine hK.out _ _ ⟨hb9, he8.grown hg9 (by intro e; have := Option.some.inj e; omega), _, rfl, hr9⟩ (fun hH => ?_)
  clear hK K
  try simp only [Act.put]
  refine wpAnyH_done (by kernel_rfl) ?_ _
  try simp only [Act.put]
  go_wp2_with fail
  refine bodyPost_ret (v := .agg #[.int .i64 opn, .int .i64 view, .int .i64 under, .int .u64 (parent : Int), .int .u64 (q : Int)])
    (results_cell_row rfl _ _ (w.heap.size + 1) 49 _ (0, 0) _ rfl (Row.arr (cs := #[.int .i64 opn, .int .i64 view, .int .i64 under, .int .u64 (parent : Int), .int .u64 (q : Int)]) hr9) Tryd.underlying49 rfl HZM.out) rfl ⟨rfl, hb9⟩
theorem sstub_any (e : En) (he : e.fits) (w : World) (hf : Fd w) : Calls Tryd.prog 25 #[e.val] w (VE w (stubS e).val) := by
  have HR := hid (fun W => eright_any e W)
  by_cases h : Rt e
  · have HK := hid (fun W hW => emark_any e he W hW)
    rw [stubS_rt h]
    rw [decide_eq_true h] at HR
    have em : markE e = ⟨e.opn, e.view, (markE e).sum⟩ := by
      unfold markE
      rw [if_pos ((packE_rt he h).1)]
    rw [em] at HK
    generalize (markE e).sum = q at *
    clear em h
    obtain ⟨view, opn, under, parent, client, session, request, oper, body⟩ := e
    exact sstub_yes view opn under parent client session request oper body q w hf HR HK
  · rw [show stubS e = st0 from if_neg h]
    rw [decide_eq_false h] at HR
    obtain ⟨view, opn, under, parent, client, session, request, oper, body⟩ := e
    exact sstub_no view opn under parent client session request oper body w HR
end Go.Proofs.YteahbalcielhpaaDoor
/-
  The walk of package slot's packStub.
-/
namespace Go.Proofs.YteahbalcielhpaaDoor
open Go.RowKit
set_option maxRecDepth 10000

theorem nb_take (l : List Nat) (k : Nat) (h : k < l.length) : nb (l.take (k + 1)) = nb (l.take k) ++ le l[k] 8 := by
  rw [List.take_succ_eq_append_getElem h, nb_app]
  simp [nb]
theorem nbt_len (l : List Nat) (k : Nat) (h : k ≤ l.length) : (nb (l.take k)).length = 8 * k := by rw [nb_len, List.length_take, Nat.min_eq_left h]
/-- Put of eight bytes -/
theorem put_eight (A : Option Addr) (bs : List UInt8) (m c n B : Nat) (W : World) (hr : Rd W B A (bvs bs)) (hm : m = bs.length) (hn : U64 n) (hB : B ≤ W.heap.size) (hl : m ≤ 140737488351232) :
    Calls Tryd.prog 60 #[.slice A m c, .int .u64 (n : Int), .int .i64 8] W
    fun e w' => ∃ A c, e = .returned (.tuple #[.slice A (m + 8) c, .int .i64 0]) ∧ w'.ownsRow W.heap.size 5 1 (.slice A (m + 8) c) (m + 8) (bvs (bs ++ le n 8)) ∧ Below W.heap.size W w' := by
  subst hm
  have h := put_any A bs bs.length c n B 8 W hr rfl hB hl
  have e : putS bs n 8 = (bs ++ le n 8, 0) := by
    unfold putS
    rw [if_pos ⟨by omega, by omega, Nat.div_eq_of_lt (by simpa using hn)⟩]
    rfl
  rw [e] at h
  exact h.mono fun e w' hh => BE.len hh (by simp [le_len])
set_option maxHeartbeats 1000000 in
theorem spackT_any (s : St) (hf : s.fits) (w : World) : Calls Tryd.prog 73 #[s.val] w (SN w (packT s)) := by
  have HR : Hid (∀ W, Calls Tryd.prog 75 #[.agg s.cells] W (VE W (.bool (decide (SRt s))))) := hid (fun W => sright_any s W)
  have HNm : Hid (∀ W, Calls Tryd.prog 76 #[.agg s.cells] W (VE W (.agg (av s.nums).toArray))) := hid (fun W => snumbers_any s W)
  have HL := hid (snums_len s)
  have H64 : Hid (∀ k (hk : k < s.nums.length), U64 s.nums[k]) := hid (fun k hk => snums_lt s hf _ (List.getElem_mem hk))
  have HSZ : Hid (s.cells.size = 5) := hid rfl
  have e0 : packT s = if SRt s then (nb s.nums, 0) else ([], 4) := rfl
  rw [e0]
  show Calls Tryd.prog 73 #[.agg s.cells] w _
  generalize s.cells = C at *
  generalize s.nums = l at *
  by_cases h : SRt s
  · rw [decide_eq_true h] at HR
    rw [if_pos h]
    clear e0 h hf
    go_enter Tryd.func73, Tryd.ntmps73
    go_wp2_with (first
      | (refine wpList_load_row rfl 49 (.tmp 1) rfl w.heap.size rfl 49 C (0, 0) _ hrow1 Tryd.underlying49 rfl (by rw [HSZ.out]; kernel_rfl) ?_)
      | (refine wpList_load_row rfl 49 (.tmp 1) rfl w.heap.size rfl 49 C (0, 0) _ (heap_alloc_new _ _) Tryd.underlying49 rfl (by rw [HSZ.out]; kernel_rfl) ?_)
      | (go_at_call 75; refine (HR.out _).mono ?_; rintro e w1 ⟨rfl, hb1⟩; have hrow1 : w1.heap[w.heap.size]? = some (.cells C 49 (0, 0)) := (hb1.block _ (by simp)).trans (heap_alloc_new _ _))
      | (go_at_call 76; refine (HNm.out _).mono ?_; rintro e w2 ⟨rfl, hb2⟩))
    have hbe : Below w.heap.size w w2 := (((Below.refl _ _).alloc (Nat.le_refl _) _).trans (hb1.mono (by simp))).trans (hb2.mono (by have := hb1.size; simp at this; omega))
    have HB0 := hid hbe
    clear hb1 hb2 hrow1 hbe
    go_loopw [4, 12] (fun b i wr => ∃ k : Nat, k ≤ 5 ∧ i = .int .i64 k ∧ (∃ A c, b = .slice A (8 * k) c ∧ wr.ownsRow w.heap.size 5 1 (.slice A (8 * k) c) (8 * k) (bvs (nb (l.take k)))) ∧ Below w.heap.size w wr) (fun _ i _ => 5 - (intOf i).toNat)
    case atStart => exact ⟨0, by omega, rfl, ⟨none, 0, rfl, World.ownsRow_nil _ _ _ _⟩, HB0.out⟩
    case round =>
      obtain ⟨k, hk, rfl, ⟨A, c1, rfl, hown⟩, hbe⟩ := hrel
      have HBe := hid hbe
      have hsz := hbe.size
      obtain ⟨A', c', hv, -, -, hrd⟩ := own_shape hown
      cases hv
      by_cases hlt : k < 5
      · have hkl : k < l.length := by rw [HL.out]; exact hlt
        have hix := fun W => run_index_arr (P := Tryd.prog) W 120 25 5 (av l).toArray .i64 k _ .u64 Tryd.underlying120 Tryd.underlying25 (by kernel_rfl) hlt (by simpa using av_get l k hkl)
        have HT := hid (nb_take l k hkl)
        have hlen : 8 * k = (nb (l.take k)).length := by rw [nbt_len _ _ (by omega)]
        have HP := hid (put_eight A (nb (l.take k)) (8 * k) c1 l[k] wr.heap.size wr hrd hlen (H64.out k hkl) (Nat.le_refl _) (by omega))
        rw [← HT.out] at HP
        generalize l[k] = x at hix HP
        clear hown hbe hrd hlen HT
        go_wp2_with (go_at_call 60; refine HP.out.mono ?_; rintro e w2 ⟨A2, c2, rfl, hown2, hb2⟩)
        exact ⟨⟨k + 1, by omega, by go_num, ⟨A2, c2, rfl, own_base hown2 hsz⟩, HBe.out.trans (hb2.mono hsz)⟩, by simp [intOf]; omega⟩
      · obtain rfl : k = 5 := by omega
        have HT : Hid (l.take 5 = l) := hid (List.take_of_length_le (by rw [HL.out]; exact Nat.le_refl _))
        rw [HT.out] at hrd
        have HLb : Hid (8 * 5 = (nb l).length) := hid (by rw [nb_len, HL.out])
        clear hown
        go_wp2_with (with_reducible refine wpl_str rfl _ 80 9 rfl 5 Tryd.underlying80 Tryd.underlying5 Tryd.underlying9 A (8 * 5) c1 rfl wr.heap.size (nb l) ?_ (hid hrd) (hid HLb.out))
        go_ret2
        exact ⟨rfl, HBe.out⟩
  · rw [decide_eq_false h] at HR
    rw [if_neg h]
    clear e0 h hf
    go_enter Tryd.func73, Tryd.ntmps73
    go_wp2_with (first
      | (refine wpList_load_row rfl 49 (.tmp 1) rfl w.heap.size rfl 49 C (0, 0) _ (heap_alloc_new _ _) Tryd.underlying49 rfl (by rw [HSZ.out]; kernel_rfl) ?_)
      | (go_at_call 75; refine (HR.out _).mono ?_; rintro e w1 ⟨rfl, hb1⟩))
    go_ret2
    exact ⟨rfl, ((Below.refl _ _).alloc (Nat.le_refl _) _).trans (hb1.mono (by simp))⟩
end Go.Proofs.YteahbalcielhpaaDoor
/-
  The walks of Prepare, Header, Void, package slot's and the document's.
-/
namespace Go.Proofs.YteahbalcielhpaaDoor
open Go.RowKit
set_option maxRecDepth 10000

theorem shdr_no (C : Array Value) (old : ByteArray) (T : List UInt8)  (w : World) (HSZ : Hid (C.size = 5)) 
    (HP : Hid (∀ W : World, Calls Tryd.prog 73 #[.agg C] W fun e w' => e = .returned (.tuple #[.string ⟨T.toArray⟩, .int .i64 4]) ∧ Below W.heap.size W w')) :
    Calls Tryd.prog 70 #[.string old, .agg C] w (SN w ([], 4)) := by
  have HZS := hid stsize
  go_enter Tryd.func70, Tryd.ntmps70
  go_wp2_with (first
    | (refine wpList_load_row rfl 49 (.tmp 3) rfl w.heap.size rfl 49 C (0, 0) _ (heap_alloc_new _ _) Tryd.underlying49 rfl (by rw [HSZ.out]; exact HZS.out) ?_)
    | (go_at_call 73; refine (HP.out _).mono ?_; rintro e w1 ⟨rfl, hb1⟩))
  go_ret2
  exact ⟨rfl, ((Below.refl _ _).alloc (Nat.le_refl _) _).trans (hb1.mono (by simp))⟩
theorem shdr_yes (C : Array Value) (old : ByteArray) (T : List UInt8) (r : List UInt8 × Int) (w : World) (HSZ : Hid (C.size = 5))
    (HP : Hid (∀ W : World, Calls Tryd.prog 73 #[.agg C] W fun e w' => e = .returned (.tuple #[.string ⟨T.toArray⟩, .int .i64 0]) ∧ Below W.heap.size W w'))
    (HS : Hid (∀ W : World, Calls Tryd.prog 74 #[.string old, .string ⟨T.toArray⟩] W (SN W r))) :
    Calls Tryd.prog 70 #[.string old, .agg C] w (SN w r) := by
  have HZS := hid stsize
  go_enter Tryd.func70, Tryd.ntmps70
  go_wp2_with (first
    | (refine wpList_load_row rfl 49 (.tmp 3) rfl w.heap.size rfl 49 C (0, 0) _ (heap_alloc_new _ _) Tryd.underlying49 rfl (by rw [HSZ.out]; exact HZS.out) ?_)
    | (go_at_call 73; refine (HP.out _).mono ?_; rintro e w1 ⟨rfl, hb1⟩)
    | (go_at_call 74; refine (HS.out _).mono ?_; rintro e w2 ⟨rfl, hb2⟩))
  go_ret2
  exact ⟨rfl, (((Below.refl _ _).alloc (Nat.le_refl _) _).trans (hb1.mono (by simp))).trans (hb2.mono (by have := hb1.size; simp at this; omega))⟩
theorem shdr_any (old : ByteArray) (s : St) (hs : s.fits) (hold : old.size ≤ 1125899906842624) (w : World) : Calls Tryd.prog 70 #[.string old, s.val] w (SN w (hdrS (sb old) s)) := by
  have HSZ : Hid (s.cells.size = 5) := hid rfl
  have HP := hid (fun W => spackT_any s hs W)
  unfold hdrS
  unfold packT at HP
  by_cases h0 : SRt s
  · rw [if_pos h0] at HP ⊢
    have HS := hid (fun W => seal_calls old ⟨s.bytes.toArray⟩ W hold)
    rw [sb_mk] at HS
    exact shdr_yes s.cells old _ _ w HSZ HP HS
  · rw [if_neg h0] at HP ⊢
    exact shdr_no s.cells old _ w HSZ HP
end Go.Proofs.YteahbalcielhpaaDoor
/-
  Stubs, entries, items held against each other.
-/
namespace Go.Proofs.YteahbalcielhpaaDoor
open Go.RowKit
set_option maxRecDepth 10000

theorem stubFields : (Tryd.prog.fieldsOf 49).toList = [{ name := "Op", type := 3, offset := 0, embedded := false, tag := "", pkgPath := "", byteOffset := 0 }, { name := "View", type := 3, offset := 1, embedded := false, tag := "", pkgPath := "", byteOffset := 8 }, { name := "Under", type := 3, offset := 2, embedded := false, tag := "", pkgPath := "", byteOffset := 16 }, { name := "Parent", type := 25, offset := 3, embedded := false, tag := "", pkgPath := "", byteOffset := 24 }, { name := "Sum", type := 25, offset := 4, embedded := false, tag := "", pkgPath := "", byteOffset := 32 }] := by kernel_rfl
theorem itemFields : (Tryd.prog.fieldsOf 51).toList = [{ name := "Kind", type := 3, offset := 0, embedded := false, tag := "", pkgPath := "", byteOffset := 0 }, { name := "Stub", type := 49, offset := 1, embedded := false, tag := "", pkgPath := "", byteOffset := 8 }, { name := "Entry", type := 30, offset := 6, embedded := false, tag := "", pkgPath := "", byteOffset := 48 }] := by kernel_rfl
theorem eqSt (d : Nat) (x y : St) (W : World) : (Op.equalIn (d + 2) 49 (.agg x.cells) (.agg y.cells)).run Tryd.prog W = .ok (decide (x = y)) W := by
  rw [run_equalIn_struct W (d + 1) 49 x.cells y.cells (by kernel_rfl) (by kernel_rfl), stubFields]
  have x0 : x.cells[0]? = some (.int .i64 x.opn) := rfl
  have y0 : y.cells[0]? = some (.int .i64 y.opn) := rfl
  have x1 : x.cells[1]? = some (.int .i64 x.view) := rfl
  have y1 : y.cells[1]? = some (.int .i64 y.view) := rfl
  have x2 : x.cells[2]? = some (.int .i64 x.under) := rfl
  have y2 : y.cells[2]? = some (.int .i64 y.under) := rfl
  have x3 : x.cells[3]? = some (.int .u64 (x.parent : Int)) := rfl
  have y3 : y.cells[3]? = some (.int .u64 (y.parent : Int)) := rfl
  have x4 : x.cells[4]? = some (.int .u64 (x.sum : Int)) := rfl
  have y4 : y.cells[4]? = some (.int .u64 (y.sum : Int)) := rfl
  generalize x.cells = X at *
  generalize y.cells = Y at *
  rw [eqF_int (P := Tryd.prog) (W := W) d X Y { name := "Op", type := 3, offset := 0, embedded := false, tag := "", pkgPath := "", byteOffset := 0 } _ .i64 x.opn y.opn (by simp) (part_int 3 X 0 _ .i64 Tryd.underlying3 sizeInt x0) (part_int 3 Y 0 _ .i64 Tryd.underlying3 sizeInt y0) Tryd.underlying3]
  rw [eqF_int (P := Tryd.prog) (W := W) d X Y { name := "View", type := 3, offset := 1, embedded := false, tag := "", pkgPath := "", byteOffset := 8 } _ .i64 x.view y.view (by simp) (part_int 3 X 1 _ .i64 Tryd.underlying3 sizeInt x1) (part_int 3 Y 1 _ .i64 Tryd.underlying3 sizeInt y1) Tryd.underlying3]
  rw [eqF_int (P := Tryd.prog) (W := W) d X Y { name := "Under", type := 3, offset := 2, embedded := false, tag := "", pkgPath := "", byteOffset := 16 } _ .i64 x.under y.under (by simp) (part_int 3 X 2 _ .i64 Tryd.underlying3 sizeInt x2) (part_int 3 Y 2 _ .i64 Tryd.underlying3 sizeInt y2) Tryd.underlying3]
  rw [eqF_int (P := Tryd.prog) (W := W) d X Y { name := "Parent", type := 25, offset := 3, embedded := false, tag := "", pkgPath := "", byteOffset := 24 } _ .u64 (x.parent : Int) (y.parent : Int) (by simp) (part_int 25 X 3 _ .u64 Tryd.underlying25 sizeU64 x3) (part_int 25 Y 3 _ .u64 Tryd.underlying25 sizeU64 y3) Tryd.underlying25]
  rw [eqF_int (P := Tryd.prog) (W := W) d X Y { name := "Sum", type := 25, offset := 4, embedded := false, tag := "", pkgPath := "", byteOffset := 32 } _ .u64 (x.sum : Int) (y.sum : Int) (by simp) (part_int 25 X 4 _ .u64 Tryd.underlying25 sizeU64 x4) (part_int 25 Y 4 _ .u64 Tryd.underlying25 sizeU64 y4) Tryd.underlying25]
  rw [eqF_nil]
  obtain ⟨o1, v1, u1, p1, s1⟩ := x
  obtain ⟨o2, v2, u2, p2, s2⟩ := y
  simp only [St.mk.injEq]
  by_cases c0 : o1 = o2
  case neg => simp [c0]
  by_cases c1 : v1 = v2
  case neg => simp [c1]
  by_cases c2 : u1 = u2
  case neg => simp [c2]
  by_cases c3 : (p1 : Int) = (p2 : Int)
  case neg => simp [c3]; omega
  by_cases c4 : (s1 : Int) = (s2 : Int)
  case neg => simp [c4]; omega
  simp [*]
  omega
theorem eqEn2 (d : Nat) (x y : En) (b : Bool) (hb : b = true ↔ x = y) (W : World) : (Op.equalIn (d + 2) 30 (.agg x.cells) (.agg y.cells)).run Tryd.prog W = .ok b W := by
  rw [run_equalIn_struct W (d + 1) 30 x.cells y.cells (by kernel_rfl) (by kernel_rfl), entryFields]
  have x0 : x.cells[0]? = some (.int .i64 x.view) := rfl
  have y0 : y.cells[0]? = some (.int .i64 y.view) := rfl
  have x1 : x.cells[1]? = some (.int .i64 x.opn) := rfl
  have y1 : y.cells[1]? = some (.int .i64 y.opn) := rfl
  have x2 : x.cells[2]? = some (.int .i64 x.under) := rfl
  have y2 : y.cells[2]? = some (.int .i64 y.under) := rfl
  have x3 : x.cells[3]? = some (.int .u64 (x.parent : Int)) := rfl
  have y3 : y.cells[3]? = some (.int .u64 (y.parent : Int)) := rfl
  have x4 : x.cells[4]? = some (.int .i64 x.client) := rfl
  have y4 : y.cells[4]? = some (.int .i64 y.client) := rfl
  have x5 : x.cells[5]? = some (.int .i64 x.session) := rfl
  have y5 : y.cells[5]? = some (.int .i64 y.session) := rfl
  have x6 : x.cells[6]? = some (.int .i64 x.request) := rfl
  have y6 : y.cells[6]? = some (.int .i64 y.request) := rfl
  have x7 : x.cells[7]? = some (.int .i64 x.oper) := rfl
  have y7 : y.cells[7]? = some (.int .i64 y.oper) := rfl
  have x8 : x.cells[8]? = some (.string x.body) := rfl
  have y8 : y.cells[8]? = some (.string y.body) := rfl
  generalize x.cells = X at *
  generalize y.cells = Y at *
  rw [eqF_int (P := Tryd.prog) (W := W) d X Y { name := "View", type := 3, offset := 0, embedded := false, tag := "", pkgPath := "", byteOffset := 0 } _ .i64 x.view y.view (by simp) (part_int 3 X 0 _ .i64 Tryd.underlying3 sizeInt x0) (part_int 3 Y 0 _ .i64 Tryd.underlying3 sizeInt y0) Tryd.underlying3]
  rw [eqF_int (P := Tryd.prog) (W := W) d X Y { name := "Op", type := 3, offset := 1, embedded := false, tag := "", pkgPath := "", byteOffset := 8 } _ .i64 x.opn y.opn (by simp) (part_int 3 X 1 _ .i64 Tryd.underlying3 sizeInt x1) (part_int 3 Y 1 _ .i64 Tryd.underlying3 sizeInt y1) Tryd.underlying3]
  rw [eqF_int (P := Tryd.prog) (W := W) d X Y { name := "Under", type := 3, offset := 2, embedded := false, tag := "", pkgPath := "", byteOffset := 16 } _ .i64 x.under y.under (by simp) (part_int 3 X 2 _ .i64 Tryd.underlying3 sizeInt x2) (part_int 3 Y 2 _ .i64 Tryd.underlying3 sizeInt y2) Tryd.underlying3]
  rw [eqF_int (P := Tryd.prog) (W := W) d X Y { name := "Parent", type := 25, offset := 3, embedded := false, tag := "", pkgPath := "", byteOffset := 24 } _ .u64 (x.parent : Int) (y.parent : Int) (by simp) (part_int 25 X 3 _ .u64 Tryd.underlying25 sizeU64 x3) (part_int 25 Y 3 _ .u64 Tryd.underlying25 sizeU64 y3) Tryd.underlying25]
  rw [eqF_int (P := Tryd.prog) (W := W) d X Y { name := "Client", type := 3, offset := 4, embedded := false, tag := "", pkgPath := "", byteOffset := 32 } _ .i64 x.client y.client (by simp) (part_int 3 X 4 _ .i64 Tryd.underlying3 sizeInt x4) (part_int 3 Y 4 _ .i64 Tryd.underlying3 sizeInt y4) Tryd.underlying3]
  rw [eqF_int (P := Tryd.prog) (W := W) d X Y { name := "Session", type := 3, offset := 5, embedded := false, tag := "", pkgPath := "", byteOffset := 40 } _ .i64 x.session y.session (by simp) (part_int 3 X 5 _ .i64 Tryd.underlying3 sizeInt x5) (part_int 3 Y 5 _ .i64 Tryd.underlying3 sizeInt y5) Tryd.underlying3]
  rw [eqF_int (P := Tryd.prog) (W := W) d X Y { name := "Request", type := 3, offset := 6, embedded := false, tag := "", pkgPath := "", byteOffset := 48 } _ .i64 x.request y.request (by simp) (part_int 3 X 6 _ .i64 Tryd.underlying3 sizeInt x6) (part_int 3 Y 6 _ .i64 Tryd.underlying3 sizeInt y6) Tryd.underlying3]
  rw [eqF_int (P := Tryd.prog) (W := W) d X Y { name := "Operation", type := 3, offset := 7, embedded := false, tag := "", pkgPath := "", byteOffset := 56 } _ .i64 x.oper y.oper (by simp) (part_int 3 X 7 _ .i64 Tryd.underlying3 sizeInt x7) (part_int 3 Y 7 _ .i64 Tryd.underlying3 sizeInt y7) Tryd.underlying3]
  rw [eqF_strs (P := Tryd.prog) (W := W) d X Y { name := "Body", type := 9, offset := 8, embedded := false, tag := "", pkgPath := "", byteOffset := 64 } _ x.body y.body (by simp) (part_str 9 X 8 _ Tryd.underlying9 sizeStr x8) (part_str 9 Y 8 _ Tryd.underlying9 sizeStr y8) Tryd.underlying9]
  rw [eqF_nil]
  clear x0 y0 x1 y1 x2 y2 x3 y3 x4 y4 x5 y5 x6 y6 x7 y7 x8 y8
  obtain ⟨a1, a2, a3, a4, a5, a6, a7, a8, a9⟩ := x
  obtain ⟨b1, b2, b3, b4, b5, b6, b7, b8, b9⟩ := y
  simp only [En.mk.injEq] at hb
  simp only
  by_cases h : b = true
  · obtain ⟨rfl, rfl, rfl, rfl, rfl, rfl, rfl, rfl, rfl⟩ := hb.1 h
    subst h
    simp
  · have hn := fun q => h (hb.2 q)
    rw [Bool.eq_false_iff.2 h]
    clear hb h
    by_cases c0 : a1 = b1
    case neg => simp [c0]
    by_cases c1 : a2 = b2
    case neg => simp [c1]
    by_cases c2 : a3 = b3
    case neg => simp [c2]
    by_cases c3 : (a4 : Int) = (b4 : Int)
    case neg => simp [c3]
    by_cases c4 : a5 = b5
    case neg => simp [c4]
    by_cases c5 : a6 = b6
    case neg => simp [c5]
    by_cases c6 : a7 = b7
    case neg => simp [c6]
    by_cases c7 : a8 = b8
    case neg => simp [c7]
    by_cases c8 : a9 = b9
    case neg => simp [c8]
    exact absurd ⟨c0, c1, c2, by omega, c4, c5, c6, c7, c8⟩ hn
theorem eqF_agg {P : Program} {W : World} (d : Nat) (xs ys : Array Value) (f : Field) (fs : List Field) (X Y : Array Value) (b : Bool) (hn : f.name ≠ "_") (hx : (part f.type xs f.offset).run P W = .ok (.agg X) W) (hy : (part f.type ys f.offset).run P W = .ok (.agg Y) W)
    (hE : (Op.equalIn (d + 1) f.type (.agg X) (.agg Y)).run P W = .ok b W) : (Op.eqFields (d + 1) xs ys (f :: fs)).run P W = if b = true then (Op.eqFields (d + 1) xs ys fs).run P W else .ok false W := by
  simp only [Op.eqFields, if_pos hn, Sem.run_bind, hx, hy, Result.andThen_ok, hE]
  cases b <;> simp
theorem part_stub (x : It) (W : World) : (part 49 x.cells 1).run Tryd.prog W = .ok (.agg x.stub.cells) W := by kernel_rfl
theorem part_entry (x : It) (W : World) : (part 30 x.cells 6).run Tryd.prog W = .ok (.agg x.entry.cells) W := by kernel_rfl
theorem part_kind (x : It) (W : World) : (part 3 x.cells 0).run Tryd.prog W = .ok (.int .i64 x.kind) W := by kernel_rfl
theorem wpl_run {P : Program} {ops : Array Oper} {rest : List Oper} {o : Oper} {a : Act} {w : World} {Q : Exit → Act → World → Prop} (hw : Region.wanted o (yielded ops a.tmps) = true) (v : Value) (hrun : ∀ w, (execOp a.eval o).run P w = .ok (.value v) w)
    (h : wpList P ops Q rest (a.put o.dst v) w) : wpList P ops Q (o :: rest) a w := by
  refine BigFrame.wpList_want hw fun K hK => ?_
  unfold Oper.wp
  rw [hrun, Oper.upon_value]
  exact hK _ _ h
theorem egSt : Tryd.prog.eqGuardType Tryd.prog.depth 49 = false := by kernel_rfl
theorem egIt : Tryd.prog.eqGuardType Tryd.prog.depth 51 = false := by kernel_rfl
theorem wpl_load_midw {P : Program} {ops : Array Oper} {rest : List Oper} {o : Oper} {a : Act} {w : World} {Q : Exit → Act → World → Prop} (hw : Region.wanted o (yielded ops a.tmps) = true) (ty : TypeId) (x : Operand) (ho : o.op = .load ty x)
    (b k : Nat) (hx : a.eval x = .pointer (some ⟨b, k, none⟩)) (cs : List Value) (d : TypeDesc) (hc : w.rangeAt b k cs)
    (hu : P.underlying ty = some d) (hd : d.isRow = true) (hi : (P.info? ty).map (·.size) = some cs.length)
    (h : wpList P ops Q rest (a.put o.dst (.agg cs.toArray)) w) : wpList P ops Q (o :: rest) a w :=
  BigFrame.wpList_want hw fun _ hK => wp_load_mid ty x ho b k hx cs d hc hu hd hi (hK _ _ h)
section
variable {ops : Array Oper} {rest : List Oper} {o : Oper} {a : Act} {w : World} {Q : Exit → Act → World → Prop}
theorem wpl_eqs (hw : Region.wanted o (yielded ops a.tmps) = true) (s t : St) (b : Bool) (x y : Operand) (ty : TypeId) (ho : o.op = .binOp .eql 49 x y ty)
    (hx : a.eval x = .agg s.cells) (hy : a.eval y = .agg t.cells) (hb : Hid (decide (s = t) = b)) (h : wpList Tryd.prog ops Q rest (a.put o.dst (.bool b)) w) : wpList Tryd.prog ops Q (o :: rest) a w := by
  refine BigFrame.wpList_want hw fun K hK => ?_
  have hEQ := hb.out ▸ eqSt 9998 s t w
  have hEG := egSt
  generalize s.cells = Z at *
  generalize t.cells = Y at *
  unfold Oper.wp execOp
  simp [ho, hx, hy, eqGuard, hEG, binOp, Op.equal, Op.maxDepth, hEQ, Result.andThen]
  exact hK _ _ h
theorem wpl_eqe2 (hw : Region.wanted o (yielded ops a.tmps) = true) (s t : En) (b : Bool) (x y : Operand) (ty : TypeId) (ho : o.op = .binOp .eql 30 x y ty)
    (hx : a.eval x = .agg s.cells) (hy : a.eval y = .agg t.cells) (hb : Hid (b = true ↔ s = t)) (h : wpList Tryd.prog ops Q rest (a.put o.dst (.bool b)) w) : wpList Tryd.prog ops Q (o :: rest) a w := by
  refine BigFrame.wpList_want hw fun K hK => ?_
  have hEQ := eqEn2 9998 s t b hb.out w
  have hEG := egEn
  generalize s.cells = Z at *
  generalize t.cells = Y at *
  unfold Oper.wp execOp
  simp [ho, hx, hy, eqGuard, hEG, binOp, Op.equal, Op.maxDepth, hEQ, Result.andThen]
  exact hK _ _ h
theorem wpl_nee2 (hw : Region.wanted o (yielded ops a.tmps) = true) (s t : En) (b : Bool) (x y : Operand) (ty : TypeId) (ho : o.op = .binOp .neq 30 x y ty)
    (hx : a.eval x = .agg s.cells) (hy : a.eval y = .agg t.cells) (hb : Hid (b = true ↔ s = t)) (h : wpList Tryd.prog ops Q rest (a.put o.dst (.bool (!b))) w) : wpList Tryd.prog ops Q (o :: rest) a w := by
  refine BigFrame.wpList_want hw fun K hK => ?_
  have hEQ := eqEn2 9998 s t b hb.out w
  have hEG := egEn
  generalize s.cells = Z at *
  generalize t.cells = Y at *
  unfold Oper.wp execOp
  simp [ho, hx, hy, eqGuard, hEG, binOp, Op.equal, Op.maxDepth, hEQ, Result.andThen]
  exact hK _ _ h
end
theorem yields_eqs {ops : Array Oper} {S : World → Prop} {o : Oper} {a : Act} (hw : Region.wanted o (yielded ops a.tmps) = true) (s t : St) (b : Bool) (hb : Hid (decide (s = t) = b)) (x y : Operand) (ty : TypeId) (ho : o.op = .binOp .eql 49 x y ty)
    (hx : a.eval x = .agg s.cells) (hy : a.eval y = .agg t.cells) : YieldsIf Tryd.prog ops S o (.bool b) a :=
  .inl ⟨hw, fun w _ => by
    have hEG := egSt
    have hE := eqSt 9998 s t w
    rw [hb.out] at hE
    generalize s.cells = Z at *
    generalize t.cells = Y at *
    unfold execOp
    simp [ho, hx, hy, eqGuard, hEG, binOp, Op.equal, Op.maxDepth, hE, Result.andThen]⟩
end Go.Proofs.YteahbalcielhpaaDoor
/-
  Messages in plain words: their fields, what may be, their bytes, what bytes say.
-/
namespace Go.Proofs.YteahbalcielhpaaDoor
open Go.RowKit
set_option maxRecDepth 10000

theorem en_ext (a b : En) : a = b ↔ (a.view = b.view ∧ a.opn = b.opn ∧ a.under = b.under ∧ a.parent = b.parent) ∧ a.client = b.client ∧ a.session = b.session ∧ a.request = b.request ∧ a.oper = b.oper ∧ a.body = b.body := by
  obtain ⟨a1, a2, a3, a4, a5, a6, a7, a8, a9⟩ := a
  obtain ⟨b1, b2, b3, b4, b5, b6, b7, b8, b9⟩ := b
  simp only [En.mk.injEq]
  constructor
  · rintro ⟨h1, h2, h3, h4, h5, h6, h7, h8, h9⟩; exact ⟨⟨h1, h2, h3, h4⟩, h5, h6, h7, h8, h9⟩
  · rintro ⟨⟨h1, h2, h3, h4⟩, h5, h6, h7, h8, h9⟩; exact ⟨h1, h2, h3, h4, h5, h6, h7, h8, h9⟩
instance : DecidableEq En := fun a b => decidable_of_iff _ (en_ext a b).symm
theorem it_ext (a b : It) : a = b ↔ a.kind = b.kind ∧ a.stub = b.stub ∧ a.entry = b.entry := by
  obtain ⟨a1, a2, a3⟩ := a
  obtain ⟨b1, b2, b3⟩ := b
  simp only [It.mk.injEq]
instance : DecidableEq It := fun a b => decidable_of_iff _ (it_ext a b).symm
/-- a message -/
structure Ms where
  kind : Int
  frm : Int
  view : Int
  lv : Int
  opn : Int
  commit : Int
  client : Int
  session : Int
  request : Int
  oper : Int
  index : Int
  size : Int
  check : Mk
  sums : List Nat
  entry : En
  es : List En
  xs : List It
  body : ByteArray
deriving DecidableEq
def z6 : List Nat := [0, 0, 0, 0, 0, 0]
def ms0 : Ms := ⟨0, 0, 0, 0, 0, 0, 0, 0, 0, 0, 0, 0, mk0, z6, en0, [], [], ⟨#[]⟩⟩
/-- an item of the machine's -/
def It.fits (x : It) : Prop := In64 x.kind ∧ x.stub.fits ∧ x.entry.fits
/-- a message of the machine's -/
def Ms.fits (m : Ms) : Prop := (In64 m.kind ∧ In64 m.frm ∧ In64 m.view ∧ In64 m.lv ∧ In64 m.opn ∧ In64 m.commit) ∧ (In64 m.client ∧ In64 m.session ∧ In64 m.request ∧ In64 m.oper ∧ In64 m.index ∧ In64 m.size) ∧
  m.check.fits ∧ (m.sums.length = 6 ∧ ∀ n ∈ m.sums, n < 18446744073709551616) ∧ m.entry.fits ∧ (∀ e ∈ m.es, e.fits) ∧ ∀ x ∈ m.xs, x.fits
/-! ### the fields of a kind -/
def kView (k : Int) : Bool := k == 2 || k == 3 || k == 4 || k == 5 || k == 6 || k == 7 || k == 8 || k == 9 || k == 16
def kLog (k : Int) : Bool := k == 7
def kOp (k : Int) : Bool := k == 3 || k == 4 || k == 10 || k == 16
def kCom (k : Int) : Bool := k == 2 || k == 5 || k == 7 || k == 8
def kCli (k : Int) : Bool := k == 1 || k == 4 || k == 16
def kOpr (k : Int) : Bool := k == 1
def kIdx (k : Int) : Bool := k == 14 || k == 15
def kSz (k : Int) : Bool := k == 13
def kChk (k : Int) : Bool := k == 7 || k == 8 || k == 13 || k == 14 || k == 15
def kEnt (k : Int) : Bool := k == 2 || k == 11
def kEs (k : Int) : Bool := k == 8
def kBod (k : Int) : Bool := k == 1 || k == 4 || k == 15
def ifI (b : Bool) (n : Int) : Int := if b then n else 0
def keptM (m : Ms) : Ms :=
  ⟨m.kind, m.frm, ifI (kView m.kind) m.view, ifI (kLog m.kind) m.lv, ifI (kOp m.kind) m.opn, ifI (kCom m.kind) m.commit, ifI (kCli m.kind) m.client, ifI (kCli m.kind) m.session, ifI (kCli m.kind) m.request, ifI (kOpr m.kind) m.oper,
   ifI (kIdx m.kind) m.index, ifI (kSz m.kind) m.size, if kChk m.kind then m.check else mk0, if kSz m.kind then m.sums else z6, if kEnt m.kind then m.entry else en0, if kEs m.kind then m.es else [], if kLog m.kind then m.xs else [], if kBod m.kind then m.body else ⟨#[]⟩⟩
/-! ### may be -/
def Fi (n : Int) : Prop := 0 ≤ n ∧ n ≤ 72057594037927935
instance (n : Int) : Decidable (Fi n) := by unfold Fi; infer_instance
def itemR (x : It) : Prop :=
  if x.kind = 1 then Rt x.entry ∧ stubS x.entry = x.stub else if x.kind = 2 then SRt x.stub ∧ x.entry = en0 else (x.kind = 0 ∨ x.kind = 3) ∧ x.entry = en0 ∧ x.stub = st0
instance (x : It) : Decidable (itemR x) := by unfold itemR; infer_instance
def numsM (m : Ms) : List Int := [m.view, m.lv, m.opn, m.commit, m.client, m.session, m.request, m.index, m.size, m.check.opn, m.check.view]
def rightM (m : Ms) : Prop :=
  ((1 ≤ m.kind ∧ m.kind ≤ 16) ∧ (0 ≤ m.frm ∧ m.frm ≤ 255) ∧ (0 ≤ m.oper ∧ m.oper ≤ 255) ∧ m = keptM m) ∧ (∀ n ∈ numsM m, Fi n) ∧
  (m.body.size ≤ 320 ∧ (m.kind ≠ 15 → m.body.size ≤ 200) ∧ m.es.length ≤ 8 ∧ (m.kind = 7 → m.xs.length = 8)) ∧
  (∀ e ∈ m.es, Rt e) ∧ (∀ x ∈ m.xs, itemR x) ∧ (m.kind = 2 ∨ m.kind = 11 → Rt m.entry)
instance (m : Ms) : Decidable (rightM m) := by unfold rightM; infer_instance
/-! ### bytes -/
/-! ### what bytes say -/
end Go.Proofs.YteahbalcielhpaaDoor
/-
  A message's bytes say the message.
-/
namespace Go.Proofs.YteahbalcielhpaaDoor
open Go.RowKit
set_option maxRecDepth 10000

/-! ### an entry's text -/
/-! ### an item -/
/-! ### a mark, sums -/
theorem list6 (l : List Nat) (h : l.length = 6) : ∃ a b c d e f, l = [a, b, c, d, e, f] := by
  match l, h with
  | [a, b, c, d, e, f], _ => exact ⟨a, b, c, d, e, f, rfl⟩
end Go.Proofs.YteahbalcielhpaaDoor
/-
  Messages: what bytes say is of the machine's.
-/
namespace Go.Proofs.YteahbalcielhpaaDoor
open Go.RowKit
set_option maxRecDepth 10000

theorem en0_fitsM : en0.fits := by unfold En.fits en0 In64; simp
theorem mk0_fitsM : mk0.fits := by unfold Mk.fits mk0 In64; simp
theorem z6_ok : z6.length = 6 ∧ ∀ n ∈ z6, n < 18446744073709551616 := by
  refine ⟨rfl, fun n hn => ?_⟩
  simp only [z6, List.mem_cons, List.not_mem_nil, or_false, or_self] at hn
  omega
end Go.Proofs.YteahbalcielhpaaDoor
/-
  The program's own way through a message, in plain words: sign by sign.
-/
namespace Go.Proofs.YteahbalcielhpaaDoor
open Go.RowKit
set_option maxRecDepth 10000

/-- the signs of a kind's fields -/
def sgK (k : Int) : List Nat :=
  if k = 1 then [99, 115, 114, 111, 66] else if k = 2 then [118, 109, 69] else if k = 3 then [118, 112] else if k = 4 then [118, 112, 99, 115, 114, 66] else if k = 5 then [118, 109] else if k = 6 then [118] else if k = 7 then [118, 108, 109, 67, 73] else if k = 8 then [118, 109, 67, 76]
  else if k = 9 then [118] else if k = 10 then [112] else if k = 11 then [69] else if k = 12 then [] else if k = 13 then [122, 67, 83] else if k = 14 then [120, 67] else if k = 15 then [120, 67, 66] else if k = 16 then [118, 112, 99, 115, 114] else []
def sgA : List Nat := [118, 108, 112, 109, 99, 115, 114, 111, 120, 122, 67, 83, 69, 76, 73, 66]
def numS (m : Ms) (c : Nat) : Int :=
  if c = 118 then m.view else if c = 108 then m.lv else if c = 112 then m.opn else if c = 109 then m.commit else if c = 99 then m.client else if c = 115 then m.session else if c = 114 then m.request else if c = 111 then m.oper else if c = 120 then m.index else if c = 122 then m.size else 0
def mayE (l : List En) : Prop := l.length ≤ 8 ∧ ∀ e ∈ l, Rt e
instance (l : List En) : Decidable (mayE l) := by unfold mayE; infer_instance
def mayX (l : List It) : Prop := l.length = 8 ∧ ∀ x ∈ l, itemR x
instance (l : List It) : Decidable (mayX l) := by unfold mayX; infer_instance
def mayS (m : Ms) (c : Nat) : Prop :=
  if c = 111 then 0 ≤ m.oper ∧ m.oper ≤ 255 else if c = 67 then Fi m.check.opn ∧ Fi m.check.view else if c = 83 then True else if c = 69 then Rt m.entry else if c = 76 then mayE m.es else if c = 73 then mayX m.xs
  else if c = 66 then (m.body.size : Int) ≤ (if m.kind = 15 then 320 else 200) else Fi (numS m c)
instance (m : Ms) (c : Nat) : Decidable (mayS m c) := by unfold mayS; infer_instance
def emptyS (m : Ms) (c : Nat) : Prop :=
  if c = 67 then m.check = mk0 else if c = 83 then m.sums = z6 else if c = 69 then m.entry = en0 else if c = 76 then m.es = [] else if c = 73 then m.xs = [] else if c = 66 then m.body = ⟨#[]⟩ else numS m c = 0
instance (m : Ms) (c : Nat) : Decidable (emptyS m c) := by unfold emptyS; infer_instance
def okS (m : Ms) (c : Nat) : Prop := if c ∈ sgK m.kind then mayS m c else emptyS m c
instance (m : Ms) (c : Nat) : Decidable (okS m c) := by unfold okS; infer_instance
def kindOk (m : Ms) : Prop := (1 ≤ m.kind ∧ m.kind ≤ 16) ∧ 0 ≤ m.frm ∧ m.frm ≤ 255
instance (m : Ms) : Decidable (kindOk m) := by unfold kindOk; infer_instance
theorem kind16 {k : Int} (h : 1 ≤ k ∧ k ≤ 16) : k = 1 ∨ k = 2 ∨ k = 3 ∨ k = 4 ∨ k = 5 ∨ k = 6 ∨ k = 7 ∨ k = 8 ∨ k = 9 ∨ k = 10 ∨ k = 11 ∨ k = 12 ∨ k = 13 ∨ k = 14 ∨ k = 15 ∨ k = 16 := by omega
/-! ### bytes -/
/-! ### what bytes say -/
/-! #### a message's own bytes -/
/-! #### what is read is of the machine's -/
end Go.Proofs.YteahbalcielhpaaDoor
