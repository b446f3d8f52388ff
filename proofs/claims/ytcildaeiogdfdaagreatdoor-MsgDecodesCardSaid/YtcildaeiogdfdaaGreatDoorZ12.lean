/-
  Plain words on entries: packed and read again, turned; the walk of EntryTurns.
-/
import Derived.Test.YtcildaeiogdfdaaGreatDoorZ08
import Derived.Test.YtcildaeiogdfdaaGreatDoorZ02
import Derived.Test.YtcildaeiogdfdaaGreatDoorZ10
import Derived.Test.YtcildaeiogdfdaaGreatDoorZ05
import Derived.Test.YtcildaeiogdfdaaGreatDoorZ03
namespace Go.Proofs.YtcildaeiogdfdaaGreatDoor
open Go.RowKit
set_option maxRecDepth 10000

theorem packE_ok {e : En} {s : List UInt8} (h : packE e = (s, 0)) : Rt e ∧ packS (hof e) (sb e.body) = (s, 0) := by
  unfold packE at h
  by_cases h1 : Rt e
  · rw [if_pos h1] at h
    exact ⟨h1, h⟩
  · rw [if_neg h1] at h
    simp at h
theorem eof_hof (e : En) : eof (hof e) ⟨(sb e.body).toArray⟩ = e := by
  obtain ⟨view, opn, under, parent, client, session, request, oper, body⟩ := e
  simp only [eof, hof, mk_sb]
theorem unpackE_pack {e : En} {s : List UInt8} (he : e.fits) (h : packE e = (s, 0)) : unpackE s = (e, 0) := by
  obtain ⟨h1, h2⟩ := packE_ok h
  have h3 := unpack_pack (packS_rt he h1).2 h2
  unfold unpackE
  rw [h3]
  simp [eof_hof, h1]
theorem packE_len {e : En} {s : List UInt8} (h : packE e = (s, 0)) : s.length = 128 + e.body.size ∧ (e.body.size : Int) ≤ 200 := by
  obtain ⟨h1, h2⟩ := packE_ok h
  obtain ⟨_, _, h3⟩ := packS_ok h2
  rw [h3, List.length_append, headB_len, sb_len]
  exact ⟨rfl, h1.2.2.2.2.2.2.2.2⟩
end Go.Proofs.YtcildaeiogdfdaaGreatDoor
/-
  The walks of MarkOf, package entry's and the document's.
-/
namespace Go.Proofs.YtcildaeiogdfdaaGreatDoor
open Go.RowKit
set_option maxRecDepth 10000

/-- what MarkOf answers -/
def markE (e : En) : Mk := if (packE e).2 = 0 then ⟨e.opn, e.view, (chainOf (BitVec.ofNat 64 e.parent) (packE e).1).toNat⟩ else mk0
theorem wp_store_st {P : Program} {o : Oper} {a : Act} {w : World} {K : Act → World → Prop} {Q : Exit → Act → World → Prop} {T : TypeId} (x y : Operand) (ho : o.op = .store T x y) {n : Nat} (hn : (P.info? T).map (·.size) = some n)
    (g : Nat) (cs0 cs : Array Value) (hx : a.eval x = .pointer (some ⟨g, 0, none⟩)) (hy : a.eval y = .agg cs) (hrow : Row w g T cs0.toList) (h0 : cs0.size = n) (h1 : cs.size = n) (hone : cs.all (·.oneCell') = true)
    (hK : ∀ w', Row w' g T cs.toList → w.grownBy w' (some g) → K (a.put o.dst undef) w') : o.wp P a w K Q :=
  wp_store_row T x y ho g cs hx hy T cs0 hrow.arr (by rw [hn, h1]) (by simp [h0, h1]) (by simpa using hone)
    (hK _ (by
      have := setRow_heap w g cs0 cs T (0, 0) hrow.arr
      simpa [Row] using this) (grownBy_setRow w g _))
set_option maxHeartbeats 1000000 in
theorem emark_no (view opn under : Int) (parent : Nat) (client session request oper : Int) (body : ByteArray) (T : ByteArray) (f : Int) (w : World) (hf : Fd w) (h0 : (f != 0) = true)
    (HP : Hid (∀ W : World, Fd W → Calls Tryz.prog 72 #[.agg #[.int .i64 view, .int .i64 opn, .int .i64 under, .int .u64 (parent : Int), .int .i64 client, .int .i64 session, .int .i64 request, .int .i64 oper, .string body]] W fun x W' => x = .returned (.tuple #[.string T, .int .i64 f]) ∧ Below W.heap.size W W')) :
    Calls Tryz.prog 85 #[.agg #[.int .i64 view, .int .i64 opn, .int .i64 under, .int .u64 (parent : Int), .int .i64 client, .int .i64 session, .int .i64 request, .int .i64 oper, .string body]] w (VE w (.agg #[.int .i64 0, .int .i64 0, .int .u64 0])) := by
  have HZ := hid esize
  have HZM := hid msize
  have HB0 : Hid (Below w.heap.size w ((w.alloc (.cells #[.int .i64 view, .int .i64 opn, .int .i64 under, .int .u64 (parent : Int), .int .i64 client, .int .i64 session, .int .i64 request, .int .i64 oper, .string body] 28)).alloc (.cells #[.int .i64 0, .int .i64 0, .int .u64 0] 25))) := hid (((Below.refl w.heap.size w).alloc (Nat.le_refl _) _).alloc (by simp) _)
  have HE0 : Hid (Row ((w.alloc (.cells #[.int .i64 view, .int .i64 opn, .int .i64 under, .int .u64 (parent : Int), .int .i64 client, .int .i64 session, .int .i64 request, .int .i64 oper, .string body] 28)).alloc (.cells #[.int .i64 0, .int .i64 0, .int .u64 0] 25)) w.heap.size 28 (#[.int .i64 view, .int .i64 opn, .int .i64 under, .int .u64 (parent : Int), .int .i64 client, .int .i64 session, .int .i64 request, .int .i64 oper, .string body] : Array Value).toList) := hid ((Row.new _ _ _).alloc _)
  have HM0 : Hid (Row ((w.alloc (.cells #[.int .i64 view, .int .i64 opn, .int .i64 under, .int .u64 (parent : Int), .int .i64 client, .int .i64 session, .int .i64 request, .int .i64 oper, .string body] 28)).alloc (.cells #[.int .i64 0, .int .i64 0, .int .u64 0] 25)) (w.heap.size + 1) 25 (#[.int .i64 0, .int .i64 0, .int .u64 0] : Array Value).toList) := hid (by
    have := Row.new (w.alloc (.cells #[.int .i64 view, .int .i64 opn, .int .i64 under, .int .u64 (parent : Int), .int .i64 client, .int .i64 session, .int .i64 request, .int .i64 oper, .string body] 28)) 25 #[.int .i64 0, .int .i64 0, .int .u64 0]
    simpa using this)
  have HF := hid hf
  clear hf
  go_enter Tryz.func85, Tryz.ntmps85
  go_wp2_with (first
    | (go_at_call 72; refine (HP.out _ (HF.out.below HB0.out HF.out.1)).mono ?_; rintro e w1 ⟨rfl, hb1⟩; have hbb := HB0.out.trans (hb1.mono HB0.out.size); have he := HE0.out.below hb1 HE0.out.lt; have hm := HM0.out.below hb1 HM0.out.lt; clear hb1)
    | (refine wpl_store_st rfl (.tmp 2) (.tmp 12) rfl HZM.out (w.heap.size + 1) #[.int .i64 0, .int .i64 0, .int .u64 0] #[.int .i64 0, .int .i64 0, .int .u64 0] rfl rfl hm ?_ (hid rfl) (hid rfl) (hid (by simp [Value.oneCell'])); intro wz hrz hgz; have HBZ := hid (hbb.trans (below_grown hgz (by omega) hbb.size)); clear hgz))
  refine bodyPost_ret (v := .agg #[.int .i64 0, .int .i64 0, .int .u64 0])
    (results_cell_row rfl _ _ (w.heap.size + 1) 25 _ (0, 0) _ rfl (Row.arr (cs := #[.int .i64 0, .int .i64 0, .int .u64 0]) hrz) Tryz.underlying25 rfl HZM.out) rfl ⟨rfl, HBZ.out⟩
set_option maxHeartbeats 2000000 in
theorem emark_yes (view opn under : Int) (parent : Nat) (client session request oper : Int) (body : ByteArray) (T : ByteArray) (q : Nat) (w : World) (hf : Fd w)
    (HP : Hid (∀ W : World, Fd W → Calls Tryz.prog 72 #[.agg #[.int .i64 view, .int .i64 opn, .int .i64 under, .int .u64 (parent : Int), .int .i64 client, .int .i64 session, .int .i64 request, .int .i64 oper, .string body]] W fun x W' => x = .returned (.tuple #[.string T, .int .i64 0]) ∧ Below W.heap.size W W'))
    (HC : Hid (∀ W : World, Calls Tryz.prog 98 #[.int .u64 (parent : Int), .string T] W fun e w' => e = .returned (.int .u64 (q : Int)) ∧ Below W.heap.size W w')) :
    Calls Tryz.prog 85 #[.agg #[.int .i64 view, .int .i64 opn, .int .i64 under, .int .u64 (parent : Int), .int .i64 client, .int .i64 session, .int .i64 request, .int .i64 oper, .string body]] w (VE w (.agg #[.int .i64 opn, .int .i64 view, .int .u64 (q : Int)])) := by
  have HZ := hid esize
  have HZM := hid msize
  have HB0 : Hid (Below w.heap.size w ((w.alloc (.cells #[.int .i64 view, .int .i64 opn, .int .i64 under, .int .u64 (parent : Int), .int .i64 client, .int .i64 session, .int .i64 request, .int .i64 oper, .string body] 28)).alloc (.cells #[.int .i64 0, .int .i64 0, .int .u64 0] 25))) := hid (((Below.refl w.heap.size w).alloc (Nat.le_refl _) _).alloc (by simp) _)
  have HE0 : Hid (Row ((w.alloc (.cells #[.int .i64 view, .int .i64 opn, .int .i64 under, .int .u64 (parent : Int), .int .i64 client, .int .i64 session, .int .i64 request, .int .i64 oper, .string body] 28)).alloc (.cells #[.int .i64 0, .int .i64 0, .int .u64 0] 25)) w.heap.size 28 (#[.int .i64 view, .int .i64 opn, .int .i64 under, .int .u64 (parent : Int), .int .i64 client, .int .i64 session, .int .i64 request, .int .i64 oper, .string body] : Array Value).toList) := hid ((Row.new _ _ _).alloc _)
  have HM0 : Hid (Row ((w.alloc (.cells #[.int .i64 view, .int .i64 opn, .int .i64 under, .int .u64 (parent : Int), .int .i64 client, .int .i64 session, .int .i64 request, .int .i64 oper, .string body] 28)).alloc (.cells #[.int .i64 0, .int .i64 0, .int .u64 0] 25)) (w.heap.size + 1) 25 (#[.int .i64 0, .int .i64 0, .int .u64 0] : Array Value).toList) := hid (by
    have := Row.new (w.alloc (.cells #[.int .i64 view, .int .i64 opn, .int .i64 under, .int .u64 (parent : Int), .int .i64 client, .int .i64 session, .int .i64 request, .int .i64 oper, .string body] 28)) 25 #[.int .i64 0, .int .i64 0, .int .u64 0]
    simpa using this)
  have HF := hid hf
  clear hf
  go_enter Tryz.func85, Tryz.ntmps85
  go_wp2_with (go_at_call 72; refine (HP.out _ (HF.out.below HB0.out HF.out.1)).mono ?_; rintro e w1 ⟨rfl, hb1⟩; have hbb := HB0.out.trans (hb1.mono HB0.out.size); have he := HE0.out.below hb1 HE0.out.lt; have hm := HM0.out.below hb1 HM0.out.lt; clear hb1)
  try simp only [Act.put]
  have HBB := hid hbb
  have HEB := hid he
  have HMB := hid hm
  clear hbb he hm
  refine wp_region_held_drew (S := fun W => Below w.heap.size w W ∧ Row W w.heap.size 28 (#[.int .i64 view, .int .i64 opn, .int .i64 under, .int .u64 (parent : Int), .int .i64 client, .int .i64 session, .int .i64 request, .int .i64 oper, .string body] : Array Value).toList ∧ ∃ z : Array Value, z.size = 3 ∧ Row W (w.heap.size + 1) 25 z.toList) (by kernel_rfl) ⟨HBB.out.drew, HEB.out, #[.int .i64 0, .int .i64 0, .int .u64 0], rfl, HMB.out⟩ (fun hH => ?_)
  refine wpAnyH_take (i := 0) (v := .pointer (some ⟨w.heap.size, 1, none⟩)) rfl (by kernel_rfl) (by kernel_rfl) (by kernel_rfl) (fun _ _ _ h => h) (Or.inl ⟨by rfl, fun w' hw' => by clear hw'; go_simp⟩) hH ?_
  simp only [Act.put]
  refine wpAnyH_take (i := 1) (v := .int .i64 opn) rfl (by kernel_rfl) (by kernel_rfl) (by kernel_rfl) (fun _ _ _ h => h) (Or.inl ⟨by rfl, fun w' hw' => by have h := hw'.2.1.at_ 1 _ rfl; clear hw'; go_simp⟩) hH ?_
  simp only [Act.put]
  refine wpAnyH_take (i := 2) (v := .pointer (some ⟨w.heap.size, 0, none⟩)) rfl (by kernel_rfl) (by kernel_rfl) (by kernel_rfl) (fun _ _ _ h => h) (Or.inl ⟨by rfl, fun w' hw' => by clear hw'; go_simp⟩) hH ?_
  simp only [Act.put]
  refine wpAnyH_take (i := 3) (v := .int .i64 view) rfl (by kernel_rfl) (by kernel_rfl) (by kernel_rfl) (fun _ _ _ h => h) (Or.inl ⟨by rfl, fun w' hw' => by have h := hw'.2.1.at_ 0 _ rfl; clear hw'; go_simp⟩) hH ?_
  simp only [Act.put]
  refine wpAnyH_take (i := 4) (v := .pointer (some ⟨w.heap.size, 3, none⟩)) rfl (by kernel_rfl) (by kernel_rfl) (by kernel_rfl) (fun _ _ _ h => h) (Or.inl ⟨by rfl, fun w' hw' => by clear hw'; go_simp⟩) hH ?_
  simp only [Act.put]
  refine wpAnyH_take (i := 5) (v := .int .u64 (parent : Int)) rfl (by kernel_rfl) (by kernel_rfl) (by kernel_rfl) (fun _ _ _ h => h) (Or.inl ⟨by rfl, fun w' hw' => by have h := hw'.2.1.at_ 3 _ rfl; clear hw'; go_simp⟩) hH ?_
  simp only [Act.put]
  refine wpAnyH_take (i := 6) (v := .string T) rfl (by kernel_rfl) (by kernel_rfl) (by kernel_rfl) (fun _ _ _ h => h) (Or.inl ⟨by rfl, fun w' hw' => by clear hw'; go_simp⟩) hH ?_
  simp only [Act.put]
  refine wpAnyH_ready (rs := [7]) (by kernel_rfl) (by simp) ?_
  refine AllReadyH.cons rfl (fun K hK => ?_) AllReadyH.nil
  go_simp
  go_at_call 98
  refine (HC.out _).mono ?_
  rintro e w2 ⟨rfl, hb2⟩
  go_wp2_with fail
  refine hK.out _ _ (⟨hH.1.trans (Below.mono hb2 hH.1.size), Row.below hH.2.1 hb2 hH.2.1.lt, hH.2.2.elim fun z h => ⟨z, h.1, Row.below h.2 hb2 h.2.lt⟩⟩) (fun hH => ?_)
  clear hK K
  try simp only [Act.put]
  refine wpAnyH_take (i := 8) (v := .agg #[.int .i64 opn, .int .i64 view, .int .u64 (q : Int)]) rfl (by kernel_rfl) (by kernel_rfl) (by kernel_rfl) (fun _ _ _ h => h) (Or.inl ⟨by rfl, fun w' hw' => by clear hw'; go_simp⟩) hH ?_
  simp only [Act.put]
  refine wpAnyH_ready (rs := [9]) (by kernel_rfl) (by simp) ?_
  refine AllReadyH.cons rfl (fun K hK => ?_) AllReadyH.nil
  obtain ⟨hb8, he8, z, hz8, hm8⟩ := hH
  rw [if_pos (by kernel_rfl)]
  refine wp_store_st (.tmp 2) (.tmp 21) rfl HZM.out (w.heap.size + 1) z #[.int .i64 opn, .int .i64 view, .int .u64 (q : Int)] rfl rfl hm8 hz8 rfl (by simp [Value.oneCell']) (fun w9 hr9 hg9 => ?_)
  have hb9 : Below w.heap.size w w9 := hb8.trans (below_grown hg9 (by omega) hb8.size)
  refine hK.out _ _ ⟨hb9, he8.grown hg9 (by intro e; have := Option.some.inj e; omega), _, rfl, hr9⟩ (fun hH => ?_)
  clear hK K
  try simp only [Act.put]
  refine wpAnyH_done (by kernel_rfl) ?_ _
  try simp only [Act.put]
  go_wp2_with fail
  refine bodyPost_ret (v := .agg #[.int .i64 opn, .int .i64 view, .int .u64 (q : Int)])
    (results_cell_row rfl _ _ (w.heap.size + 1) 25 _ (0, 0) _ rfl (Row.arr (cs := #[.int .i64 opn, .int .i64 view, .int .u64 (q : Int)]) hr9) Tryz.underlying25 rfl HZM.out) rfl ⟨rfl, hb9⟩
set_option maxHeartbeats 1000000 in
theorem rmark_no (view opn under : Int) (parent : Nat) (client session request oper : Int) (body : ByteArray) (T : ByteArray) (f : Int) (w : World) (h0 : (f != 0) = true)
    (HP : Hid (∀ W : World, Calls Tryz.prog 62 #[.agg #[.int .i64 view, .int .i64 opn, .int .i64 under, .int .u64 (parent : Int), .int .i64 client, .int .i64 session, .int .i64 request, .int .i64 oper, .string body]] W fun x W' => x = .returned (.tuple #[.string T, .int .i64 f]) ∧ Below W.heap.size W W')) :
    Calls Tryz.prog 64 #[.agg #[.int .i64 view, .int .i64 opn, .int .i64 under, .int .u64 (parent : Int), .int .i64 client, .int .i64 session, .int .i64 request, .int .i64 oper, .string body]] w (VE w (.agg #[.int .i64 0, .int .i64 0, .int .u64 0])) := by
  have HZ := hid esize
  have HZM := hid msize
  have HB0 : Hid (Below w.heap.size w ((w.alloc (.cells #[.int .i64 view, .int .i64 opn, .int .i64 under, .int .u64 (parent : Int), .int .i64 client, .int .i64 session, .int .i64 request, .int .i64 oper, .string body] 28)).alloc (.cells #[.int .i64 0, .int .i64 0, .int .u64 0] 25))) := hid (((Below.refl w.heap.size w).alloc (Nat.le_refl _) _).alloc (by simp) _)
  have HE0 : Hid (Row ((w.alloc (.cells #[.int .i64 view, .int .i64 opn, .int .i64 under, .int .u64 (parent : Int), .int .i64 client, .int .i64 session, .int .i64 request, .int .i64 oper, .string body] 28)).alloc (.cells #[.int .i64 0, .int .i64 0, .int .u64 0] 25)) w.heap.size 28 (#[.int .i64 view, .int .i64 opn, .int .i64 under, .int .u64 (parent : Int), .int .i64 client, .int .i64 session, .int .i64 request, .int .i64 oper, .string body] : Array Value).toList) := hid ((Row.new _ _ _).alloc _)
  have HM0 : Hid (Row ((w.alloc (.cells #[.int .i64 view, .int .i64 opn, .int .i64 under, .int .u64 (parent : Int), .int .i64 client, .int .i64 session, .int .i64 request, .int .i64 oper, .string body] 28)).alloc (.cells #[.int .i64 0, .int .i64 0, .int .u64 0] 25)) (w.heap.size + 1) 25 (#[.int .i64 0, .int .i64 0, .int .u64 0] : Array Value).toList) := hid (by
    have := Row.new (w.alloc (.cells #[.int .i64 view, .int .i64 opn, .int .i64 under, .int .u64 (parent : Int), .int .i64 client, .int .i64 session, .int .i64 request, .int .i64 oper, .string body] 28)) 25 #[.int .i64 0, .int .i64 0, .int .u64 0]
    simpa using this)
  go_enter Tryz.func64, Tryz.ntmps64
  go_wp2_with (first
    | (go_at_call 62; refine (HP.out _).mono ?_; rintro e w1 ⟨rfl, hb1⟩; have hbb := HB0.out.trans (hb1.mono HB0.out.size); have he := HE0.out.below hb1 HE0.out.lt; have hm := HM0.out.below hb1 HM0.out.lt; clear hb1)
    | (refine wpl_store_st rfl (.tmp 2) (.tmp 12) rfl HZM.out (w.heap.size + 1) #[.int .i64 0, .int .i64 0, .int .u64 0] #[.int .i64 0, .int .i64 0, .int .u64 0] rfl rfl hm ?_ (hid rfl) (hid rfl) (hid (by simp [Value.oneCell'])); intro wz hrz hgz; have HBZ := hid (hbb.trans (below_grown hgz (by omega) hbb.size)); clear hgz))
  refine bodyPost_ret (v := .agg #[.int .i64 0, .int .i64 0, .int .u64 0])
    (results_cell_row rfl _ _ (w.heap.size + 1) 25 _ (0, 0) _ rfl (Row.arr (cs := #[.int .i64 0, .int .i64 0, .int .u64 0]) hrz) Tryz.underlying25 rfl HZM.out) rfl ⟨rfl, HBZ.out⟩
set_option maxHeartbeats 2000000 in
theorem rmark_yes (view opn under : Int) (parent : Nat) (client session request oper : Int) (body : ByteArray) (T : ByteArray) (q : Nat) (w : World)
    (HP : Hid (∀ W : World, Calls Tryz.prog 62 #[.agg #[.int .i64 view, .int .i64 opn, .int .i64 under, .int .u64 (parent : Int), .int .i64 client, .int .i64 session, .int .i64 request, .int .i64 oper, .string body]] W fun x W' => x = .returned (.tuple #[.string T, .int .i64 0]) ∧ Below W.heap.size W W'))
    (HC : Hid (∀ W : World, Calls Tryz.prog 91 #[.int .u64 (parent : Int), .string T] W fun e w' => e = .returned (.int .u64 (q : Int)) ∧ W = w')) :
    Calls Tryz.prog 64 #[.agg #[.int .i64 view, .int .i64 opn, .int .i64 under, .int .u64 (parent : Int), .int .i64 client, .int .i64 session, .int .i64 request, .int .i64 oper, .string body]] w (VE w (.agg #[.int .i64 opn, .int .i64 view, .int .u64 (q : Int)])) := by
  have HZ := hid esize
  have HZM := hid msize
  have HB0 : Hid (Below w.heap.size w ((w.alloc (.cells #[.int .i64 view, .int .i64 opn, .int .i64 under, .int .u64 (parent : Int), .int .i64 client, .int .i64 session, .int .i64 request, .int .i64 oper, .string body] 28)).alloc (.cells #[.int .i64 0, .int .i64 0, .int .u64 0] 25))) := hid (((Below.refl w.heap.size w).alloc (Nat.le_refl _) _).alloc (by simp) _)
  have HE0 : Hid (Row ((w.alloc (.cells #[.int .i64 view, .int .i64 opn, .int .i64 under, .int .u64 (parent : Int), .int .i64 client, .int .i64 session, .int .i64 request, .int .i64 oper, .string body] 28)).alloc (.cells #[.int .i64 0, .int .i64 0, .int .u64 0] 25)) w.heap.size 28 (#[.int .i64 view, .int .i64 opn, .int .i64 under, .int .u64 (parent : Int), .int .i64 client, .int .i64 session, .int .i64 request, .int .i64 oper, .string body] : Array Value).toList) := hid ((Row.new _ _ _).alloc _)
  have HM0 : Hid (Row ((w.alloc (.cells #[.int .i64 view, .int .i64 opn, .int .i64 under, .int .u64 (parent : Int), .int .i64 client, .int .i64 session, .int .i64 request, .int .i64 oper, .string body] 28)).alloc (.cells #[.int .i64 0, .int .i64 0, .int .u64 0] 25)) (w.heap.size + 1) 25 (#[.int .i64 0, .int .i64 0, .int .u64 0] : Array Value).toList) := hid (by
    have := Row.new (w.alloc (.cells #[.int .i64 view, .int .i64 opn, .int .i64 under, .int .u64 (parent : Int), .int .i64 client, .int .i64 session, .int .i64 request, .int .i64 oper, .string body] 28)) 25 #[.int .i64 0, .int .i64 0, .int .u64 0]
    simpa using this)
  go_enter Tryz.func64, Tryz.ntmps64
  go_wp2_with (go_at_call 62; refine (HP.out _).mono ?_; rintro e w1 ⟨rfl, hb1⟩; have hbb := HB0.out.trans (hb1.mono HB0.out.size); have he := HE0.out.below hb1 HE0.out.lt; have hm := HM0.out.below hb1 HM0.out.lt; clear hb1)
  try simp only [Act.put]
  have HBB := hid hbb
  have HEB := hid he
  have HMB := hid hm
  clear hbb he hm
  refine wp_region_held_drew (S := fun W => Below w.heap.size w W ∧ Row W w.heap.size 28 (#[.int .i64 view, .int .i64 opn, .int .i64 under, .int .u64 (parent : Int), .int .i64 client, .int .i64 session, .int .i64 request, .int .i64 oper, .string body] : Array Value).toList ∧ ∃ z : Array Value, z.size = 3 ∧ Row W (w.heap.size + 1) 25 z.toList) (by kernel_rfl) ⟨HBB.out.drew, HEB.out, #[.int .i64 0, .int .i64 0, .int .u64 0], rfl, HMB.out⟩ (fun hH => ?_)
  refine wpAnyH_take (i := 0) (v := .pointer (some ⟨w.heap.size, 1, none⟩)) rfl (by kernel_rfl) (by kernel_rfl) (by kernel_rfl) (fun _ _ _ h => h) (Or.inl ⟨by rfl, fun w' hw' => by clear hw'; go_simp⟩) hH ?_
  simp only [Act.put]
  refine wpAnyH_take (i := 1) (v := .int .i64 opn) rfl (by kernel_rfl) (by kernel_rfl) (by kernel_rfl) (fun _ _ _ h => h) (Or.inl ⟨by rfl, fun w' hw' => by have h := hw'.2.1.at_ 1 _ rfl; clear hw'; go_simp⟩) hH ?_
  simp only [Act.put]
  refine wpAnyH_take (i := 2) (v := .pointer (some ⟨w.heap.size, 0, none⟩)) rfl (by kernel_rfl) (by kernel_rfl) (by kernel_rfl) (fun _ _ _ h => h) (Or.inl ⟨by rfl, fun w' hw' => by clear hw'; go_simp⟩) hH ?_
  simp only [Act.put]
  refine wpAnyH_take (i := 3) (v := .int .i64 view) rfl (by kernel_rfl) (by kernel_rfl) (by kernel_rfl) (fun _ _ _ h => h) (Or.inl ⟨by rfl, fun w' hw' => by have h := hw'.2.1.at_ 0 _ rfl; clear hw'; go_simp⟩) hH ?_
  simp only [Act.put]
  refine wpAnyH_take (i := 4) (v := .pointer (some ⟨w.heap.size, 3, none⟩)) rfl (by kernel_rfl) (by kernel_rfl) (by kernel_rfl) (fun _ _ _ h => h) (Or.inl ⟨by rfl, fun w' hw' => by clear hw'; go_simp⟩) hH ?_
  simp only [Act.put]
  refine wpAnyH_take (i := 5) (v := .int .u64 (parent : Int)) rfl (by kernel_rfl) (by kernel_rfl) (by kernel_rfl) (fun _ _ _ h => h) (Or.inl ⟨by rfl, fun w' hw' => by have h := hw'.2.1.at_ 3 _ rfl; clear hw'; go_simp⟩) hH ?_
  simp only [Act.put]
  refine wpAnyH_take (i := 6) (v := .string T) rfl (by kernel_rfl) (by kernel_rfl) (by kernel_rfl) (fun _ _ _ h => h) (Or.inl ⟨by rfl, fun w' hw' => by clear hw'; go_simp⟩) hH ?_
  simp only [Act.put]
  refine wpAnyH_ready (rs := [7]) (by kernel_rfl) (by simp) ?_
  refine AllReadyH.cons rfl (fun K hK => ?_) AllReadyH.nil
  go_simp
  go_at_call 91
  refine (HC.out _).mono ?_
  rintro e w2 ⟨rfl, rfl⟩
  go_wp2_with fail
  refine hK.out _ _ (hH) (fun hH => ?_)
  clear hK K
  try simp only [Act.put]
  refine wpAnyH_take (i := 8) (v := .agg #[.int .i64 opn, .int .i64 view, .int .u64 (q : Int)]) rfl (by kernel_rfl) (by kernel_rfl) (by kernel_rfl) (fun _ _ _ h => h) (Or.inl ⟨by rfl, fun w' hw' => by clear hw'; go_simp⟩) hH ?_
  simp only [Act.put]
  refine wpAnyH_ready (rs := [9]) (by kernel_rfl) (by simp) ?_
  refine AllReadyH.cons rfl (fun K hK => ?_) AllReadyH.nil
  obtain ⟨hb8, he8, z, hz8, hm8⟩ := hH
  rw [if_pos (by kernel_rfl)]
  refine wp_store_st (.tmp 2) (.tmp 21) rfl HZM.out (w.heap.size + 1) z #[.int .i64 opn, .int .i64 view, .int .u64 (q : Int)] rfl rfl hm8 hz8 rfl (by simp [Value.oneCell']) (fun w9 hr9 hg9 => ?_)
  have hb9 : Below w.heap.size w w9 := hb8.trans (below_grown hg9 (by omega) hb8.size)
  refine hK.out _ _ ⟨hb9, he8.grown hg9 (by intro e; have := Option.some.inj e; omega), _, rfl, hr9⟩ (fun hH => ?_)
  clear hK K
  try simp only [Act.put]
  refine wpAnyH_done (by kernel_rfl) ?_ _
  try simp only [Act.put]
  go_wp2_with fail
  refine bodyPost_ret (v := .agg #[.int .i64 opn, .int .i64 view, .int .u64 (q : Int)])
    (results_cell_row rfl _ _ (w.heap.size + 1) 25 _ (0, 0) _ rfl (Row.arr (cs := #[.int .i64 opn, .int .i64 view, .int .u64 (q : Int)]) hr9) Tryz.underlying25 rfl HZM.out) rfl ⟨rfl, hb9⟩
theorem emark_any (e : En) (he : e.fits) (w : World) (hf : Fd w) : Calls Tryz.prog 85 #[e.val] w (VE w (markE e).val) := by
  have HP := hid (fun W hW => epack_any e W hW)
  unfold markE
  have hp : (BitVec.ofNat 64 e.parent).toNat = e.parent := by
    rw [BitVec.toNat_ofNat]
    exact Nat.mod_eq_of_lt he.2.2
  by_cases h0 : (packE e).2 = 0
  · rw [if_pos h0]
    have hl := packE_len (e := e) (s := (packE e).1) (by rw [← h0])
    have HC := hid (fun W => chain_calls (BitVec.ofNat 64 e.parent) ⟨(packE e).1.toArray⟩ W (by rw [← sb_len, sb_mk]; omega))
    rw [hp, sb_mk] at HC
    generalize (chainOf (BitVec.ofNat 64 e.parent) (packE e).1).toNat = q at *
    clear hl
    generalize packE e = r at *
    obtain ⟨rl, rf⟩ := r
    simp only at h0
    subst h0
    obtain ⟨view, opn, under, parent, client, session, request, oper, body⟩ := e
    exact emark_yes view opn under parent client session request oper body ⟨rl.toArray⟩ q w hf HP HC
  · rw [if_neg h0]
    generalize packE e = r at *
    obtain ⟨view, opn, under, parent, client, session, request, oper, body⟩ := e
    exact emark_no view opn under parent client session request oper body ⟨r.1.toArray⟩ r.2 w hf (by simpa using h0) HP
theorem rmark_any (e : En) (he : e.fits) (w : World) : Calls Tryz.prog 64 #[e.val] w (VE w (markE e).val) := by
  have HP := hid (fun W => rpack9_any e he W)
  unfold markE
  have hp : (BitVec.ofNat 64 e.parent).toNat = e.parent := by
    rw [BitVec.toNat_ofNat]
    exact Nat.mod_eq_of_lt he.2.2
  by_cases h0 : (packE e).2 = 0
  · rw [if_pos h0]
    have hl := packE_len (e := e) (s := (packE e).1) (by rw [← h0])
    have HC := hid (fun W => rchain_calls (BitVec.ofNat 64 e.parent) ⟨(packE e).1.toArray⟩ W (by rw [← sb_len, sb_mk]; omega))
    rw [hp, sb_mk] at HC
    generalize (chainOf (BitVec.ofNat 64 e.parent) (packE e).1).toNat = q at *
    clear hl
    generalize packE e = r at *
    obtain ⟨rl, rf⟩ := r
    simp only at h0
    subst h0
    obtain ⟨view, opn, under, parent, client, session, request, oper, body⟩ := e
    exact rmark_yes view opn under parent client session request oper body ⟨rl.toArray⟩ q w HP HC
  · rw [if_neg h0]
    generalize packE e = r at *
    obtain ⟨view, opn, under, parent, client, session, request, oper, body⟩ := e
    exact rmark_no view opn under parent client session request oper body ⟨r.1.toArray⟩ r.2 w (by simpa using h0) HP
end Go.Proofs.YtcildaeiogdfdaaGreatDoor
/-
  Plain words on slots: stubs, their numbers, their bytes; what a sector has; what two sectors say together.
-/
namespace Go.Proofs.YtcildaeiogdfdaaGreatDoor
open Go.RowKit
set_option maxRecDepth 10000

theorem sg_in64 (n : Nat) : In64 (sg n) := by
  unfold In64 sg wrap64
  omega
/-- a stub -/
structure St where
  opn : Int
  view : Int
  under : Int
  parent : Nat
  sum : Nat
deriving DecidableEq
def St.cells (s : St) : Array Value := #[.int .i64 s.opn, .int .i64 s.view, .int .i64 s.under, .int .u64 (s.parent : Int), .int .u64 (s.sum : Int)]
def St.val (s : St) : Value := .agg s.cells
def st0 : St := ⟨0, 0, 0, 0, 0⟩
abbrev U64 (n : Nat) : Prop := n < 18446744073709551616
/-- of the machine's -/
def St.fits (s : St) : Prop := (In64 s.opn ∧ In64 s.view ∧ In64 s.under) ∧ U64 s.parent ∧ U64 s.sum
theorem st0_fits : st0.fits := by unfold St.fits st0 In64 U64; simp
/-- its numbers -/
def St.nums (s : St) : List Nat := [un s.opn, un s.view, un s.under, s.parent, s.sum]
theorem snums_len (s : St) : s.nums.length = 5 := rfl
theorem snums_lt (s : St) (h : s.fits) : ∀ n ∈ s.nums, n < 18446744073709551616 := by
  obtain ⟨-, a0, a1⟩ := h
  intro n hn
  simp only [St.nums, List.mem_cons, List.not_mem_nil, or_false] at hn
  rcases hn with rfl | rfl | rfl | rfl | rfl <;> first | exact un_lt _ | assumption
/-- the bytes of numbers -/
def nb : List Nat → List UInt8
  | [] => []
  | n :: r => le n 8 ++ nb r
theorem nb_len : ∀ l, (nb l).length = 8 * l.length
  | [] => rfl
  | n :: r => by simp [nb, le_len, nb_len r]; omega
theorem nb_app : ∀ a b, nb (a ++ b) = nb a ++ nb b
  | [], b => rfl
  | n :: r, b => by simp [nb, nb_app r b]
/-- the numbers of bytes -/
def tn (b : List UInt8) (k : Nat) : Nat := leV ((b.drop (8 * k)).take 8)
def takeT (b : List UInt8) : List Nat := (List.range 5).map (tn b)
theorem takeT_len (b : List UInt8) : (takeT b).length = 5 := by simp [takeT]
theorem leV8_lt (l : List UInt8) (h : l.length ≤ 8) : leV l < 18446744073709551616 := by
  have h1 : ∀ m : List UInt8, leV m < 2 ^ (8 * m.length) := by
    intro m
    induction m with
    | nil => simp [leV]
    | cons b r ih =>
      have := UInt8.toNat_lt b
      have e : 2 ^ (8 * (r.length + 1)) = 256 * 2 ^ (8 * r.length) := by rw [show 8 * (r.length + 1) = 8 + 8 * r.length by omega, Nat.pow_add]
      simp only [leV, List.length_cons, e]
      omega
  exact Nat.lt_of_lt_of_le (h1 l) (Nat.le_trans (Nat.pow_le_pow_right (by omega) (show 8 * l.length ≤ 64 by omega)) (by decide))
theorem tn_lt (b : List UInt8) (k : Nat) : tn b k < 18446744073709551616 := leV8_lt _ (by simp; omega)
theorem takeT_lt (b : List UInt8) : ∀ n ∈ takeT b, n < 18446744073709551616 := by
  intro n hn
  simp only [takeT, List.mem_map] at hn
  obtain ⟨k, _, rfl⟩ := hn
  exact tn_lt b k
/-- the stub of numbers -/
def stOf (l : List Nat) : St := ⟨sg (l.getD 0 0), sg (l.getD 1 0), sg (l.getD 2 0), l.getD 3 0, l.getD 4 0⟩
theorem list5 (l : List Nat) (h : l.length = 5) : ∃ a b c d e, l = [a, b, c, d, e] := by
  match l, h with
  | [a, b, c, d, e], _ => exact ⟨a, b, c, d, e, rfl⟩
theorem nums_stOf (s : St) (h : s.fits) : stOf s.nums = s := by
  obtain ⟨⟨a0, a1, a2⟩, -, -⟩ := h
  obtain ⟨opn, view, under, parent, sum⟩ := s
  show St.mk (sg (un opn)) (sg (un view)) (sg (un under)) parent sum = _
  rw [sg_un a0, sg_un a1, sg_un a2]
theorem stOf_fits (l : List Nat) (h : l.length = 5) (h2 : ∀ n ∈ l, n < 18446744073709551616) : (stOf l).fits := by
  obtain ⟨a, b, c, d, e, rfl⟩ := list5 l h
  simp only [List.mem_cons, List.not_mem_nil, or_false, forall_eq_or_imp, forall_eq] at h2
  obtain ⟨u0, u1, u2, u3, u4⟩ := h2
  exact ⟨⟨sg_in64 _, sg_in64 _, sg_in64 _⟩, u3, u4⟩
/-- its bytes -/
def St.bytes (s : St) : List UInt8 := nb s.nums
theorem sbytes_len (s : St) : s.bytes.length = 40 := by rw [St.bytes, nb_len, snums_len]
theorem tn_app (x : List UInt8) (r : List UInt8) (k : Nat) (hx : x.length = 8) : tn (x ++ r) (k + 1) = tn r k := by
  unfold tn
  rw [show 8 * (k + 1) = 8 + 8 * k by omega, ← List.drop_drop, ← hx, List.drop_left]
theorem tn_zero (n : Nat) (r : List UInt8) (hn : n < 18446744073709551616) : tn (le n 8 ++ r) 0 = n := by
  unfold tn
  rw [Nat.mul_zero, List.drop_zero, List.take_append_of_le_length (by rw [le_len]; omega), List.take_of_length_le (by rw [le_len]; omega)]
  exact leV_le 8 n (Nat.div_eq_of_lt (by simpa using hn))
theorem tn_nb : ∀ (l : List Nat) (k : Nat) (h : k < l.length), (∀ n ∈ l, n < 18446744073709551616) → tn (nb l) k = l[k]
  | n :: r, 0, _, hl => by simp only [nb, List.getElem_cons_zero]; exact tn_zero n _ (hl n (by simp))
  | n :: r, k + 1, h, hl => by
    simp only [nb, List.getElem_cons_succ]
    rw [tn_app _ _ _ (le_len 8 n)]
    exact tn_nb r k (by simpa using h) (fun m hm => hl m (by simp [hm]))
theorem takeT_nb (l : List Nat) (h : l.length = 5) (hl : ∀ n ∈ l, n < 18446744073709551616) : takeT (nb l) = l := by
  apply List.ext_getElem
  · rw [takeT_len, h]
  · intro k h1 h2
    simp only [takeT, List.getElem_map, List.getElem_range]
    exact tn_nb l k h2 hl
/-- may it be? -/
def SRt (s : St) : Prop := (1 ≤ s.opn ∧ s.opn ≤ 72057594037927935) ∧ 0 ≤ s.under ∧ s.under ≤ s.view ∧ s.view ≤ 72057594037927935
instance (s : St) : Decidable (SRt s) := by unfold SRt; infer_instance
/-- what packStub answers -/
def packT (s : St) : List UInt8 × Int := if SRt s then (s.bytes, 0) else ([], 4)
theorem packE_rt {e : En} (he : e.fits) (h : Rt e) : (packE e).2 = 0 ∧ (packE e).1.length = 128 + e.body.size ∧ e.body.size ≤ 200 := by
  have h1 := packS_rt he h
  have h2 : packE e = packS (hof e) (sb e.body) := if_pos h
  have h3 : (e.body.size : Int) ≤ 200 := h.2.2.2.2.2.2.2.2
  have h4 := packS_yes (body := sb e.body) h1.1 (by rw [sb_len]; omega)
  have h5 : packE e = ((packE e).1, 0) := by rw [h2, h4]
  exact ⟨by rw [h5], (packE_len h5).1, by omega⟩
/-- an entry's stub -/
def stubS (e : En) : St := if Rt e then ⟨e.opn, e.view, e.under, e.parent, (markE e).sum⟩ else st0
theorem markE_sum (e : En) : U64 (markE e).sum := by
  unfold markE
  split
  · exact (chainOf _ _).isLt
  · show 0 < _
    decide
theorem stubS_fits {e : En} (he : e.fits) : (stubS e).fits := by
  unfold stubS
  split
  · exact ⟨⟨he.1.2.1, he.1.1, he.1.2.2.1⟩, he.2.2, markE_sum e⟩
  · exact st0_fits
theorem stubS_rt {e : En} (h : Rt e) : stubS e = ⟨e.opn, e.view, e.under, e.parent, (markE e).sum⟩ := if_pos h
def hdrS (old : List UInt8) (s : St) : List UInt8 × Int := if SRt s then sealS old s.bytes else ([], 4)
/-- a slot's -/
structure It where
  kind : Int
  stub : St
  entry : En
def It.cells (i : It) : Array Value := #[.int .i64 i.kind, .int .i64 i.stub.opn, .int .i64 i.stub.view, .int .i64 i.stub.under, .int .u64 (i.stub.parent : Int), .int .u64 (i.stub.sum : Int), .int .i64 i.entry.view, .int .i64 i.entry.opn, .int .i64 i.entry.under, .int .u64 (i.entry.parent : Int), .int .i64 i.entry.client, .int .i64 i.entry.session, .int .i64 i.entry.request, .int .i64 i.entry.oper, .string i.entry.body]
def It.val (i : It) : Value := .agg i.cells
def it0 : It := ⟨0, st0, en0⟩
end Go.Proofs.YtcildaeiogdfdaaGreatDoor
/-
  The walks of package slot's right, numbers, stubOf.
-/
namespace Go.Proofs.YtcildaeiogdfdaaGreatDoor
open Go.RowKit
set_option maxRecDepth 10000

theorem srt_bool (s : St) : decide (SRt s) = (decide (1 ≤ s.opn) && decide (s.opn ≤ 72057594037927935) && decide (0 ≤ s.under) && decide (s.under ≤ s.view) && decide (s.view ≤ 72057594037927935)) := by
  rw [Bool.eq_iff_iff, decide_eq_true_iff]
  unfold SRt
  simp only [Bool.and_eq_true, decide_eq_true_eq]
  constructor
  · rintro ⟨⟨h1, h2⟩, h3, h4, h5⟩
    exact ⟨⟨⟨⟨h1, h2⟩, h3⟩, h4⟩, h5⟩
  · rintro ⟨⟨⟨⟨h1, h2⟩, h3⟩, h4⟩, h5⟩
    exact ⟨⟨h1, h2⟩, h3, h4, h5⟩
set_option maxHeartbeats 2000000 in
theorem sright_any (s : St) (w : World) : Calls Tryz.prog 106 #[s.val] w (VE w (.bool (decide (SRt s)))) := by
  rw [srt_bool]
  obtain ⟨opn, view, under, parent, sum⟩ := s
  show Calls Tryz.prog 106 #[.agg #[.int .i64 opn, .int .i64 view, .int .i64 under, .int .u64 (parent : Int), .int .u64 (sum : Int)]] w (VE w (.bool (decide (1 ≤ opn) && decide (opn ≤ 72057594037927935) && decide (0 ≤ under) && decide (under ≤ view) && decide (view ≤ 72057594037927935))))
  generalize hb1 : decide (1 ≤ opn) = b1
  generalize hb2 : decide (opn ≤ 72057594037927935) = b2
  generalize hb3 : decide (0 ≤ under) = b3
  generalize hb4 : decide (under ≤ view) = b4
  generalize hb5 : decide (view ≤ 72057594037927935) = b5
  cases b1 <;> (try cases b2) <;> (try cases b3) <;> (try cases b4) <;> (
    go_enter Tryz.func106, Tryz.ntmps106
    go_wp2_with fail
    go_ret
    refine ⟨by first | rfl | simp [*] | (simp_all; done), (Below.refl _ _).alloc (Nat.le_refl _) _⟩)
theorem stsize : (Tryz.prog.info? 60).map (·.size) = some 5 := by kernel_rfl
set_option maxHeartbeats 1000000 in
theorem snumbers_any (s : St) (w : World) : Calls Tryz.prog 107 #[s.val] w (VE w (.agg (av s.nums).toArray)) := by
  obtain ⟨opn, view, under, parent, sum⟩ := s
  show Calls Tryz.prog 107 #[.agg #[.int .i64 opn, .int .i64 view, .int .i64 under, .int .u64 (parent : Int), .int .u64 (sum : Int)]] w (VE w (.agg #[.int .u64 ((un opn : Nat) : Int), .int .u64 ((un view : Nat) : Int), .int .u64 ((un under : Nat) : Int), .int .u64 (parent : Int), .int .u64 (sum : Int)]))
  simp only [← un_wrap]
  go_enter Tryz.func107, Tryz.ntmps107
  go_wp2_with fail
  exact bodyPost_ret (results_cell_row rfl _ _ (w.heap.size + 1) 142 _ (0, 0) _ rfl (alloc2_new _ _ _) Tryz.underlying142 rfl (by kernel_rfl)) rfl ⟨rfl, ((Below.refl _ _).alloc (Nat.le_refl _) _).alloc (by simp) _⟩
end Go.Proofs.YtcildaeiogdfdaaGreatDoor
/-
  The walk of package slot's packStub.
-/
namespace Go.Proofs.YtcildaeiogdfdaaGreatDoor
open Go.RowKit
set_option maxRecDepth 10000

theorem nb_take (l : List Nat) (k : Nat) (h : k < l.length) : nb (l.take (k + 1)) = nb (l.take k) ++ le l[k] 8 := by
  rw [List.take_succ_eq_append_getElem h, nb_app]
  simp [nb]
theorem nbt_len (l : List Nat) (k : Nat) (h : k ≤ l.length) : (nb (l.take k)).length = 8 * k := by rw [nb_len, List.length_take, Nat.min_eq_left h]
/-- Put of eight bytes -/
theorem put_eight (A : Option Addr) (bs : List UInt8) (m c n B : Nat) (W : World) (hr : Rd W B A (bvs bs)) (hm : m = bs.length) (hn : U64 n) (hB : B ≤ W.heap.size) (hl : m ≤ 140737488351232) :
    Calls Tryz.prog 71 #[.slice A m c, .int .u64 (n : Int), .int .i64 8] W
    fun e w' => ∃ A c, e = .returned (.tuple #[.slice A (m + 8) c, .int .i64 0]) ∧ w'.ownsRow W.heap.size 5 1 (.slice A (m + 8) c) (m + 8) (bvs (bs ++ le n 8)) ∧ Below W.heap.size W w' := by
  subst hm
  have h := put_any A bs bs.length c n B 8 W hr rfl hB hl
  have e : putS bs n 8 = (bs ++ le n 8, 0) := by
    unfold putS
    rw [if_pos ⟨by omega, by omega, Nat.div_eq_of_lt (by simpa using hn)⟩]
    rfl
  rw [e] at h
  exact h.mono fun e w' hh => BE.len hh (by simp [le_len])
set_option maxHeartbeats 1000000 in
theorem spackT_any (s : St) (hf : s.fits) (w : World) : Calls Tryz.prog 103 #[s.val] w (SN w (packT s)) := by
  have HR : Hid (∀ W, Calls Tryz.prog 106 #[.agg s.cells] W (VE W (.bool (decide (SRt s))))) := hid (fun W => sright_any s W)
  have HNm : Hid (∀ W, Calls Tryz.prog 107 #[.agg s.cells] W (VE W (.agg (av s.nums).toArray))) := hid (fun W => snumbers_any s W)
  have HL := hid (snums_len s)
  have H64 : Hid (∀ k (hk : k < s.nums.length), U64 s.nums[k]) := hid (fun k hk => snums_lt s hf _ (List.getElem_mem hk))
  have HSZ : Hid (s.cells.size = 5) := hid rfl
  have e0 : packT s = if SRt s then (nb s.nums, 0) else ([], 4) := rfl
  rw [e0]
  show Calls Tryz.prog 103 #[.agg s.cells] w _
  generalize s.cells = C at *
  generalize s.nums = l at *
  by_cases h : SRt s
  · rw [decide_eq_true h] at HR
    rw [if_pos h]
    clear e0 h hf
    go_enter Tryz.func103, Tryz.ntmps103
    go_wp2_with (first
      | (refine wpList_load_row rfl 60 (.tmp 1) rfl w.heap.size rfl 60 C (0, 0) _ hrow1 Tryz.underlying60 rfl (by rw [HSZ.out]; kernel_rfl) ?_)
      | (refine wpList_load_row rfl 60 (.tmp 1) rfl w.heap.size rfl 60 C (0, 0) _ (heap_alloc_new _ _) Tryz.underlying60 rfl (by rw [HSZ.out]; kernel_rfl) ?_)
      | (go_at_call 106; refine (HR.out _).mono ?_; rintro e w1 ⟨rfl, hb1⟩; have hrow1 : w1.heap[w.heap.size]? = some (.cells C 60 (0, 0)) := (hb1.block _ (by simp)).trans (heap_alloc_new _ _))
      | (go_at_call 107; refine (HNm.out _).mono ?_; rintro e w2 ⟨rfl, hb2⟩))
    have hbe : Below w.heap.size w w2 := (((Below.refl _ _).alloc (Nat.le_refl _) _).trans (hb1.mono (by simp))).trans (hb2.mono (by have := hb1.size; simp at this; omega))
    have HB0 := hid hbe
    clear hb1 hb2 hrow1 hbe
    go_loopw [4, 12] (fun b i wr => ∃ k : Nat, k ≤ 5 ∧ i = .int .i64 k ∧ (∃ A c, b = .slice A (8 * k) c ∧ wr.ownsRow w.heap.size 5 1 (.slice A (8 * k) c) (8 * k) (bvs (nb (l.take k)))) ∧ Below w.heap.size w wr) (fun _ i _ => 5 - (intOf i).toNat)
    case atStart => exact ⟨0, by omega, rfl, ⟨none, 0, rfl, World.ownsRow_nil _ _ _ _⟩, HB0.out⟩
    case round =>
      obtain ⟨k, hk, rfl, ⟨A, c1, rfl, hown⟩, hbe⟩ := hrel
      have HBe := hid hbe
      have hsz := hbe.size
      obtain ⟨A', c', hv, -, -, hrd⟩ := own_shape hown
      cases hv
      by_cases hlt : k < 5
      · have hkl : k < l.length := by rw [HL.out]; exact hlt
        have hix := fun W => run_index_arr (P := Tryz.prog) W 142 23 5 (av l).toArray .i64 k _ .u64 Tryz.underlying142 Tryz.underlying23 (by kernel_rfl) hlt (by simpa using av_get l k hkl)
        have HT := hid (nb_take l k hkl)
        have hlen : 8 * k = (nb (l.take k)).length := by rw [nbt_len _ _ (by omega)]
        have HP := hid (put_eight A (nb (l.take k)) (8 * k) c1 l[k] wr.heap.size wr hrd hlen (H64.out k hkl) (Nat.le_refl _) (by omega))
        rw [← HT.out] at HP
        generalize l[k] = x at hix HP
        clear hown hbe hrd hlen HT
        go_wp2_with (go_at_call 71; refine HP.out.mono ?_; rintro e w2 ⟨A2, c2, rfl, hown2, hb2⟩)
        exact ⟨⟨k + 1, by omega, by go_num, ⟨A2, c2, rfl, own_base hown2 hsz⟩, HBe.out.trans (hb2.mono hsz)⟩, by simp [intOf]; omega⟩
      · obtain rfl : k = 5 := by omega
        have HT : Hid (l.take 5 = l) := hid (List.take_of_length_le (by rw [HL.out]; exact Nat.le_refl _))
        rw [HT.out] at hrd
        have HLb : Hid (8 * 5 = (nb l).length) := hid (by rw [nb_len, HL.out])
        clear hown
        go_wp2_with (with_reducible refine wpl_str rfl _ 47 9 rfl 5 Tryz.underlying47 Tryz.underlying5 Tryz.underlying9 A (8 * 5) c1 rfl wr.heap.size (nb l) ?_ (hid hrd) (hid HLb.out))
        go_ret2
        exact ⟨rfl, HBe.out⟩
  · rw [decide_eq_false h] at HR
    rw [if_neg h]
    clear e0 h hf
    go_enter Tryz.func103, Tryz.ntmps103
    go_wp2_with (first
      | (refine wpList_load_row rfl 60 (.tmp 1) rfl w.heap.size rfl 60 C (0, 0) _ (heap_alloc_new _ _) Tryz.underlying60 rfl (by rw [HSZ.out]; kernel_rfl) ?_)
      | (go_at_call 106; refine (HR.out _).mono ?_; rintro e w1 ⟨rfl, hb1⟩))
    go_ret2
    exact ⟨rfl, ((Below.refl _ _).alloc (Nat.le_refl _) _).trans (hb1.mono (by simp))⟩
end Go.Proofs.YtcildaeiogdfdaaGreatDoor
/-
  Stubs, entries, items held against each other.
-/
namespace Go.Proofs.YtcildaeiogdfdaaGreatDoor
open Go.RowKit
set_option maxRecDepth 10000

theorem stubFields : (Tryz.prog.fieldsOf 60).toList = [{ name := "Op", type := 3, offset := 0, embedded := false, tag := "", pkgPath := "", byteOffset := 0 }, { name := "View", type := 3, offset := 1, embedded := false, tag := "", pkgPath := "", byteOffset := 8 }, { name := "Under", type := 3, offset := 2, embedded := false, tag := "", pkgPath := "", byteOffset := 16 }, { name := "Parent", type := 23, offset := 3, embedded := false, tag := "", pkgPath := "", byteOffset := 24 }, { name := "Sum", type := 23, offset := 4, embedded := false, tag := "", pkgPath := "", byteOffset := 32 }] := by kernel_rfl
theorem itemFields : (Tryz.prog.fieldsOf 62).toList = [{ name := "Kind", type := 3, offset := 0, embedded := false, tag := "", pkgPath := "", byteOffset := 0 }, { name := "Stub", type := 60, offset := 1, embedded := false, tag := "", pkgPath := "", byteOffset := 8 }, { name := "Entry", type := 28, offset := 6, embedded := false, tag := "", pkgPath := "", byteOffset := 48 }] := by kernel_rfl
theorem eqSt (d : Nat) (x y : St) (W : World) : (Op.equalIn (d + 2) 60 (.agg x.cells) (.agg y.cells)).run Tryz.prog W = .ok (decide (x = y)) W := by
  rw [run_equalIn_struct W (d + 1) 60 x.cells y.cells (by kernel_rfl) (by kernel_rfl), stubFields]
  have x0 : x.cells[0]? = some (.int .i64 x.opn) := rfl
  have y0 : y.cells[0]? = some (.int .i64 y.opn) := rfl
  have x1 : x.cells[1]? = some (.int .i64 x.view) := rfl
  have y1 : y.cells[1]? = some (.int .i64 y.view) := rfl
  have x2 : x.cells[2]? = some (.int .i64 x.under) := rfl
  have y2 : y.cells[2]? = some (.int .i64 y.under) := rfl
  have x3 : x.cells[3]? = some (.int .u64 (x.parent : Int)) := rfl
  have y3 : y.cells[3]? = some (.int .u64 (y.parent : Int)) := rfl
  have x4 : x.cells[4]? = some (.int .u64 (x.sum : Int)) := rfl
  have y4 : y.cells[4]? = some (.int .u64 (y.sum : Int)) := rfl
  generalize x.cells = X at *
  generalize y.cells = Y at *
  rw [eqF_int (P := Tryz.prog) (W := W) d X Y { name := "Op", type := 3, offset := 0, embedded := false, tag := "", pkgPath := "", byteOffset := 0 } _ .i64 x.opn y.opn (by simp) (part_int 3 X 0 _ .i64 Tryz.underlying3 sizeInt x0) (part_int 3 Y 0 _ .i64 Tryz.underlying3 sizeInt y0) Tryz.underlying3]
  rw [eqF_int (P := Tryz.prog) (W := W) d X Y { name := "View", type := 3, offset := 1, embedded := false, tag := "", pkgPath := "", byteOffset := 8 } _ .i64 x.view y.view (by simp) (part_int 3 X 1 _ .i64 Tryz.underlying3 sizeInt x1) (part_int 3 Y 1 _ .i64 Tryz.underlying3 sizeInt y1) Tryz.underlying3]
  rw [eqF_int (P := Tryz.prog) (W := W) d X Y { name := "Under", type := 3, offset := 2, embedded := false, tag := "", pkgPath := "", byteOffset := 16 } _ .i64 x.under y.under (by simp) (part_int 3 X 2 _ .i64 Tryz.underlying3 sizeInt x2) (part_int 3 Y 2 _ .i64 Tryz.underlying3 sizeInt y2) Tryz.underlying3]
  rw [eqF_int (P := Tryz.prog) (W := W) d X Y { name := "Parent", type := 23, offset := 3, embedded := false, tag := "", pkgPath := "", byteOffset := 24 } _ .u64 (x.parent : Int) (y.parent : Int) (by simp) (part_int 23 X 3 _ .u64 Tryz.underlying23 sizeU64 x3) (part_int 23 Y 3 _ .u64 Tryz.underlying23 sizeU64 y3) Tryz.underlying23]
  rw [eqF_int (P := Tryz.prog) (W := W) d X Y { name := "Sum", type := 23, offset := 4, embedded := false, tag := "", pkgPath := "", byteOffset := 32 } _ .u64 (x.sum : Int) (y.sum : Int) (by simp) (part_int 23 X 4 _ .u64 Tryz.underlying23 sizeU64 x4) (part_int 23 Y 4 _ .u64 Tryz.underlying23 sizeU64 y4) Tryz.underlying23]
  rw [eqF_nil]
  obtain ⟨o1, v1, u1, p1, s1⟩ := x
  obtain ⟨o2, v2, u2, p2, s2⟩ := y
  simp only [St.mk.injEq]
  by_cases c0 : o1 = o2
  case neg => simp [c0]
  by_cases c1 : v1 = v2
  case neg => simp [c1]
  by_cases c2 : u1 = u2
  case neg => simp [c2]
  by_cases c3 : (p1 : Int) = (p2 : Int)
  case neg => simp [c3]; omega
  by_cases c4 : (s1 : Int) = (s2 : Int)
  case neg => simp [c4]; omega
  simp [*]
  omega
theorem eqEn2 (d : Nat) (x y : En) (b : Bool) (hb : b = true ↔ x = y) (W : World) : (Op.equalIn (d + 2) 28 (.agg x.cells) (.agg y.cells)).run Tryz.prog W = .ok b W := by
  rw [run_equalIn_struct W (d + 1) 28 x.cells y.cells (by kernel_rfl) (by kernel_rfl), entryFields]
  have x0 : x.cells[0]? = some (.int .i64 x.view) := rfl
  have y0 : y.cells[0]? = some (.int .i64 y.view) := rfl
  have x1 : x.cells[1]? = some (.int .i64 x.opn) := rfl
  have y1 : y.cells[1]? = some (.int .i64 y.opn) := rfl
  have x2 : x.cells[2]? = some (.int .i64 x.under) := rfl
  have y2 : y.cells[2]? = some (.int .i64 y.under) := rfl
  have x3 : x.cells[3]? = some (.int .u64 (x.parent : Int)) := rfl
  have y3 : y.cells[3]? = some (.int .u64 (y.parent : Int)) := rfl
  have x4 : x.cells[4]? = some (.int .i64 x.client) := rfl
  have y4 : y.cells[4]? = some (.int .i64 y.client) := rfl
  have x5 : x.cells[5]? = some (.int .i64 x.session) := rfl
  have y5 : y.cells[5]? = some (.int .i64 y.session) := rfl
  have x6 : x.cells[6]? = some (.int .i64 x.request) := rfl
  have y6 : y.cells[6]? = some (.int .i64 y.request) := rfl
  have x7 : x.cells[7]? = some (.int .i64 x.oper) := rfl
  have y7 : y.cells[7]? = some (.int .i64 y.oper) := rfl
  have x8 : x.cells[8]? = some (.string x.body) := rfl
  have y8 : y.cells[8]? = some (.string y.body) := rfl
  generalize x.cells = X at *
  generalize y.cells = Y at *
  rw [eqF_int (P := Tryz.prog) (W := W) d X Y { name := "View", type := 3, offset := 0, embedded := false, tag := "", pkgPath := "", byteOffset := 0 } _ .i64 x.view y.view (by simp) (part_int 3 X 0 _ .i64 Tryz.underlying3 sizeInt x0) (part_int 3 Y 0 _ .i64 Tryz.underlying3 sizeInt y0) Tryz.underlying3]
  rw [eqF_int (P := Tryz.prog) (W := W) d X Y { name := "Op", type := 3, offset := 1, embedded := false, tag := "", pkgPath := "", byteOffset := 8 } _ .i64 x.opn y.opn (by simp) (part_int 3 X 1 _ .i64 Tryz.underlying3 sizeInt x1) (part_int 3 Y 1 _ .i64 Tryz.underlying3 sizeInt y1) Tryz.underlying3]
  rw [eqF_int (P := Tryz.prog) (W := W) d X Y { name := "Under", type := 3, offset := 2, embedded := false, tag := "", pkgPath := "", byteOffset := 16 } _ .i64 x.under y.under (by simp) (part_int 3 X 2 _ .i64 Tryz.underlying3 sizeInt x2) (part_int 3 Y 2 _ .i64 Tryz.underlying3 sizeInt y2) Tryz.underlying3]
  rw [eqF_int (P := Tryz.prog) (W := W) d X Y { name := "Parent", type := 23, offset := 3, embedded := false, tag := "", pkgPath := "", byteOffset := 24 } _ .u64 (x.parent : Int) (y.parent : Int) (by simp) (part_int 23 X 3 _ .u64 Tryz.underlying23 sizeU64 x3) (part_int 23 Y 3 _ .u64 Tryz.underlying23 sizeU64 y3) Tryz.underlying23]
  rw [eqF_int (P := Tryz.prog) (W := W) d X Y { name := "Client", type := 3, offset := 4, embedded := false, tag := "", pkgPath := "", byteOffset := 32 } _ .i64 x.client y.client (by simp) (part_int 3 X 4 _ .i64 Tryz.underlying3 sizeInt x4) (part_int 3 Y 4 _ .i64 Tryz.underlying3 sizeInt y4) Tryz.underlying3]
  rw [eqF_int (P := Tryz.prog) (W := W) d X Y { name := "Session", type := 3, offset := 5, embedded := false, tag := "", pkgPath := "", byteOffset := 40 } _ .i64 x.session y.session (by simp) (part_int 3 X 5 _ .i64 Tryz.underlying3 sizeInt x5) (part_int 3 Y 5 _ .i64 Tryz.underlying3 sizeInt y5) Tryz.underlying3]
  rw [eqF_int (P := Tryz.prog) (W := W) d X Y { name := "Request", type := 3, offset := 6, embedded := false, tag := "", pkgPath := "", byteOffset := 48 } _ .i64 x.request y.request (by simp) (part_int 3 X 6 _ .i64 Tryz.underlying3 sizeInt x6) (part_int 3 Y 6 _ .i64 Tryz.underlying3 sizeInt y6) Tryz.underlying3]
  rw [eqF_int (P := Tryz.prog) (W := W) d X Y { name := "Operation", type := 3, offset := 7, embedded := false, tag := "", pkgPath := "", byteOffset := 56 } _ .i64 x.oper y.oper (by simp) (part_int 3 X 7 _ .i64 Tryz.underlying3 sizeInt x7) (part_int 3 Y 7 _ .i64 Tryz.underlying3 sizeInt y7) Tryz.underlying3]
  rw [eqF_strs (P := Tryz.prog) (W := W) d X Y { name := "Body", type := 9, offset := 8, embedded := false, tag := "", pkgPath := "", byteOffset := 64 } _ x.body y.body (by simp) (part_str 9 X 8 _ Tryz.underlying9 sizeStr x8) (part_str 9 Y 8 _ Tryz.underlying9 sizeStr y8) Tryz.underlying9]
  rw [eqF_nil]
  clear x0 y0 x1 y1 x2 y2 x3 y3 x4 y4 x5 y5 x6 y6 x7 y7 x8 y8
  obtain ⟨a1, a2, a3, a4, a5, a6, a7, a8, a9⟩ := x
  obtain ⟨b1, b2, b3, b4, b5, b6, b7, b8, b9⟩ := y
  simp only [En.mk.injEq] at hb
  simp only
  by_cases h : b = true
  · obtain ⟨rfl, rfl, rfl, rfl, rfl, rfl, rfl, rfl, rfl⟩ := hb.1 h
    subst h
    simp
  · have hn := fun q => h (hb.2 q)
    rw [Bool.eq_false_iff.2 h]
    clear hb h
    by_cases c0 : a1 = b1
    case neg => simp [c0]
    by_cases c1 : a2 = b2
    case neg => simp [c1]
    by_cases c2 : a3 = b3
    case neg => simp [c2]
    by_cases c3 : (a4 : Int) = (b4 : Int)
    case neg => simp [c3]
    by_cases c4 : a5 = b5
    case neg => simp [c4]
    by_cases c5 : a6 = b6
    case neg => simp [c5]
    by_cases c6 : a7 = b7
    case neg => simp [c6]
    by_cases c7 : a8 = b8
    case neg => simp [c7]
    by_cases c8 : a9 = b9
    case neg => simp [c8]
    exact absurd ⟨c0, c1, c2, by omega, c4, c5, c6, c7, c8⟩ hn
theorem eqF_agg {P : Program} {W : World} (d : Nat) (xs ys : Array Value) (f : Field) (fs : List Field) (X Y : Array Value) (b : Bool) (hn : f.name ≠ "_") (hx : (part f.type xs f.offset).run P W = .ok (.agg X) W) (hy : (part f.type ys f.offset).run P W = .ok (.agg Y) W)
    (hE : (Op.equalIn (d + 1) f.type (.agg X) (.agg Y)).run P W = .ok b W) : (Op.eqFields (d + 1) xs ys (f :: fs)).run P W = if b = true then (Op.eqFields (d + 1) xs ys fs).run P W else .ok false W := by
  simp only [Op.eqFields, if_pos hn, Sem.run_bind, hx, hy, Result.andThen_ok, hE]
  cases b <;> simp
theorem part_stub (x : It) (W : World) : (part 60 x.cells 1).run Tryz.prog W = .ok (.agg x.stub.cells) W := by kernel_rfl
theorem part_entry (x : It) (W : World) : (part 28 x.cells 6).run Tryz.prog W = .ok (.agg x.entry.cells) W := by kernel_rfl
theorem part_kind (x : It) (W : World) : (part 3 x.cells 0).run Tryz.prog W = .ok (.int .i64 x.kind) W := by kernel_rfl
theorem egSt : Tryz.prog.eqGuardType Tryz.prog.depth 60 = false := by kernel_rfl
theorem egIt : Tryz.prog.eqGuardType Tryz.prog.depth 62 = false := by kernel_rfl
theorem wpl_load_midw {P : Program} {ops : Array Oper} {rest : List Oper} {o : Oper} {a : Act} {w : World} {Q : Exit → Act → World → Prop} (hw : Region.wanted o (yielded ops a.tmps) = true) (ty : TypeId) (x : Operand) (ho : o.op = .load ty x)
    (b k : Nat) (hx : a.eval x = .pointer (some ⟨b, k, none⟩)) (cs : List Value) (d : TypeDesc) (hc : w.rangeAt b k cs)
    (hu : P.underlying ty = some d) (hd : d.isRow = true) (hi : (P.info? ty).map (·.size) = some cs.length)
    (h : wpList P ops Q rest (a.put o.dst (.agg cs.toArray)) w) : wpList P ops Q (o :: rest) a w :=
  BigFrame.wpList_want hw fun _ hK => wp_load_mid ty x ho b k hx cs d hc hu hd hi (hK _ _ h)
section
variable {ops : Array Oper} {rest : List Oper} {o : Oper} {a : Act} {w : World} {Q : Exit → Act → World → Prop}
theorem wpl_eqs (hw : Region.wanted o (yielded ops a.tmps) = true) (s t : St) (b : Bool) (x y : Operand) (ty : TypeId) (ho : o.op = .binOp .eql 60 x y ty)
    (hx : a.eval x = .agg s.cells) (hy : a.eval y = .agg t.cells) (hb : Hid (decide (s = t) = b)) (h : wpList Tryz.prog ops Q rest (a.put o.dst (.bool b)) w) : wpList Tryz.prog ops Q (o :: rest) a w := by
  refine BigFrame.wpList_want hw fun K hK => ?_
  have hEQ := hb.out ▸ eqSt 9998 s t w
  have hEG := egSt
  generalize s.cells = Z at *
  generalize t.cells = Y at *
  unfold Oper.wp execOp
  simp [ho, hx, hy, eqGuard, hEG, binOp, Op.equal, Op.maxDepth, hEQ, Result.andThen]
  exact hK _ _ h
theorem wpl_eqe2 (hw : Region.wanted o (yielded ops a.tmps) = true) (s t : En) (b : Bool) (x y : Operand) (ty : TypeId) (ho : o.op = .binOp .eql 28 x y ty)
    (hx : a.eval x = .agg s.cells) (hy : a.eval y = .agg t.cells) (hb : Hid (b = true ↔ s = t)) (h : wpList Tryz.prog ops Q rest (a.put o.dst (.bool b)) w) : wpList Tryz.prog ops Q (o :: rest) a w := by
  refine BigFrame.wpList_want hw fun K hK => ?_
  have hEQ := eqEn2 9998 s t b hb.out w
  have hEG := egEn
  generalize s.cells = Z at *
  generalize t.cells = Y at *
  unfold Oper.wp execOp
  simp [ho, hx, hy, eqGuard, hEG, binOp, Op.equal, Op.maxDepth, hEQ, Result.andThen]
  exact hK _ _ h
end
theorem yields_eqs {ops : Array Oper} {S : World → Prop} {o : Oper} {a : Act} (hw : Region.wanted o (yielded ops a.tmps) = true) (s t : St) (b : Bool) (hb : Hid (decide (s = t) = b)) (x y : Operand) (ty : TypeId) (ho : o.op = .binOp .eql 60 x y ty)
    (hx : a.eval x = .agg s.cells) (hy : a.eval y = .agg t.cells) : YieldsIf Tryz.prog ops S o (.bool b) a :=
  .inl ⟨hw, fun w _ => by
    have hEG := egSt
    have hE := eqSt 9998 s t w
    rw [hb.out] at hE
    generalize s.cells = Z at *
    generalize t.cells = Y at *
    unfold execOp
    simp [ho, hx, hy, eqGuard, hEG, binOp, Op.equal, Op.maxDepth, hE, Result.andThen]⟩
end Go.Proofs.YtcildaeiogdfdaaGreatDoor
