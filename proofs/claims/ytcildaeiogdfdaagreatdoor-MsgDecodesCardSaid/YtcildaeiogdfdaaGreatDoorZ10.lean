/-
  The walk of the document's Pack, whole; both Packs and both Rights of a header as one value.
-/
import Derived.Test.YtcildaeiogdfdaaGreatDoorZ09
import Derived.Test.YtcildaeiogdfdaaGreatDoorZ07
import Derived.Test.YtcildaeiogdfdaaGreatDoorZ08
import Derived.Test.YtcildaeiogdfdaaGreatDoorZ03
namespace Go.Proofs.YtcildaeiogdfdaaGreatDoor
open Go.RowKit
set_option maxRecDepth 10000

set_option maxHeartbeats 1000000 in
theorem rpack_form (C : Array Value) (body : ByteArray) (w : World) (HR : Hid (∀ W, Calls Tryz.prog 58 #[.agg C] W (VE W (.bool false)))) (hsz : (Tryz.prog.info? 42).map (·.size) = some C.size) : Calls Tryz.prog 33 #[.agg C, .string body] w (SN w ([], 4)) := by
  have HSZ := hid hsz
  clear hsz
  go_enter Tryz.func33, Tryz.ntmps33
  go_wp2_with (first
    | (refine wpList_load_row rfl 42 (.tmp 2) rfl w.heap.size rfl 42 C (0, 0) _ (heap_alloc_new _ _) Tryz.underlying42 rfl HSZ.out ?_)
    | (go_at_call 58; refine (HR.out _).mono ?_; rintro e w1 ⟨rfl, hb1⟩))
  go_ret2
  exact ⟨rfl, ((Below.refl _ _).alloc (Nat.le_refl _) _).trans (hb1.mono (by simp))⟩
set_option maxHeartbeats 1000000 in
theorem rpack_long (C : Array Value) (body : ByteArray) (w : World) (HR : Hid (∀ W, Calls Tryz.prog 58 #[.agg C] W (VE W (.bool true)))) (hsz : (Tryz.prog.info? 42).map (·.size) = some C.size) (hlong : 3968 < (body.size : Int)) : Calls Tryz.prog 33 #[.agg C, .string body] w (SN w ([], 5)) := by
  have HSZ := hid hsz
  clear hsz
  go_enter Tryz.func33, Tryz.ntmps33
  go_wp2_with (first
    | (refine wpList_load_row rfl 42 (.tmp 2) rfl w.heap.size rfl 42 C (0, 0) _ (heap_alloc_new _ _) Tryz.underlying42 rfl HSZ.out ?_)
    | (go_at_call 58; refine (HR.out _).mono ?_; rintro e w1 ⟨rfl, hb1⟩))
  go_ret2
  exact ⟨rfl, ((Below.refl _ _).alloc (Nat.le_refl _) _).trans (hb1.mono (by simp))⟩
theorem rpack_any (h : Hd) (hh : h.fits) (body : ByteArray) (w : World) : Calls Tryz.prog 33 #[h.val, .string body] w (SN w (packS h (sb body))) := by
  have hl := sb_len body
  have hr := right_fits h hh
  unfold packS
  by_cases hfit : Fits h.nums
  · rw [if_neg (by simpa using hfit)]
    rw [decide_eq_true hfit] at hr
    by_cases hlong : 3968 < (sb body).length
    · rw [if_pos hlong]
      exact rpack_long h.cells body w (hid fun W => by have := rright_any h W; rw [hr] at this; exact this) (hcells_size h) (by omega)
    · rw [if_neg hlong]
      exact rpack_ok h body w hfit hr (by omega)
  · rw [if_pos hfit]
    rw [decide_eq_false hfit] at hr
    exact rpack_form h.cells body w (hid fun W => by have := rright_any h W; rw [hr] at this; exact this) (hcells_size h)
end Go.Proofs.YtcildaeiogdfdaaGreatDoor
/-
  The walk of package entry's Pack.
-/
namespace Go.Proofs.YtcildaeiogdfdaaGreatDoor
open Go.RowKit
set_option maxRecDepth 10000

/-- what Pack answers -/
def packE (e : En) : List UInt8 × Int := if Rt e then packS (hof e) (sb e.body) else ([], 4)
set_option maxHeartbeats 1000000 in
theorem epack_no (E : Array Value) (w : World) (hE : (Tryz.prog.info? 28).map (·.size) = some E.size)
    (HR : Hid (∀ W : World, Calls Tryz.prog 48 #[.agg E] W (VE W (.bool false)))) :
    Calls Tryz.prog 72 #[.agg E] w (SN w ([], 4)) := by
  have HE := hid hE
  have HB := hid ((Below.refl w.heap.size w).alloc (Nat.le_refl _) (.cells E 28))
  have HRW : Hid (Row (w.alloc (.cells E 28)) w.heap.size 28 E.toList) := hid (Row.new _ _ _)
  clear hE
  go_enter Tryz.func72, Tryz.ntmps72
  go_wp2_with (first
    | (refine wpList_load_row rfl 28 (.tmp 1) rfl w.heap.size rfl 28 E (0, 0) _ HRW.out.arr Tryz.underlying28 rfl HE.out ?_)
    | (go_at_call 48; refine (HR.out _).mono ?_; rintro e w1 ⟨rfl, hb1⟩))
  go_ret2
  exact ⟨rfl, HB.out.trans (hb1.mono HB.out.size)⟩
set_option maxHeartbeats 2000000 in
theorem epack_yes (view opn under : Int) (parent : Nat) (client session request oper : Int) (body : ByteArray) (T : ByteArray) (f : Int) (w : World) (hf : Fd w)
    (HR : Hid (∀ W : World, Calls Tryz.prog 48 #[.agg #[.int .i64 view, .int .i64 opn, .int .i64 under, .int .u64 (parent : Int), .int .i64 client, .int .i64 session, .int .i64 request, .int .i64 oper, .string body]] W (VE W (.bool true))))
    (HH : Hid (∀ W : World, Calls Tryz.prog 84 #[.agg #[.int .i64 view, .int .i64 opn, .int .i64 under, .int .u64 (parent : Int), .int .i64 client, .int .i64 session, .int .i64 request, .int .i64 oper, .string body]] W (VE W (.agg #[.int .i64 255, .int .i64 0, .int .i64 oper, .int .i64 view, .int .i64 opn, .int .i64 0, .int .i64 client, .int .i64 session, .int .i64 request, .int .i64 under, .int .i64 0, .int .u64 (parent : Int)]))))
    (HP : Hid (∀ W : World, Fd W → Calls Tryz.prog 20 #[.agg #[.int .i64 255, .int .i64 0, .int .i64 oper, .int .i64 view, .int .i64 opn, .int .i64 0, .int .i64 client, .int .i64 session, .int .i64 request, .int .i64 under, .int .i64 0, .int .u64 (parent : Int)], .string body] W fun x W' => x = .returned (.tuple #[.string T, .int .i64 f]) ∧ Below W.heap.size W W')) :
    Calls Tryz.prog 72 #[.agg #[.int .i64 view, .int .i64 opn, .int .i64 under, .int .u64 (parent : Int), .int .i64 client, .int .i64 session, .int .i64 request, .int .i64 oper, .string body]] w fun x W' => x = .returned (.tuple #[.string T, .int .i64 f]) ∧ Below w.heap.size w W' := by
  have HZ := hid esize
  have HF := hid hf
  have HB := hid ((Below.refl w.heap.size w).alloc (Nat.le_refl _) (.cells #[.int .i64 view, .int .i64 opn, .int .i64 under, .int .u64 (parent : Int), .int .i64 client, .int .i64 session, .int .i64 request, .int .i64 oper, .string body] 28))
  have HRW : Hid (Row (w.alloc (.cells #[.int .i64 view, .int .i64 opn, .int .i64 under, .int .u64 (parent : Int), .int .i64 client, .int .i64 session, .int .i64 request, .int .i64 oper, .string body] 28)) w.heap.size 28 (#[.int .i64 view, .int .i64 opn, .int .i64 under, .int .u64 (parent : Int), .int .i64 client, .int .i64 session, .int .i64 request, .int .i64 oper, .string body] : Array Value).toList) := hid (Row.new _ _ _)
  clear hf
  go_enter Tryz.func72, Tryz.ntmps72
  go_wp2_with (go_at_call 48; refine (HR.out _).mono ?_; rintro e w1 ⟨rfl, hb1⟩; have HB1 := hid (HB.out.trans (hb1.mono HB.out.size)); have HE1 := hid (HRW.out.below hb1 HRW.out.lt); clear hb1)
  have HF1 := hid (HF.out.below HB1.out HF.out.1)
  refine wp_region_held_drew (S := fun W => Below w1.heap.size w1 W) (by kernel_rfl) ((Below.refl _ _).drew) (fun hH => ?_)
  refine wpAnyH_take (i := 0) (v := .agg #[.int .i64 view, .int .i64 opn, .int .i64 under, .int .u64 (parent : Int), .int .i64 client, .int .i64 session, .int .i64 request, .int .i64 oper, .string body]) rfl (by kernel_rfl) (by kernel_rfl) (by kernel_rfl) (fun _ _ _ h => h) ?_ hH ?_
  · refine yieldsIf_load_mid ?_ 28 (.tmp 1) ?_ w.heap.size 0 ?_ (Array.toList #[.int .i64 view, .int .i64 opn, .int .i64 under, .int .u64 (parent : Int), .int .i64 client, .int .i64 session, .int .i64 request, .int .i64 oper, .string body]) _ (fun W hW => Row.range (HE1.out.below hW HE1.out.lt)) Tryz.underlying28 rfl HZ.out
    all_goals kernel_rfl
  simp only [Act.put]
  refine wpAnyH_take (i := 2) (v := .pointer (some ⟨w.heap.size, 8, none⟩)) rfl (by kernel_rfl) (by kernel_rfl) (by kernel_rfl) (fun _ _ _ h => h) (Or.inl ⟨by rfl, fun w' hw' => by clear hw'; go_simp⟩) hH ?_
  simp only [Act.put]
  refine wpAnyH_take (i := 3) (v := .string body) rfl (by kernel_rfl) (by kernel_rfl) (by kernel_rfl) (fun _ _ _ h => h) (Or.inl ⟨by rfl, fun w' hw' => by have h := (HE1.out.below hw' HE1.out.lt).at_ 8 _ rfl; clear hw'; go_simp⟩) hH ?_
  simp only [Act.put]
  refine wpAnyH_ready (rs := [1]) (by kernel_rfl) (by simp) ?_
  refine AllReadyH.cons rfl (fun K hK => ?_) AllReadyH.nil
  go_simp
  go_at_call 84
  refine (HH.out _).mono ?_
  rintro e w2 ⟨rfl, hb2⟩
  go_wp2_with fail
  refine hK.out _ _ (hH.trans (Below.mono hb2 hH.size)) (fun hH => ?_)
  clear hK K
  try simp only [Act.put]
  refine wpAnyH_ready (rs := [4]) (by kernel_rfl) (by simp) ?_
  refine AllReadyH.cons rfl (fun K hK => ?_) AllReadyH.nil
  go_simp
  go_at_call 20
  refine (HP.out _ (HF1.out.below hH HF1.out.1)).mono ?_
  rintro e w3 ⟨rfl, hb3⟩
  go_wp2_with fail
  refine hK.out _ _ (hH.trans (Below.mono hb3 hH.size)) (fun hH => ?_)
  clear hK K
  try simp only [Act.put]
  refine wpAnyH_take (i := 5) (v := .string T) rfl (by kernel_rfl) (by kernel_rfl) (by kernel_rfl) (fun _ _ _ h => h) (Or.inl ⟨by rfl, fun w' hw' => by clear hw'; go_simp⟩) hH ?_
  simp only [Act.put]
  refine wpAnyH_take (i := 6) (v := .int .i64 f) rfl (by kernel_rfl) (by kernel_rfl) (by kernel_rfl) (fun _ _ _ h => h) (Or.inl ⟨by rfl, fun w' hw' => by clear hw'; go_simp⟩) hH ?_
  simp only [Act.put]
  refine wpAnyH_ready (rs := [7]) (by kernel_rfl) (by simp) ?_
  refine AllReadyH.cons rfl (fun K hK => ?_) AllReadyH.nil
  go_simp
  refine hK.out _ _ (hH) (fun hH => ?_)
  clear hK K
  try simp only [Act.put]
  refine wpAnyH_ready (rs := [8]) (by kernel_rfl) (by simp) ?_
  refine AllReadyH.cons rfl (fun K hK => ?_) AllReadyH.nil
  go_simp
  refine hK.out _ _ (hH) (fun hH => ?_)
  clear hK K
  try simp only [Act.put]
  refine wpAnyH_done (by kernel_rfl) ?_ _
  try simp only [Act.put]
  go_wp2_with fail
  go_ret2
  exact ⟨rfl, HB1.out.trans (hH.mono HB1.out.size)⟩
theorem packS_rt {e : En} (he : e.fits) (h : Rt e) : Fits (hof e).nums ∧ (hof e).fits := by
  obtain ⟨⟨a1, a2, a3, a4⟩, ⟨b1, b2, b3⟩, hp⟩ := he
  obtain ⟨h1, h2, h3, h4, h5, h6, h7, h8, h9⟩ := h
  have hh : (hof e).fits := ⟨⟨⟨by show (-9223372036854775808 : Int) ≤ 255; omega, by show (255 : Int) ≤ _; omega⟩, ⟨by show (-9223372036854775808 : Int) ≤ 0; omega, by show (0 : Int) ≤ _; omega⟩, b3, a1, a2, ⟨by show (-9223372036854775808 : Int) ≤ 0; omega, by show (0 : Int) ≤ _; omega⟩⟩, ⟨a4, b1, b2, a3, ⟨by show (-9223372036854775808 : Int) ≤ 0; omega, by show (0 : Int) ≤ _; omega⟩⟩, hp⟩
  refine ⟨?_, hh⟩
  have hr := right_fits (hof e) hh
  have : rightS (hof e) = true := by
    unfold rightS sm ft hof
    simp only [Bool.and_eq_true, decide_eq_true_eq]
    exact ⟨⟨⟨⟨⟨⟨⟨⟨⟨⟨⟨by omega, by omega⟩, by omega, by omega⟩, by omega, by omega⟩, h3⟩, by omega, by omega⟩, by omega, by omega⟩, by omega, by omega⟩, h5⟩, h6⟩, h4⟩, by omega, by omega⟩
  rw [this] at hr
  exact of_decide_eq_true hr.symm
theorem epack_any (e : En) (w : World) (hf : Fd w) : Calls Tryz.prog 72 #[e.val] w (SN w (packE e)) := by
  have HR := hid (fun W => eright_any e W)
  unfold packE
  by_cases h : Rt e
  · rw [if_pos h]
    rw [decide_eq_true h] at HR
    have HH := hid (fun W => hof_any e W)
    have HP := hid (fun W hW => pack_any (hof e) e.body W hW)
    obtain ⟨r, hr⟩ : ∃ r, r = packS (hof e) (sb e.body) := ⟨_, rfl⟩
    rw [← hr] at HP ⊢
    obtain ⟨view, opn, under, parent, client, session, request, oper, body⟩ := e
    exact epack_yes view opn under parent client session request oper body ⟨r.1.toArray⟩ r.2 w hf HR HH HP
  · rw [if_neg h]
    rw [decide_eq_false h] at HR
    exact epack_no e.cells w (ecells_size e) HR
end Go.Proofs.YtcildaeiogdfdaaGreatDoor
/-
  The walk of the document's Pack of an entry.
-/
namespace Go.Proofs.YtcildaeiogdfdaaGreatDoor
open Go.RowKit
set_option maxRecDepth 10000

set_option maxHeartbeats 1000000 in
theorem rpack9_no (E : Array Value) (w : World) (hE : (Tryz.prog.info? 28).map (·.size) = some E.size)
    (HR : Hid (∀ W : World, Calls Tryz.prog 63 #[.agg E] W (VE W (.bool false)))) :
    Calls Tryz.prog 62 #[.agg E] w (SN w ([], 4)) := by
  have HE := hid hE
  have HB := hid ((Below.refl w.heap.size w).alloc (Nat.le_refl _) (.cells E 28))
  have HRW : Hid (Row (w.alloc (.cells E 28)) w.heap.size 28 E.toList) := hid (Row.new _ _ _)
  clear hE
  go_enter Tryz.func62, Tryz.ntmps62
  go_wp2_with (first
    | (refine wpList_load_row rfl 28 (.tmp 1) rfl w.heap.size rfl 28 E (0, 0) _ HRW.out.arr Tryz.underlying28 rfl HE.out ?_)
    | (go_at_call 63; refine (HR.out _).mono ?_; rintro e w1 ⟨rfl, hb1⟩))
  go_ret2
  exact ⟨rfl, HB.out.trans (hb1.mono HB.out.size)⟩
set_option maxHeartbeats 2000000 in
theorem rpack9_yes (view opn under : Int) (parent : Nat) (client session request oper : Int) (body : ByteArray) (T : ByteArray) (f : Int) (w : World)
    (HR : Hid (∀ W : World, Calls Tryz.prog 63 #[.agg #[.int .i64 view, .int .i64 opn, .int .i64 under, .int .u64 (parent : Int), .int .i64 client, .int .i64 session, .int .i64 request, .int .i64 oper, .string body]] W (VE W (.bool true))))
    (HP : Hid (∀ W : World, Calls Tryz.prog 33 #[.agg #[.int .i64 255, .int .i64 0, .int .i64 oper, .int .i64 view, .int .i64 opn, .int .i64 0, .int .i64 client, .int .i64 session, .int .i64 request, .int .i64 under, .int .i64 0, .int .u64 (parent : Int)], .string body] W fun x W' => x = .returned (.tuple #[.string T, .int .i64 f]) ∧ Below W.heap.size W W')) :
    Calls Tryz.prog 62 #[.agg #[.int .i64 view, .int .i64 opn, .int .i64 under, .int .u64 (parent : Int), .int .i64 client, .int .i64 session, .int .i64 request, .int .i64 oper, .string body]] w fun x W' => x = .returned (.tuple #[.string T, .int .i64 f]) ∧ Below w.heap.size w W' := by
  have HB := hid ((Below.refl w.heap.size w).alloc (Nat.le_refl _) (.cells #[.int .i64 view, .int .i64 opn, .int .i64 under, .int .u64 (parent : Int), .int .i64 client, .int .i64 session, .int .i64 request, .int .i64 oper, .string body] 28))
  have HRW : Hid (Row (w.alloc (.cells #[.int .i64 view, .int .i64 opn, .int .i64 under, .int .u64 (parent : Int), .int .i64 client, .int .i64 session, .int .i64 request, .int .i64 oper, .string body] 28)) w.heap.size 28 (#[.int .i64 view, .int .i64 opn, .int .i64 under, .int .u64 (parent : Int), .int .i64 client, .int .i64 session, .int .i64 request, .int .i64 oper, .string body] : Array Value).toList) := hid (Row.new _ _ _)
  go_enter Tryz.func62, Tryz.ntmps62
  go_wp2_with (first
    | (go_at_call 63; refine (HR.out _).mono ?_; rintro e w1 ⟨rfl, hb1⟩; have HB1 := hid (HB.out.trans (hb1.mono HB.out.size)); have he := HRW.out.below hb1 HRW.out.lt; have hlt := he.lt; have c0 := he.at_ 0 _ rfl; have c1 := he.at_ 1 _ rfl; have c2 := he.at_ 2 _ rfl; have c3 := he.at_ 3 _ rfl; have c4 := he.at_ 4 _ rfl; have c5 := he.at_ 5 _ rfl; have c6 := he.at_ 6 _ rfl; have c7 := he.at_ 7 _ rfl; have c8 := he.at_ 8 _ rfl; clear hb1 he)
    | (go_at_call 33; refine (HP.out _).mono ?_; rintro e w2 ⟨rfl, hb2⟩))
  go_ret2
  have h1 := HB1.out.alloc HB1.out.size (.cells #[.int .i64 255, .int .i64 0, .int .i64 oper, .int .i64 view, .int .i64 opn, .int .i64 0, .int .i64 client, .int .i64 session, .int .i64 request, .int .i64 under, .int .i64 0, .int .u64 (parent : Int)] 42)
  exact ⟨rfl, h1.trans (hb2.mono h1.size)⟩
theorem rpack9_any (e : En) (he : e.fits) (w : World) : Calls Tryz.prog 62 #[e.val] w (SN w (packE e)) := by
  have HR := hid (fun W => rright9_any e W)
  unfold packE
  by_cases h : Rt e
  · rw [if_pos h]
    rw [decide_eq_true h] at HR
    have HP := hid (fun W => rpack_any (hof e) (packS_rt he h).2 e.body W)
    obtain ⟨r, hr⟩ : ∃ r, r = packS (hof e) (sb e.body) := ⟨_, rfl⟩
    rw [← hr] at HP ⊢
    obtain ⟨view, opn, under, parent, client, session, request, oper, body⟩ := e
    exact rpack9_yes view opn under parent client session request oper body ⟨r.1.toArray⟩ r.2 w HR HP
  · rw [if_neg h]
    rw [decide_eq_false h] at HR
    exact rpack9_no e.cells w (ecells_size e) HR
end Go.Proofs.YtcildaeiogdfdaaGreatDoor
/-
  The walk of package entry's Unpack.
-/
namespace Go.Proofs.YtcildaeiogdfdaaGreatDoor
open Go.RowKit
set_option maxRecDepth 10000

/-- an entry and an error -/
def EE (w : World) (r : En × Int) (e : Ending) (w' : World) : Prop := e = .returned (.tuple #[r.1.val, .int .i64 r.2]) ∧ Below w.heap.size w w'
/-- what Unpack answers -/
def unpackE (s : List UInt8) : En × Int :=
  if (unpackS s).2.2 = 0 ∧ Rt (eof (unpackS s).1 ⟨(unpackS s).2.1.toArray⟩) ∧ hof (eof (unpackS s).1 ⟨(unpackS s).2.1.toArray⟩) = (unpackS s).1 then (eof (unpackS s).1 ⟨(unpackS s).2.1.toArray⟩, 0) else (en0, 4)
theorem egHd : Tryz.prog.eqGuardType Tryz.prog.depth 42 = false := by kernel_rfl
/-- x != y, headers, in a region that draws its order -/
theorem yields_neh {ops : Array Oper} {S : World → Prop} {o : Oper} {a : Act} (hw : Region.wanted o (yielded ops a.tmps) = true) (x y : Operand) (ty : TypeId) (ho : o.op = .binOp .neq 42 x y ty) (G K : Array Value)
    (hx : a.eval x = .agg G) (hy : a.eval y = .agg K) (b : Bool) (hEQ : ∀ W, (Op.equalIn 10000 42 (.agg G) (.agg K)).run Tryz.prog W = .ok b W) : YieldsIf Tryz.prog ops S o (.bool (!b)) a :=
  .inl ⟨hw, fun w _ => by
    have hEG := egHd
    have hE := hEQ w
    unfold execOp
    simp [ho, hx, hy, eqGuard, hEG, binOp, Op.equal, Op.maxDepth, hE, Result.andThen]⟩
theorem hsize : (Tryz.prog.info? 42).map (·.size) = some 12 := by kernel_rfl
set_option maxHeartbeats 1000000 in
theorem eup_none (s : ByteArray) (h : Hd) (b : ByteArray) (f : Int) (w : World) (hf : Fd w) (hne : (f != 0) = true)
    (HU : Hid (∀ W : World, Fd W → Calls Tryz.prog 10 #[.string s] W fun x W' => x = .returned (.tuple #[h.val, .string b, .int .i64 f]) ∧ Below W.heap.size W W')) :
    Calls Tryz.prog 56 #[.string s] w (EE w (en0, 4)) := by
  have HZ := hid esize
  have HF := hid hf
  have HZH := hid hsize
  have HB0 := hid ((Below.refl w.heap.size w).alloc (Nat.le_refl _) (.cells en0.cells 28))
  have HR0 : Hid (Row (w.alloc (.cells en0.cells 28)) w.heap.size 28 en0.cells.toList) := hid (Row.new _ _ _)
  clear hf
  go_enter Tryz.func56, Tryz.ntmps56
  go_wp2_with (first
    | (go_at_call 10; refine (HU.out _ (HF.out.below HB0.out HF.out.1)).mono ?_; rintro e w1 ⟨rfl, hb1⟩; have hlt0 := HR0.out.lt; have hr0 := HR0.out.below hb1 hlt0; have hbb := HB0.out.trans (hb1.mono HB0.out.size); clear hb1)
    | (refine wpl_store_head rfl (.tmp 4) (.tmp 11) rfl w1.heap.size h rfl rfl (Row.new _ _ _) ?_; intro w2 hr2 hg2; have hl1 := hr0.lt; have hr0x := (hr0.alloc _).grown hg2 (by intro e; have := Option.some.inj e; omega); have hbb2 := (hbb.alloc hbb.size _).trans (below_grown hg2 hbb.size (by have := hbb.size; simp; omega)); clear hr0 hbb; have hr0 := hr0x; have hbb := hbb2; clear hr0x hbb2 hg2)
    | (refine wpl_store_st rfl (.tmp 2) (.tmp 16) rfl HZ.out w.heap.size en0.cells en0.cells rfl rfl hr0 ?_ (hid rfl) (hid rfl) (hid (ecells_one en0)); intro wz hrz hgz; have HBZ := hid (hbb.trans (below_grown hgz (Nat.le_refl _) hbb.size)); clear hgz))
  refine bodyPost_ret (v := .tuple #[.agg en0.cells, .int .i64 4]) (results_cell1 rfl _ _ w.heap.size 28 en0.cells (0, 0) _ (.int .i64 4) rfl rfl (Row.arr hrz) Tryz.underlying28 rfl HZ.out) rfl ⟨rfl, HBZ.out⟩
set_option maxHeartbeats 2000000 in
theorem eup_no (s : ByteArray) (h : Hd) (b : ByteArray) (x : En) (w : World) (hf : Fd w)
    (HU : Hid (∀ W : World, Fd W → Calls Tryz.prog 10 #[.string s] W fun x W' => x = .returned (.tuple #[h.val, .string b, .int .i64 0]) ∧ Below W.heap.size W W'))
    (HEO : Hid (∀ W : World, Calls Tryz.prog 83 #[.agg h.cells, .string b] W (VE W (.agg x.cells))))
    (HR : Hid (∀ W : World, Calls Tryz.prog 48 #[.agg x.cells] W (VE W (.bool false)))) :
    Calls Tryz.prog 56 #[.string s] w (EE w (en0, 4)) := by
  have HZ := hid esize
  have HF := hid hf
  have HZH := hid hsize
  have HB0 := hid ((Below.refl w.heap.size w).alloc (Nat.le_refl _) (.cells en0.cells 28))
  have HR0 : Hid (Row (w.alloc (.cells en0.cells 28)) w.heap.size 28 en0.cells.toList) := hid (Row.new _ _ _)
  clear hf
  go_enter Tryz.func56, Tryz.ntmps56
  go_wp2_with (first
    | (go_at_call 10; refine (HU.out _ (HF.out.below HB0.out HF.out.1)).mono ?_; rintro e w1 ⟨rfl, hb1⟩; have hlt0 := HR0.out.lt; have hr0 := HR0.out.below hb1 hlt0; have hbb := HB0.out.trans (hb1.mono HB0.out.size); clear hb1)
    | (refine wpl_store_head rfl (.tmp 4) (.tmp 11) rfl w1.heap.size h rfl rfl (Row.new _ _ _) ?_; intro w2 hr2 hg2; have hl1 := hr0.lt; have hr0x := (hr0.alloc _).grown hg2 (by intro e; have := Option.some.inj e; omega); have hbb2 := (hbb.alloc hbb.size _).trans (below_grown hg2 hbb.size (by have := hbb.size; simp; omega)); clear hr0 hbb; have hr0 := hr0x; have hbb := hbb2; clear hr0x hbb2 hg2)
    | (refine wpList_load_row rfl 42 (.tmp 4) rfl w1.heap.size rfl 42 h.cells (0, 0) _ hr2.arr Tryz.underlying42 rfl HZH.out ?_)
    | (go_at_call 83; refine (HEO.out _).mono ?_; rintro e w3 ⟨rfl, hb3⟩; have hr0y := hr0.below hb3 hr0.lt; have hr2y := hr2.below hb3 hr2.lt; have hbb3 := hbb.trans (hb3.mono hbb.size); clear hr0 hr2 hbb hb3)
    | (refine wpl_store_st rfl (.tmp 7) (.tmp 19) rfl HZ.out w3.heap.size en0.cells x.cells rfl rfl (Row.new _ _ _) ?_ (hid rfl) (hid rfl) (hid (ecells_one x)); intro w4 hr4 hg4; have hr0 := (hr0y.alloc _).grown hg4 (by intro e; have := Option.some.inj e; have := hr0y.lt; omega); have hr2 := (hr2y.alloc _).grown hg4 (by intro e; have := Option.some.inj e; have := hr2y.lt; omega); have hbb := (hbb3.alloc hbb3.size _).trans (below_grown hg4 hbb3.size (by have := hbb3.size; simp; omega)); clear hr0y hr2y hbb3 hg4))
  simp only [Act.put]
  have HR4 := hid hr4
  have HR2 := hid hr2
  have HRZ := hid hr0
  have HBB := hid hbb
  clear hr4 hr2 hr0 hbb
  go_cut [28] (fun v wx => v = .bool true ∧ Below w4.heap.size w4 wx)
  case first =>
    refine wp_region_held_drew (S := fun W => Below w4.heap.size w4 W) (by kernel_rfl) ((Below.refl _ _).drew) (fun hH => ?_)
    refine wpAnyH_take (i := 0) (v := .agg x.cells) rfl (by kernel_rfl) (by kernel_rfl) (by kernel_rfl) (fun _ _ _ h => h) ?_ hH ?_
    · refine yieldsIf_load_mid ?_ 28 (.tmp 7) ?_ w3.heap.size 0 ?_ (Array.toList x.cells) _ (fun W hW => Row.range (HR4.out.below hW HR4.out.lt)) Tryz.underlying28 rfl HZ.out
      all_goals kernel_rfl
    simp only [Act.put]
    refine wpAnyH_ready (rs := [1]) (by kernel_rfl) (by simp) ?_
    refine AllReadyH.cons rfl (fun K hK => ?_) AllReadyH.nil
    go_simp
    go_at_call 48
    refine (HR.out _).mono ?_
    rintro e w5 ⟨rfl, hb5⟩
    go_wp2_with fail
    refine hK.out _ _ (hH.trans (Below.mono hb5 hH.size)) (fun hH => ?_)
    clear hK K
    try simp only [Act.put]
    refine wpAnyH_take (i := 2) (v := .bool true) rfl (by kernel_rfl) (by kernel_rfl) (by kernel_rfl) (fun _ _ _ h => h) (Or.inl ⟨by rfl, fun w' hw' => by clear hw'; go_simp⟩) hH ?_
    simp only [Act.put]
    refine wpAnyH_take (i := 3) (v := .bool true) rfl (by kernel_rfl) (by kernel_rfl) (by kernel_rfl) (fun _ _ _ h => h) (Or.inl ⟨by rfl, fun w' hw' => by clear hw'; go_simp⟩) hH ?_
    simp only [Act.put]
    refine wpAnyH_take (i := 4) (v := undef) rfl (by kernel_rfl) (by kernel_rfl) (by kernel_rfl) (fun _ _ _ h => h) (Or.inr ⟨by kernel_rfl, rfl⟩) hH ?_
    simp only [Act.put]
    refine wpAnyH_take (i := 5) (v := undef) rfl (by kernel_rfl) (by kernel_rfl) (by kernel_rfl) (fun _ _ _ h => h) (Or.inr ⟨by kernel_rfl, rfl⟩) hH ?_
    simp only [Act.put]
    refine wpAnyH_take (i := 6) (v := undef) rfl (by kernel_rfl) (by kernel_rfl) (by kernel_rfl) (fun _ _ _ h => h) (Or.inr ⟨by kernel_rfl, rfl⟩) hH ?_
    simp only [Act.put]
    refine wpAnyH_ready (rs := [7]) (by kernel_rfl) (by simp) ?_
    refine AllReadyH.cons rfl (fun K hK => ?_) AllReadyH.nil
    go_simp
    refine hK.out _ _ (hH) (fun hH => ?_)
    clear hK K
    try simp only [Act.put]
    refine wpAnyH_ready (rs := [8]) (by kernel_rfl) (by simp) ?_
    refine AllReadyH.cons rfl (fun K hK => ?_) AllReadyH.nil
    go_simp
    refine hK.out _ _ (hH) (fun hH => ?_)
    clear hK K
    try simp only [Act.put]
    refine wpAnyH_done (by kernel_rfl) ?_ _
    try simp only [Act.put]
    go_wp2_with fail
    go_meet
    case rel => exact ⟨rfl, hH⟩
  case rest =>
  obtain ⟨rfl, hbx⟩ := hcut
  have hbb := HBB.out.trans (hbx.mono HBB.out.size)
  have hr0 := HRZ.out.below hbx HRZ.out.lt
  clear hbx
  go_wp2_with (refine wpl_store_st rfl (.tmp 2) (.tmp 29) rfl HZ.out w.heap.size en0.cells en0.cells rfl rfl hr0 ?_ (hid rfl) (hid rfl) (hid (ecells_one en0)); intro wz hrz hgz; have HBZ := hid (hbb.trans (below_grown hgz (Nat.le_refl _) hbb.size)); clear hgz)
  refine bodyPost_ret (v := .tuple #[.agg en0.cells, .int .i64 4]) (results_cell1 rfl _ _ w.heap.size 28 en0.cells (0, 0) _ (.int .i64 4) rfl rfl (Row.arr hrz) Tryz.underlying28 rfl HZ.out) rfl ⟨rfl, HBZ.out⟩
set_option maxHeartbeats 2000000 in
theorem eup_bad (s : ByteArray) (h g : Hd) (b : ByteArray) (x : En) (w : World) (hf : Fd w)
    (HU : Hid (∀ W : World, Fd W → Calls Tryz.prog 10 #[.string s] W fun x W' => x = .returned (.tuple #[h.val, .string b, .int .i64 0]) ∧ Below W.heap.size W W'))
    (HEO : Hid (∀ W : World, Calls Tryz.prog 83 #[.agg h.cells, .string b] W (VE W (.agg x.cells))))
    (HR : Hid (∀ W : World, Calls Tryz.prog 48 #[.agg x.cells] W (VE W (.bool true))))
    (HH : Hid (∀ W : World, Calls Tryz.prog 84 #[.agg x.cells] W (VE W (.agg g.cells))))
    (HEQ : Hid (∀ W : World, (Op.equalIn 10000 42 (.agg g.cells) (.agg h.cells)).run Tryz.prog W = .ok false W)) :
    Calls Tryz.prog 56 #[.string s] w (EE w (en0, 4)) := by
  have HZ := hid esize
  have HF := hid hf
  have HZH := hid hsize
  have HB0 := hid ((Below.refl w.heap.size w).alloc (Nat.le_refl _) (.cells en0.cells 28))
  have HR0 : Hid (Row (w.alloc (.cells en0.cells 28)) w.heap.size 28 en0.cells.toList) := hid (Row.new _ _ _)
  clear hf
  go_enter Tryz.func56, Tryz.ntmps56
  go_wp2_with (first
    | (go_at_call 10; refine (HU.out _ (HF.out.below HB0.out HF.out.1)).mono ?_; rintro e w1 ⟨rfl, hb1⟩; have hlt0 := HR0.out.lt; have hr0 := HR0.out.below hb1 hlt0; have hbb := HB0.out.trans (hb1.mono HB0.out.size); clear hb1)
    | (refine wpl_store_head rfl (.tmp 4) (.tmp 11) rfl w1.heap.size h rfl rfl (Row.new _ _ _) ?_; intro w2 hr2 hg2; have hl1 := hr0.lt; have hr0x := (hr0.alloc _).grown hg2 (by intro e; have := Option.some.inj e; omega); have hbb2 := (hbb.alloc hbb.size _).trans (below_grown hg2 hbb.size (by have := hbb.size; simp; omega)); clear hr0 hbb; have hr0 := hr0x; have hbb := hbb2; clear hr0x hbb2 hg2)
    | (refine wpList_load_row rfl 42 (.tmp 4) rfl w1.heap.size rfl 42 h.cells (0, 0) _ hr2.arr Tryz.underlying42 rfl HZH.out ?_)
    | (go_at_call 83; refine (HEO.out _).mono ?_; rintro e w3 ⟨rfl, hb3⟩; have hr0y := hr0.below hb3 hr0.lt; have hr2y := hr2.below hb3 hr2.lt; have hbb3 := hbb.trans (hb3.mono hbb.size); clear hr0 hr2 hbb hb3)
    | (refine wpl_store_st rfl (.tmp 7) (.tmp 19) rfl HZ.out w3.heap.size en0.cells x.cells rfl rfl (Row.new _ _ _) ?_ (hid rfl) (hid rfl) (hid (ecells_one x)); intro w4 hr4 hg4; have hr0 := (hr0y.alloc _).grown hg4 (by intro e; have := Option.some.inj e; have := hr0y.lt; omega); have hr2 := (hr2y.alloc _).grown hg4 (by intro e; have := Option.some.inj e; have := hr2y.lt; omega); have hbb := (hbb3.alloc hbb3.size _).trans (below_grown hg4 hbb3.size (by have := hbb3.size; simp; omega)); clear hr0y hr2y hbb3 hg4))
  simp only [Act.put]
  have HR4 := hid hr4
  have HR2 := hid hr2
  have HRZ := hid hr0
  have HBB := hid hbb
  clear hr4 hr2 hr0 hbb
  go_cut [28] (fun v wx => v = .bool true ∧ Below w4.heap.size w4 wx)
  case first =>
    refine wp_region_held_drew (S := fun W => Below w4.heap.size w4 W) (by kernel_rfl) ((Below.refl _ _).drew) (fun hH => ?_)
    refine wpAnyH_take (i := 0) (v := .agg x.cells) rfl (by kernel_rfl) (by kernel_rfl) (by kernel_rfl) (fun _ _ _ h => h) ?_ hH ?_
    · refine yieldsIf_load_mid ?_ 28 (.tmp 7) ?_ w3.heap.size 0 ?_ (Array.toList x.cells) _ (fun W hW => Row.range (HR4.out.below hW HR4.out.lt)) Tryz.underlying28 rfl HZ.out
      all_goals kernel_rfl
    simp only [Act.put]
    refine wpAnyH_ready (rs := [1]) (by kernel_rfl) (by simp) ?_
    refine AllReadyH.cons rfl (fun K hK => ?_) AllReadyH.nil
    go_simp
    go_at_call 48
    refine (HR.out _).mono ?_
    rintro e w5 ⟨rfl, hb5⟩
    go_wp2_with fail
    refine hK.out _ _ (hH.trans (Below.mono hb5 hH.size)) (fun hH => ?_)
    clear hK K
    try simp only [Act.put]
    refine wpAnyH_take (i := 2) (v := .bool false) rfl (by kernel_rfl) (by kernel_rfl) (by kernel_rfl) (fun _ _ _ h => h) (Or.inl ⟨by rfl, fun w' hw' => by clear hw'; go_simp⟩) hH ?_
    simp only [Act.put]
    refine wpAnyH_take (i := 3) (v := .bool false) rfl (by kernel_rfl) (by kernel_rfl) (by kernel_rfl) (fun _ _ _ h => h) (Or.inl ⟨by rfl, fun w' hw' => by clear hw'; go_simp⟩) hH ?_
    simp only [Act.put]
    refine wpAnyH_take (i := 4) (v := .agg x.cells) rfl (by kernel_rfl) (by kernel_rfl) (by kernel_rfl) (fun _ _ _ h => h) ?_ hH ?_
    · refine yieldsIf_load_mid ?_ 28 (.tmp 7) ?_ w3.heap.size 0 ?_ (Array.toList x.cells) _ (fun W hW => Row.range (HR4.out.below hW HR4.out.lt)) Tryz.underlying28 rfl HZ.out
      all_goals kernel_rfl
    simp only [Act.put]
    refine wpAnyH_take (i := 6) (v := .agg h.cells) rfl (by kernel_rfl) (by kernel_rfl) (by kernel_rfl) (fun _ _ _ h => h) ?_ hH ?_
    · refine yieldsIf_load_mid ?_ 42 (.tmp 4) ?_ w1.heap.size 0 ?_ (Array.toList h.cells) _ (fun W hW => Row.range (HR2.out.below hW HR2.out.lt)) Tryz.underlying42 rfl HZH.out
      all_goals kernel_rfl
    simp only [Act.put]
    refine wpAnyH_ready (rs := [5]) (by kernel_rfl) (by simp) ?_
    refine AllReadyH.cons rfl (fun K hK => ?_) AllReadyH.nil
    rw [if_pos (by kernel_rfl)]
    go_simp
    go_at_call 84
    refine (HH.out _).mono ?_
    rintro e w6 ⟨rfl, hb6⟩
    go_wp2_with fail
    refine hK.out _ _ (hH.trans (Below.mono hb6 hH.size)) (fun hH => ?_)
    clear hK K
    try simp only [Act.put]
    refine wpAnyH_take (i := 7) (v := .bool true) rfl (by kernel_rfl) (by kernel_rfl) (by kernel_rfl) (fun _ _ _ h => h) ?_ hH ?_
    · refine yields_neh ?_ (.tmp 25) (.tmp 26) 42 ?_ g.cells h.cells ?_ ?_ false HEQ.out
      all_goals kernel_rfl
    simp only [Act.put]
    refine wpAnyH_ready (rs := [8]) (by kernel_rfl) (by simp) ?_
    refine AllReadyH.cons rfl (fun K hK => ?_) AllReadyH.nil
    go_simp
    refine hK.out _ _ (hH) (fun hH => ?_)
    clear hK K
    try simp only [Act.put]
    refine wpAnyH_done (by kernel_rfl) ?_ _
    try simp only [Act.put]
    go_wp2_with fail
    go_meet
    case rel => exact ⟨rfl, hH⟩
  case rest =>
  obtain ⟨rfl, hbx⟩ := hcut
  have hbb := HBB.out.trans (hbx.mono HBB.out.size)
  have hr0 := HRZ.out.below hbx HRZ.out.lt
  clear hbx
  go_wp2_with (refine wpl_store_st rfl (.tmp 2) (.tmp 29) rfl HZ.out w.heap.size en0.cells en0.cells rfl rfl hr0 ?_ (hid rfl) (hid rfl) (hid (ecells_one en0)); intro wz hrz hgz; have HBZ := hid (hbb.trans (below_grown hgz (Nat.le_refl _) hbb.size)); clear hgz)
  refine bodyPost_ret (v := .tuple #[.agg en0.cells, .int .i64 4]) (results_cell1 rfl _ _ w.heap.size 28 en0.cells (0, 0) _ (.int .i64 4) rfl rfl (Row.arr hrz) Tryz.underlying28 rfl HZ.out) rfl ⟨rfl, HBZ.out⟩
set_option maxHeartbeats 2000000 in
theorem eup_good (s : ByteArray) (h g : Hd) (b : ByteArray) (x : En) (w : World) (hf : Fd w)
    (HU : Hid (∀ W : World, Fd W → Calls Tryz.prog 10 #[.string s] W fun x W' => x = .returned (.tuple #[h.val, .string b, .int .i64 0]) ∧ Below W.heap.size W W'))
    (HEO : Hid (∀ W : World, Calls Tryz.prog 83 #[.agg h.cells, .string b] W (VE W (.agg x.cells))))
    (HR : Hid (∀ W : World, Calls Tryz.prog 48 #[.agg x.cells] W (VE W (.bool true))))
    (HH : Hid (∀ W : World, Calls Tryz.prog 84 #[.agg x.cells] W (VE W (.agg g.cells))))
    (HEQ : Hid (∀ W : World, (Op.equalIn 10000 42 (.agg g.cells) (.agg h.cells)).run Tryz.prog W = .ok true W)) :
    Calls Tryz.prog 56 #[.string s] w (EE w (x, 0)) := by
  have HZ := hid esize
  have HF := hid hf
  have HZH := hid hsize
  have HB0 := hid ((Below.refl w.heap.size w).alloc (Nat.le_refl _) (.cells en0.cells 28))
  have HR0 : Hid (Row (w.alloc (.cells en0.cells 28)) w.heap.size 28 en0.cells.toList) := hid (Row.new _ _ _)
  clear hf
  go_enter Tryz.func56, Tryz.ntmps56
  go_wp2_with (first
    | (go_at_call 10; refine (HU.out _ (HF.out.below HB0.out HF.out.1)).mono ?_; rintro e w1 ⟨rfl, hb1⟩; have hlt0 := HR0.out.lt; have hr0 := HR0.out.below hb1 hlt0; have hbb := HB0.out.trans (hb1.mono HB0.out.size); clear hb1)
    | (refine wpl_store_head rfl (.tmp 4) (.tmp 11) rfl w1.heap.size h rfl rfl (Row.new _ _ _) ?_; intro w2 hr2 hg2; have hl1 := hr0.lt; have hr0x := (hr0.alloc _).grown hg2 (by intro e; have := Option.some.inj e; omega); have hbb2 := (hbb.alloc hbb.size _).trans (below_grown hg2 hbb.size (by have := hbb.size; simp; omega)); clear hr0 hbb; have hr0 := hr0x; have hbb := hbb2; clear hr0x hbb2 hg2)
    | (refine wpList_load_row rfl 42 (.tmp 4) rfl w1.heap.size rfl 42 h.cells (0, 0) _ hr2.arr Tryz.underlying42 rfl HZH.out ?_)
    | (go_at_call 83; refine (HEO.out _).mono ?_; rintro e w3 ⟨rfl, hb3⟩; have hr0y := hr0.below hb3 hr0.lt; have hr2y := hr2.below hb3 hr2.lt; have hbb3 := hbb.trans (hb3.mono hbb.size); clear hr0 hr2 hbb hb3)
    | (refine wpl_store_st rfl (.tmp 7) (.tmp 19) rfl HZ.out w3.heap.size en0.cells x.cells rfl rfl (Row.new _ _ _) ?_ (hid rfl) (hid rfl) (hid (ecells_one x)); intro w4 hr4 hg4; have hr0 := (hr0y.alloc _).grown hg4 (by intro e; have := Option.some.inj e; have := hr0y.lt; omega); have hr2 := (hr2y.alloc _).grown hg4 (by intro e; have := Option.some.inj e; have := hr2y.lt; omega); have hbb := (hbb3.alloc hbb3.size _).trans (below_grown hg4 hbb3.size (by have := hbb3.size; simp; omega)); clear hr0y hr2y hbb3 hg4))
  simp only [Act.put]
  have HR4 := hid hr4
  have HR2 := hid hr2
  have HRZ := hid hr0
  have HBB := hid hbb
  clear hr4 hr2 hr0 hbb
  go_cut [28] (fun v wx => v = .bool false ∧ Below w4.heap.size w4 wx)
  case first =>
    refine wp_region_held_drew (S := fun W => Below w4.heap.size w4 W) (by kernel_rfl) ((Below.refl _ _).drew) (fun hH => ?_)
    refine wpAnyH_take (i := 0) (v := .agg x.cells) rfl (by kernel_rfl) (by kernel_rfl) (by kernel_rfl) (fun _ _ _ h => h) ?_ hH ?_
    · refine yieldsIf_load_mid ?_ 28 (.tmp 7) ?_ w3.heap.size 0 ?_ (Array.toList x.cells) _ (fun W hW => Row.range (HR4.out.below hW HR4.out.lt)) Tryz.underlying28 rfl HZ.out
      all_goals kernel_rfl
    simp only [Act.put]
    refine wpAnyH_ready (rs := [1]) (by kernel_rfl) (by simp) ?_
    refine AllReadyH.cons rfl (fun K hK => ?_) AllReadyH.nil
    go_simp
    go_at_call 48
    refine (HR.out _).mono ?_
    rintro e w5 ⟨rfl, hb5⟩
    go_wp2_with fail
    refine hK.out _ _ (hH.trans (Below.mono hb5 hH.size)) (fun hH => ?_)
    clear hK K
    try simp only [Act.put]
    refine wpAnyH_take (i := 2) (v := .bool false) rfl (by kernel_rfl) (by kernel_rfl) (by kernel_rfl) (fun _ _ _ h => h) (Or.inl ⟨by rfl, fun w' hw' => by clear hw'; go_simp⟩) hH ?_
    simp only [Act.put]
    refine wpAnyH_take (i := 3) (v := .bool false) rfl (by kernel_rfl) (by kernel_rfl) (by kernel_rfl) (fun _ _ _ h => h) (Or.inl ⟨by rfl, fun w' hw' => by clear hw'; go_simp⟩) hH ?_
    simp only [Act.put]
    refine wpAnyH_take (i := 4) (v := .agg x.cells) rfl (by kernel_rfl) (by kernel_rfl) (by kernel_rfl) (fun _ _ _ h => h) ?_ hH ?_
    · refine yieldsIf_load_mid ?_ 28 (.tmp 7) ?_ w3.heap.size 0 ?_ (Array.toList x.cells) _ (fun W hW => Row.range (HR4.out.below hW HR4.out.lt)) Tryz.underlying28 rfl HZ.out
      all_goals kernel_rfl
    simp only [Act.put]
    refine wpAnyH_take (i := 6) (v := .agg h.cells) rfl (by kernel_rfl) (by kernel_rfl) (by kernel_rfl) (fun _ _ _ h => h) ?_ hH ?_
    · refine yieldsIf_load_mid ?_ 42 (.tmp 4) ?_ w1.heap.size 0 ?_ (Array.toList h.cells) _ (fun W hW => Row.range (HR2.out.below hW HR2.out.lt)) Tryz.underlying42 rfl HZH.out
      all_goals kernel_rfl
    simp only [Act.put]
    refine wpAnyH_ready (rs := [5]) (by kernel_rfl) (by simp) ?_
    refine AllReadyH.cons rfl (fun K hK => ?_) AllReadyH.nil
    rw [if_pos (by kernel_rfl)]
    go_simp
    go_at_call 84
    refine (HH.out _).mono ?_
    rintro e w6 ⟨rfl, hb6⟩
    go_wp2_with fail
    refine hK.out _ _ (hH.trans (Below.mono hb6 hH.size)) (fun hH => ?_)
    clear hK K
    try simp only [Act.put]
    refine wpAnyH_take (i := 7) (v := .bool false) rfl (by kernel_rfl) (by kernel_rfl) (by kernel_rfl) (fun _ _ _ h => h) ?_ hH ?_
    · refine yields_neh ?_ (.tmp 25) (.tmp 26) 42 ?_ g.cells h.cells ?_ ?_ true HEQ.out
      all_goals kernel_rfl
    simp only [Act.put]
    refine wpAnyH_ready (rs := [8]) (by kernel_rfl) (by simp) ?_
    refine AllReadyH.cons rfl (fun K hK => ?_) AllReadyH.nil
    go_simp
    refine hK.out _ _ (hH) (fun hH => ?_)
    clear hK K
    try simp only [Act.put]
    refine wpAnyH_done (by kernel_rfl) ?_ _
    try simp only [Act.put]
    go_wp2_with fail
    go_meet
    case rel => exact ⟨rfl, hH⟩
  case rest =>
  obtain ⟨rfl, hbx⟩ := hcut
  have hbb := HBB.out.trans (hbx.mono HBB.out.size)
  have hr0 := HRZ.out.below hbx HRZ.out.lt
  have hr4 := HR4.out.below hbx HR4.out.lt
  clear hbx
  go_wp2_with (first
    | (refine wpList_load_row rfl 28 (.tmp 7) rfl w3.heap.size rfl 28 x.cells (0, 0) _ hr4.arr Tryz.underlying28 rfl HZ.out ?_)
    | (refine wpl_store_st rfl (.tmp 2) (.tmp 30) rfl HZ.out w.heap.size en0.cells x.cells rfl rfl hr0 ?_ (hid rfl) (hid rfl) (hid (ecells_one x)); intro wz hrz hgz; have HBZ := hid (hbb.trans (below_grown hgz (Nat.le_refl _) hbb.size)); clear hgz))
  refine bodyPost_ret (v := .tuple #[.agg x.cells, .int .i64 0]) (results_cell1 rfl _ _ w.heap.size 28 x.cells (0, 0) _ (.int .i64 0) rfl rfl (Row.arr hrz) Tryz.underlying28 rfl HZ.out) rfl ⟨rfl, HBZ.out⟩
theorem eup_any (s : ByteArray) (w : World) (hf : Fd w) (hbig : s.size ≤ 281474976710656) : Calls Tryz.prog 56 #[.string s] w (EE w (unpackE (sb s))) := by
  have HU := hid (fun W hW => unp_any s W hW hbig)
  unfold unpackE
  generalize unpackS (sb s) = r at HU ⊢
  obtain ⟨h, b, f⟩ := r
  simp only
  obtain ⟨bb, hbb⟩ : ∃ bb : ByteArray, bb = ⟨b.toArray⟩ := ⟨_, rfl⟩
  rw [← hbb]
  have HU2 : Hid (∀ W : World, Fd W → Calls Tryz.prog 10 #[.string s] W fun x W' => x = .returned (.tuple #[h.val, .string bb, .int .i64 f]) ∧ Below W.heap.size W W') := hid fun W hW => by rw [hbb]; exact HU.out W hW
  by_cases h0 : f = 0
  · subst h0
    have HEO := hid (fun W => eof_any h bb W)
    have HR := hid (fun W => eright_any (eof h bb) W)
    have HH := hid (fun W => hof_any (eof h bb) W)
    have HEQ := hid (fun W => eql_head (hof (eof h bb)) h W)
    by_cases h1 : Rt (eof h bb)
    · rw [decide_eq_true h1] at HR
      by_cases h2 : hof (eof h bb) = h
      · rw [if_pos ⟨rfl, h1, h2⟩]
        rw [decide_eq_true h2] at HEQ
        exact eup_good s h (hof (eof h bb)) bb (eof h bb) w hf HU2 HEO HR HH HEQ
      · rw [if_neg (fun c => h2 c.2.2)]
        rw [decide_eq_false h2] at HEQ
        exact eup_bad s h (hof (eof h bb)) bb (eof h bb) w hf HU2 HEO HR HH HEQ
    · rw [if_neg (fun c => h1 c.2.1)]
      rw [decide_eq_false h1] at HR
      exact eup_no s h bb (eof h bb) w hf HU2 HEO HR
  · rw [if_neg (fun c => h0 c.1)]
    exact eup_none s h bb f w hf (by simpa using h0) HU2
end Go.Proofs.YtcildaeiogdfdaaGreatDoor
/-
  The walk of the document's take (package comptorref05); a header out of its bytes.
-/
namespace Go.Proofs.YtcildaeiogdfdaaGreatDoor
open Go.RowKit
set_option maxRecDepth 10000

/-- eight bytes at a place as a number -/
def n8 (s : List UInt8) (a : Nat) : Nat := leV ((s.drop a).take 8)
set_option maxHeartbeats 1000000 in
theorem rtk_any (s : ByteArray) (a : Nat) (ha : a + 8 ≤ s.size) (hs : s.size ≤ 1000000) (w : World) : Calls Tryz.prog 32 #[.string s, .int .i64 (a : Int), .int .i64 8] w (VE w (.int .u64 ((n8 (sb s) a : Nat) : Int))) := by
  have HT : Hid (∀ (W : World) (g c j : Nat), FRow W g 5 (bvs (sb s) ++ List.replicate j (.int .u8 0)) → Calls Tryz.prog 34 #[.slice (some ⟨g, 0, none⟩) s.size c, .int .i64 (a : Int), .int .i64 8] W fun e w' => e = .returned (.tuple #[.int .u64 ((n8 (sb s) a : Nat) : Int), .int .i64 0]) ∧ Below W.heap.size W w') := hid (by
    intro W g c j hr
    have h1 : Rd W (g + 1) (some ⟨g, 0, none⟩) (bvs (sb s)) := by
      have := (hr.rd (B := g + 1) (by omega)).take (bvs (sb s)).length
      rwa [List.take_left] at this
    have h2 := rtake_any (some ⟨g, 0, none⟩) (sb s) s.size c (g + 1) (a : Int) 8 W h1 (sb_len s).symm (by omega)
    have e : takeS (sb s) (a : Int) 8 = (n8 (sb s) a, 0) := by
      have hl := sb_len s
      unfold takeS
      rw [if_neg (by omega), if_neg (by omega)]
      rfl
    rw [e] at h2
    exact h2)
  generalize n8 (sb s) a = n at *
  clear ha hs
  go_enter Tryz.func32, Tryz.ntmps32
  go_wp2_with (first
    | (with_reducible refine wpl_bytes rfl _ _ _ rfl 5 Tryz.underlying9 Tryz.underlying47 Tryz.underlying5 s rfl ?_; intro g c k0 w1 HG HC HR HB)
    | (go_at_call 34; refine (HT.out _ _ _ _ HR).mono ?_; rintro e w2 ⟨rfl, hb2⟩))
  go_ret
  exact ⟨rfl, HB.trans (hb2.mono HB.size)⟩
theorem tk_take (s : List UInt8) (k : Nat) (hk : k < 15) : tk (s.take 128) k = tk s k := by
  have h1 := sz_lo k hk
  have h2 := off_more k hk
  unfold tk
  rw [List.drop_take, List.take_take, Nat.min_eq_left (by omega)]
theorem tk_n8 (s : List UInt8) (k a : Nat) (h1 : 4 + off k = a) (h2 : sz k = 8) : tk s k = n8 s a := by
  unfold tk n8
  rw [h1, h2]
theorem tk_one (s : List UInt8) (k a : Nat) (h1 : 4 + off k = a) (h2 : sz k = 1) (h : a < s.length) : tk s k = s[a].toNat := by
  unfold tk
  rw [h1, h2, List.drop_eq_getElem_cons h, List.take_succ_cons, List.take_zero]
  simp [leV]
/-- the header in the first bytes -/
def hdS (s : List UInt8) : Hd := hdOf (takeN (s.take 128))
theorem takeN_get (s : List UInt8) (k : Nat) (hk : k < 15) : (takeN s).getD k 0 = tk s k := by
  unfold takeN
  rw [List.getD, List.getElem?_map, List.getElem?_range hk]
  rfl
theorem hdS_eq (s : List UInt8) (h : 128 ≤ s.length) : hdS s = ⟨sg (s[8]'(by omega)).toNat, sg (s[9]'(by omega)).toNat, sg (s[10]'(by omega)).toNat, sg (n8 s 24), sg (n8 s 32), sg (n8 s 40), sg (n8 s 48), sg (n8 s 56), sg (n8 s 64), sg (n8 s 72), sg (n8 s 80), n8 s 16⟩ := by
  unfold hdS hdOf
  simp only [takeN_get _ _ (show 1 < 15 by decide), takeN_get _ _ (show 2 < 15 by decide), takeN_get _ _ (show 3 < 15 by decide), takeN_get _ _ (show 6 < 15 by decide), takeN_get _ _ (show 7 < 15 by decide), takeN_get _ _ (show 8 < 15 by decide), takeN_get _ _ (show 9 < 15 by decide), takeN_get _ _ (show 10 < 15 by decide), takeN_get _ _ (show 11 < 15 by decide), takeN_get _ _ (show 12 < 15 by decide), takeN_get _ _ (show 13 < 15 by decide), takeN_get _ _ (show 14 < 15 by decide)]
  rw [tk_take s 1 (by decide), tk_take s 2 (by decide), tk_take s 3 (by decide), tk_take s 6 (by decide), tk_take s 7 (by decide), tk_take s 8 (by decide), tk_take s 9 (by decide), tk_take s 10 (by decide), tk_take s 11 (by decide), tk_take s 12 (by decide), tk_take s 13 (by decide), tk_take s 14 (by decide)]
  rw [tk_one s 1 8 rfl rfl (by omega), tk_one s 2 9 rfl rfl (by omega), tk_one s 3 10 rfl rfl (by omega), tk_n8 s 6 16 rfl rfl, tk_n8 s 7 24 rfl rfl, tk_n8 s 8 32 rfl rfl, tk_n8 s 9 40 rfl rfl, tk_n8 s 10 48 rfl rfl, tk_n8 s 11 56 rfl rfl, tk_n8 s 12 64 rfl rfl, tk_n8 s 13 72 rfl rfl, tk_n8 s 14 80 rfl rfl]
theorem n8_lt (s : List UInt8) (a : Nat) : n8 s a < 18446744073709551616 := by
  have h := leV_lt ((s.drop a).take 8)
  have h2 : ((s.drop a).take 8).length ≤ 8 := by rw [List.length_take]; omega
  have h3 : 2 ^ (8 * ((s.drop a).take 8).length) ≤ 2 ^ 64 := Nat.pow_le_pow_right (by omega) (by omega)
  exact Nat.lt_of_lt_of_le h h3
theorem sg_in (n : Nat) : In64 (sg n) := by
  unfold In64 sg wrap64
  omega
theorem hdS_fits (s : List UInt8) (h : 128 ≤ s.length) : (hdS s).fits := by
  rw [hdS_eq s h]
  exact ⟨⟨sg_in _, sg_in _, sg_in _, sg_in _, sg_in _, sg_in _⟩, ⟨sg_in _, sg_in _, sg_in _, sg_in _, sg_in _⟩, n8_lt _ _⟩
end Go.Proofs.YtcildaeiogdfdaaGreatDoor
