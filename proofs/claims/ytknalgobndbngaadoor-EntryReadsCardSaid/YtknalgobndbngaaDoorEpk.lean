/-
  The walk of package entry's Pack.
-/
import Derived.Test.YtknalgobndbngaaDoorWin
import Derived.Test.YtknalgobndbngaaDoorFactsh
import Derived.Test.YtknalgobndbngaaDoorHof
namespace Go.Proofs.YtknalgobndbngaaDoor
open Go.RowKit
set_option maxRecDepth 10000

/-- what Pack answers -/
def packE (e : En) : List UInt8 × Int := if Rt e then packS (hof e) (sb e.body) else ([], 4)
set_option maxHeartbeats 1000000 in
theorem epack_no (E : Array Value) (w : World) (hE : (Tryd.prog.info? 24).map (·.size) = some E.size)
    (HR : Hid (∀ W : World, Calls Tryd.prog 11 #[.agg E] W (VE W (.bool false)))) :
    Calls Tryd.prog 9 #[.agg E] w (SN w ([], 4)) := by
  have HE := hid hE
  have HB := hid ((Below.refl w.heap.size w).alloc (Nat.le_refl _) (.cells E 24))
  have HRW : Hid (Row (w.alloc (.cells E 24)) w.heap.size 24 E.toList) := hid (Row.new _ _ _)
  clear hE
  go_enter Tryd.func9, Tryd.ntmps9
  go_wp2_with (first
    | (refine wpList_load_row rfl 24 (.tmp 1) rfl w.heap.size rfl 24 E (0, 0) _ HRW.out.arr Tryd.underlying24 rfl HE.out ?_)
    | (go_at_call 11; refine (HR.out _).mono ?_; rintro e w1 ⟨rfl, hb1⟩))
  go_ret2
  exact ⟨rfl, HB.out.trans (hb1.mono HB.out.size)⟩

set_option maxHeartbeats 2000000 in
theorem epack_yes (view opn under : Int) (parent : Nat) (client session request oper : Int) (body : ByteArray) (T : ByteArray) (f : Int) (w : World) (hf : Fd w)
    (HR : Hid (∀ W : World, Calls Tryd.prog 11 #[.agg #[.int .i64 view, .int .i64 opn, .int .i64 under, .int .u64 (parent : Int), .int .i64 client, .int .i64 session, .int .i64 request, .int .i64 oper, .string body]] W (VE W (.bool true))))
    (HH : Hid (∀ W : World, Calls Tryd.prog 21 #[.agg #[.int .i64 view, .int .i64 opn, .int .i64 under, .int .u64 (parent : Int), .int .i64 client, .int .i64 session, .int .i64 request, .int .i64 oper, .string body]] W (VE W (.agg #[.int .i64 255, .int .i64 0, .int .i64 oper, .int .i64 view, .int .i64 opn, .int .i64 0, .int .i64 client, .int .i64 session, .int .i64 request, .int .i64 under, .int .i64 0, .int .u64 (parent : Int)]))))
    (HP : Hid (∀ W : World, Fd W → Calls Tryd.prog 20 #[.agg #[.int .i64 255, .int .i64 0, .int .i64 oper, .int .i64 view, .int .i64 opn, .int .i64 0, .int .i64 client, .int .i64 session, .int .i64 request, .int .i64 under, .int .i64 0, .int .u64 (parent : Int)], .string body] W fun x W' => x = .returned (.tuple #[.string T, .int .i64 f]) ∧ Below W.heap.size W W')) :
    Calls Tryd.prog 9 #[.agg #[.int .i64 view, .int .i64 opn, .int .i64 under, .int .u64 (parent : Int), .int .i64 client, .int .i64 session, .int .i64 request, .int .i64 oper, .string body]] w fun x W' => x = .returned (.tuple #[.string T, .int .i64 f]) ∧ Below w.heap.size w W' := by
  have HZ := hid esize
  have HF := hid hf
  have HB := hid ((Below.refl w.heap.size w).alloc (Nat.le_refl _) (.cells #[.int .i64 view, .int .i64 opn, .int .i64 under, .int .u64 (parent : Int), .int .i64 client, .int .i64 session, .int .i64 request, .int .i64 oper, .string body] 24))
  have HRW : Hid (Row (w.alloc (.cells #[.int .i64 view, .int .i64 opn, .int .i64 under, .int .u64 (parent : Int), .int .i64 client, .int .i64 session, .int .i64 request, .int .i64 oper, .string body] 24)) w.heap.size 24 (#[.int .i64 view, .int .i64 opn, .int .i64 under, .int .u64 (parent : Int), .int .i64 client, .int .i64 session, .int .i64 request, .int .i64 oper, .string body] : Array Value).toList) := hid (Row.new _ _ _)
  clear hf
  go_enter Tryd.func9, Tryd.ntmps9
  go_wp2_with (go_at_call 11; refine (HR.out _).mono ?_; rintro e w1 ⟨rfl, hb1⟩; have HB1 := hid (HB.out.trans (hb1.mono HB.out.size)); have HE1 := hid (HRW.out.below hb1 HRW.out.lt); clear hb1)
  have HF1 := hid (HF.out.below HB1.out HF.out.1)
  refine wp_region_held_drew (S := fun W => Below w1.heap.size w1 W) (by kernel_rfl) ((Below.refl _ _).drew) (fun hH => ?_)
  refine wpAnyH_take (i := 0) (v := .agg #[.int .i64 view, .int .i64 opn, .int .i64 under, .int .u64 (parent : Int), .int .i64 client, .int .i64 session, .int .i64 request, .int .i64 oper, .string body]) rfl (by kernel_rfl) (by kernel_rfl) (by kernel_rfl) (fun _ _ _ h => h) ?_ hH ?_
  · refine yieldsIf_load_mid ?_ 24 (.tmp 1) ?_ w.heap.size 0 ?_ (Array.toList #[.int .i64 view, .int .i64 opn, .int .i64 under, .int .u64 (parent : Int), .int .i64 client, .int .i64 session, .int .i64 request, .int .i64 oper, .string body]) _ (fun W hW => Row.range (HE1.out.below hW HE1.out.lt)) Tryd.underlying24 rfl HZ.out
    all_goals kernel_rfl
  simp only [Act.put]
  refine wpAnyH_take (i := 2) (v := .pointer (some ⟨w.heap.size, 8, none⟩)) rfl (by kernel_rfl) (by kernel_rfl) (by kernel_rfl) (fun _ _ _ h => h) (Or.inl ⟨by rfl, fun w' hw' => by clear hw'; go_simp⟩) hH ?_
  simp only [Act.put]
  refine wpAnyH_take (i := 3) (v := .string body) rfl (by kernel_rfl) (by kernel_rfl) (by kernel_rfl) (fun _ _ _ h => h) (Or.inl ⟨by rfl, fun w' hw' => by have h := (HE1.out.below hw' HE1.out.lt).at_ 8 _ rfl; clear hw'; go_simp⟩) hH ?_
  simp only [Act.put]
  refine wpAnyH_ready (rs := [1]) (by kernel_rfl) (by simp) ?_
  refine AllReadyH.cons rfl (fun K hK => ?_) AllReadyH.nil
  go_simp
  go_at_call 21
  refine (HH.out _).mono ?_
  rintro e w2 ⟨rfl, hb2⟩
  go_wp2_with fail
  refine hK.out _ _ (hH.trans (Below.mono hb2 hH.size)) (fun hH => ?_)
  clear hK K
  try simp only [Act.put]
  refine wpAnyH_ready (rs := [4]) (by kernel_rfl) (by simp) ?_
  refine AllReadyH.cons rfl (fun K hK => ?_) AllReadyH.nil
  go_simp
  go_at_call 20
  refine (HP.out _ (HF1.out.below hH HF1.out.1)).mono ?_
  rintro e w3 ⟨rfl, hb3⟩
  go_wp2_with fail
  refine hK.out _ _ (hH.trans (Below.mono hb3 hH.size)) (fun hH => ?_)
  clear hK K
  try simp only [Act.put]
  refine wpAnyH_take (i := 5) (v := .string T) rfl (by kernel_rfl) (by kernel_rfl) (by kernel_rfl) (fun _ _ _ h => h) (Or.inl ⟨by rfl, fun w' hw' => by clear hw'; go_simp⟩) hH ?_
  simp only [Act.put]
  refine wpAnyH_take (i := 6) (v := .int .i64 f) rfl (by kernel_rfl) (by kernel_rfl) (by kernel_rfl) (fun _ _ _ h => h) (Or.inl ⟨by rfl, fun w' hw' => by clear hw'; go_simp⟩) hH ?_
  simp only [Act.put]
  refine wpAnyH_ready (rs := [7]) (by kernel_rfl) (by simp) ?_
  refine AllReadyH.cons rfl (fun K hK => ?_) AllReadyH.nil
  go_simp
  refine hK.out _ _ (hH) (fun hH => ?_)
  clear hK K
  try simp only [Act.put]
  refine wpAnyH_ready (rs := [8]) (by kernel_rfl) (by simp) ?_
  refine AllReadyH.cons rfl (fun K hK => ?_) AllReadyH.nil
  go_simp
  refine hK.out _ _ (hH) (fun hH => ?_)
  clear hK K
  try simp only [Act.put]
  refine wpAnyH_done (by kernel_rfl) ?_ _
  try simp only [Act.put]
  go_wp2_with fail
  go_ret2
  exact ⟨rfl, HB1.out.trans (hH.mono HB1.out.size)⟩

theorem packS_rt {e : En} (he : e.fits) (h : Rt e) : Fits (hof e).nums ∧ (hof e).fits := by
  obtain ⟨⟨a1, a2, a3, a4⟩, ⟨b1, b2, b3⟩, hp⟩ := he
  obtain ⟨h1, h2, h3, h4, h5, h6, h7, h8, h9⟩ := h
  have hh : (hof e).fits := ⟨⟨⟨by show (-9223372036854775808 : Int) ≤ 255; omega, by show (255 : Int) ≤ _; omega⟩, ⟨by show (-9223372036854775808 : Int) ≤ 0; omega, by show (0 : Int) ≤ _; omega⟩, b3, a1, a2, ⟨by show (-9223372036854775808 : Int) ≤ 0; omega, by show (0 : Int) ≤ _; omega⟩⟩, ⟨a4, b1, b2, a3, ⟨by show (-9223372036854775808 : Int) ≤ 0; omega, by show (0 : Int) ≤ _; omega⟩⟩, hp⟩
  refine ⟨?_, hh⟩
  have hr := right_fits (hof e) hh
  have : rightS (hof e) = true := by
    unfold rightS sm ft hof
    simp only [Bool.and_eq_true, decide_eq_true_eq]
    exact ⟨⟨⟨⟨⟨⟨⟨⟨⟨⟨⟨by omega, by omega⟩, by omega, by omega⟩, by omega, by omega⟩, h3⟩, by omega, by omega⟩, by omega, by omega⟩, by omega, by omega⟩, h5⟩, h6⟩, h4⟩, by omega, by omega⟩
  rw [this] at hr
  exact of_decide_eq_true hr.symm
theorem epack_any (e : En) (w : World) (hf : Fd w) : Calls Tryd.prog 9 #[e.val] w (SN w (packE e)) := by
  have HR := hid (fun W => eright_any e W)
  unfold packE
  by_cases h : Rt e
  · rw [if_pos h]
    rw [decide_eq_true h] at HR
    have HH := hid (fun W => hof_any e W)
    have HP := hid (fun W hW => pack_any (hof e) e.body W hW)
    obtain ⟨r, hr⟩ : ∃ r, r = packS (hof e) (sb e.body) := ⟨_, rfl⟩
    rw [← hr] at HP ⊢
    obtain ⟨view, opn, under, parent, client, session, request, oper, body⟩ := e
    exact epack_yes view opn under parent client session request oper body ⟨r.1.toArray⟩ r.2 w hf HR HH HP
  · rw [if_neg h]
    rw [decide_eq_false h] at HR
    exact epack_no e.cells w (ecells_size e) HR
end Go.Proofs.YtknalgobndbngaaDoor
