/-
  The walk of SlotRots.
-/
import Derived.Test.YtdcoiehhnllhmaaDoorM20
namespace Go.Proofs.YtdcoiehhnllhmaaDoor
open Go.RowKit
set_option maxRecDepth 10000

/-- the place that is cut -/
def cutS (c : Int) : Nat := (c % 18446744073709551616 % 384).toNat
theorem cutS_lt (c : Int) : cutS c < 384 := by unfold cutS; omega
theorem cut_code (c : Int) : wrap64 ((IntKind.u64.wrap c).tmod 384) = (cutS c : Int) := by
  have h : IntKind.u64.wrap c = c % 18446744073709551616 := by simp [IntKind.wrap, IntKind.bits, IntKind.signed]
  have h2 : 0 ≤ c % 18446744073709551616 := by omega
  rw [h, Int.tmod_eq_emod_of_nonneg h2]
  have h3 : 0 ≤ c % 18446744073709551616 % 384 := by omega
  have h4 : c % 18446744073709551616 % 384 < 384 := by omega
  unfold cutS
  rw [Int.toNat_of_nonneg h3]
  unfold wrap64
  omega

theorem bytes_rdL {W : World} {g k : Nat} {l : List UInt8} (h : FRow W g 5 (bvs l ++ List.replicate k (.int .u8 0))) : Rd W (g + 1) (some ⟨g, 0, none⟩) (bvs l) := by
  have h1 := (h.rd (B := g + 1) (by omega)).take (bvs l).length
  rwa [List.take_left] at h1
theorem yields_str {P : Program} {ops : Array Oper} {S : World → Prop} {o : Oper} {a : Act} (hw : Region.wanted o (yielded ops a.tmps) = true) (x : Operand) (src dst : TypeId)
    (ho : o.op = .convert src dst x) (e : TypeId) (hs : P.underlying src = some (.slice e)) (he : P.underlying e = some (.int .u8)) (hd : P.underlying dst = some .string)
    (A : Option Addr) (l c : Nat) (hx : a.eval x = .slice A l c) (B : Nat) (bs : List UInt8) (hr : ∀ w, S w → Rd w B A (bvs bs)) (hl : l = bs.length) : YieldsIf P ops S o (.string ⟨bs.toArray⟩) a :=
  .inl ⟨hw, fun w hw' => by
    unfold execOp
    simp only [ho, Sem.run_bind, Sem.run_pure, Result.andThen_ok, hx, run_str w src e hs he dst hd B A bs l c hl (hr w hw')]⟩
/-- a byte of laid bytes is turned -/
theorem turned_row {p : List UInt8} {k : Nat} (hk : k < p.length) (mask : UInt8) (W : World) (g m : Nat) (hr : FRow W g 5 (bvs p ++ List.replicate m (.int .u8 0))) :
    W.cell? ⟨g, k, none⟩ = some (.int .u8 (p[k].toNat : Int)) ∧ W.frozen? ⟨g, k, none⟩ = false ∧ FRow (W.setCell ⟨g, k, none⟩ (.int .u8 (((p[k] ^^^ mask).toNat : Nat) : Int))) g 5 (bvs (p.set k (p[k] ^^^ mask)) ++ List.replicate m (.int .u8 0)) := by
  have hlb : k < (bvs p).length := by rw [bvs_len]; exact hk
  have hget : p[k]? = some p[k] := List.getElem?_eq_getElem hk
  refine ⟨?_, hr.frozen _ (by rw [List.length_append]; omega), ?_⟩
  · rw [hr.cell, List.getElem?_append_left hlb]
    simp only [bvs, List.getElem?_map, hget, Option.map_some, bv]
  · have hst := hr.set_ k (bv (p[k] ^^^ mask))
    rw [List.set_append_left _ _ hlb] at hst
    have e : bvs (p.set k (p[k] ^^^ mask)) = (bvs p).set k (bv (p[k] ^^^ mask)) := by simp [bvs, List.map_set]
    rw [e]
    exact hst
set_option maxHeartbeats 2000000 in
theorem rots_0 (e : En) (t : St) (P H : ByteArray) (M N : List UInt8) (mask x y x2 y2 : UInt8) (which at_ : Int) (k : Nat) (w : World) (hf : Fd w) (HAW : Hid (∀ W, Fd W → Calls Tryd.prog 10 #[] W (Yes W)))
    (HRi : Hid (∀ W, Calls Tryd.prog 27 #[.agg #[.int .i64 e.view, .int .i64 e.opn, .int .i64 e.under, .int .u64 (e.parent : Int), .int .i64 e.client, .int .i64 e.session, .int .i64 e.request, .int .i64 e.oper, .string e.body]] W (VE W (.bool true))))
    (hm : ((mask.toNat : Int) == 0) = false)
    (HPr : Hid (∀ W, Fd W → Calls Tryd.prog 12 #[.string ⟨#[]⟩, .agg #[.int .i64 e.view, .int .i64 e.opn, .int .i64 e.under, .int .u64 (e.parent : Int), .int .i64 e.client, .int .i64 e.session, .int .i64 e.request, .int .i64 e.oper, .string e.body]] W fun x w' => x = .returned (.tuple #[.string P, .int .i64 0]) ∧ Below W.heap.size W w'))
    (HSt : Hid (∀ W, Fd W → Calls Tryd.prog 16 #[.agg #[.int .i64 e.view, .int .i64 e.opn, .int .i64 e.under, .int .u64 (e.parent : Int), .int .i64 e.client, .int .i64 e.session, .int .i64 e.request, .int .i64 e.oper, .string e.body]] W (VE W (.agg #[.int .i64 t.opn, .int .i64 t.view, .int .i64 t.under, .int .u64 (t.parent : Int), .int .u64 (t.sum : Int)]))))
    (HHd : Hid (∀ W, Calls Tryd.prog 14 #[.string ⟨#[]⟩, .agg #[.int .i64 t.opn, .int .i64 t.view, .int .i64 t.under, .int .u64 (t.parent : Int), .int .u64 (t.sum : Int)]] W fun x w' => x = .returned (.tuple #[.string H, .int .i64 0]) ∧ Below W.heap.size W w'))
    (HCC : Hid (wrap64 ((IntKind.u64.wrap at_).tmod 384) = (k : Int)))
    (hk : (k : Int) < 384)
    (HKN : Hid (k < 384))
    (HMx : Hid (∀ W, Calls Tryd.prog 34 #[.string P, .string P, .int .i64 (k : Int)] W fun x w' => x = .returned (.string P) ∧ Below W.heap.size W w'))
    (hPs : P.size = 384)
    (hHs : H.size = 384)
    (HRP : Hid (∀ (W : World) (g m : Nat), FRow W g 5 (bvs (sb P) ++ List.replicate m (.int .u8 0)) → W.cell? ⟨g, k, none⟩ = some (.int .u8 (x.toNat : Int)) ∧ W.frozen? ⟨g, k, none⟩ = false ∧ FRow (W.setCell ⟨g, k, none⟩ (.int .u8 ((x2.toNat : Nat) : Int))) g 5 (bvs M ++ List.replicate m (.int .u8 0))))
    (HRH : Hid (∀ (W : World) (g m : Nat), FRow W g 5 (bvs (sb H) ++ List.replicate m (.int .u8 0)) → W.cell? ⟨g, k, none⟩ = some (.int .u8 (y.toNat : Int)) ∧ W.frozen? ⟨g, k, none⟩ = false ∧ FRow (W.setCell ⟨g, k, none⟩ (.int .u8 ((y2.toNat : Nat) : Int))) g 5 (bvs N ++ List.replicate m (.int .u8 0))))
    (HXP : Hid (bits .xor .u8 (x.toNat : Int) (mask.toNat : Int) = ((x2.toNat : Nat) : Int)))
    (HXH : Hid (bits .xor .u8 (y.toNat : Int) (mask.toNat : Int) = ((y2.toNat : Nat) : Int)))
    (HML : Hid (384 = M.length))
    (HNL : Hid (384 = N.length))
    (hw0 : (bits .and .i64 which 3 == 0) = true)
    (HJ : Hid (∀ W, Fd W → Calls Tryd.prog 24 #[.string ⟨M.toArray⟩, .string H, .int .i64 e.opn] W (VE W (.agg #[.int .i64 2, .int .i64 t.opn, .int .i64 t.view, .int .i64 t.under, .int .u64 (t.parent : Int), .int .u64 (t.sum : Int), .int .i64 0, .int .i64 0, .int .i64 0, .int .u64 0, .int .i64 0, .int .i64 0, .int .i64 0, .int .i64 0, .string ⟨#[]⟩])))) :
    Calls Tryd.prog 7 #[.agg #[.int .i64 e.view, .int .i64 e.opn, .int .i64 e.under, .int .u64 (e.parent : Int), .int .i64 e.client, .int .i64 e.session, .int .i64 e.request, .int .i64 e.oper, .string e.body], .int .i64 which, .int .i64 at_, .int .u8 (mask.toNat : Int)] w (Yes w) := by
  have qq : True := (fun _ _ => trivial) HKN HNL
  clear qq
  have HZE := hid esize
  have HFd := hid hf
  have hm8 := UInt8.toNat_lt mask
  clear hf
  go_enter Tryd.func7, Tryd.ntmps7
  go_wp2_with (first
    | (go_at_call 10; refine (HAW.out _ (HFd.out.below ((Below.refl w.heap.size w).alloc (Nat.le_refl _) _) HFd.out.1)).mono ?_; rintro x1 w1 ⟨rfl, hbq⟩; have hre := (Row.new w 24 #[.int .i64 e.view, .int .i64 e.opn, .int .i64 e.under, .int .u64 (e.parent : Int), .int .i64 e.client, .int .i64 e.session, .int .i64 e.request, .int .i64 e.oper, .string e.body]).below hbq (by simp); have hbe := ((Below.refl w.heap.size w).alloc (Nat.le_refl _) (.cells #[.int .i64 e.view, .int .i64 e.opn, .int .i64 e.under, .int .u64 (e.parent : Int), .int .i64 e.client, .int .i64 e.session, .int .i64 e.request, .int .i64 e.oper, .string e.body] 24)).trans (hbq.mono (by simp)); clear hbq)
    | (refine wpl_load_want rfl 24 (.tmp 4) rfl w.heap.size rfl 24 #[.int .i64 e.view, .int .i64 e.opn, .int .i64 e.under, .int .u64 (e.parent : Int), .int .i64 e.client, .int .i64 e.session, .int .i64 e.request, .int .i64 e.oper, .string e.body] (0, 0) _ (Row.arr (cs := #[.int .i64 e.view, .int .i64 e.opn, .int .i64 e.under, .int .u64 (e.parent : Int), .int .i64 e.client, .int .i64 e.session, .int .i64 e.request, .int .i64 e.oper, .string e.body]) hre) Tryd.underlying24 rfl HZE.out ?_)
    | (go_at_call 27; refine (HRi.out _).mono ?_; rintro x1 wq ⟨rfl, hbq⟩; replace hre := hre.below hbq hre.lt; replace hbe := hbe.trans (hbq.mono hbe.size); clear hbq)
    | (go_at_call 12; refine (HPr.out _ (HFd.out.below hbe HFd.out.1)).mono ?_; rintro x1 wq ⟨rfl, hbq⟩; replace hre := hre.below hbq hre.lt; replace hbe := hbe.trans (hbq.mono hbe.size); clear hbq)
    | (go_at_call 16; refine (HSt.out _ (HFd.out.below hbe HFd.out.1)).mono ?_; rintro x1 wq ⟨rfl, hbq⟩; replace hre := hre.below hbq hre.lt; replace hbe := hbe.trans (hbq.mono hbe.size); clear hbq)
    | (go_at_call 14; refine (HHd.out _).mono ?_; rintro x1 wq ⟨rfl, hbq⟩; replace hre := hre.below hbq hre.lt; replace hbe := hbe.trans (hbq.mono hbe.size); clear hbq)
    | (go_at_call 34; rw [HCC.out]; refine (HMx.out _).mono ?_; rintro x1 wq ⟨rfl, hbq⟩; replace hre := hre.below hbq hre.lt; replace hbe := hbe.trans (hbq.mono hbe.size); clear hbq)
    | (with_reducible refine wpl_bytes rfl _ _ _ rfl 5 Tryd.underlying9 Tryd.underlying57 Tryd.underlying5 P rfl ?_; intro g c k0 w4 HG HC0 HRow HB; rw [hPs]; obtain ⟨hcell, hfz, HST⟩ := HRP.out w4 g k0 HRow)
    | (rw [HXP.out]; with_reducible refine wpl_bytes rfl _ _ _ rfl 5 Tryd.underlying9 Tryd.underlying57 Tryd.underlying5 H rfl ?_; intro g2 c2 k2 w5 HG2 HC2 HRow2 HB2; rw [hHs]; go_loud (have hgb := hbe.size; have hg1 := HG.out; have hg2 := HG2.out; have hsz := HB.size; have hss : (w4.setCell ⟨g, k, none⟩ (.int .u8 ((x2.toNat : Nat) : Int))).heap.size = w4.heap.size := (by simp); have hrl := hre.lt; have hrl2 := HRow.lt; rw [hss] at hg2; have hbe2 := (((hbe.trans (HB.mono hbe.size)).setCell (p := ⟨g, k, none⟩) (by show w.heap.size ≤ g; omega) (.int .u8 ((x2.toNat : Nat) : Int)))).trans (HB2.mono (by omega)); have hre2 := (((hre.below HB hre.lt).far (p := ⟨g, k, none⟩) (by show w.heap.size ≠ g; omega) (.int .u8 ((x2.toNat : Nat) : Int)))).below HB2 (by omega); have hp2 := (bytes_rdL HST).below HB2 (show g + 1 ≤ (w4.setCell ⟨g, k, none⟩ (.int .u8 ((x2.toNat : Nat) : Int))).heap.size by rw [hss]; omega); have hgg : g + 1 ≤ g2 := (by omega); have hwg : w.heap.size < g2 := (by omega); clear hgb hg1 hg2 hsz hss hrl hrl2); obtain ⟨hcell2, hfz2, HST2⟩ := HRH.out w5 g2 k2 HRow2))
  rw [HXH.out]
  have hbe3 := hbe2.setCell (p := ⟨g2, k, none⟩) (by show w.heap.size ≤ g2; omega) (.int .u8 ((y2.toNat : Nat) : Int))
  have hre3 := hre2.far (p := ⟨g2, k, none⟩) (by show w.heap.size ≠ g2; omega) (.int .u8 ((y2.toNat : Nat) : Int))
  have hp3 := hp2.below ((Below.refl (g + 1) w5).setCell (p := ⟨g2, k, none⟩) (by show g + 1 ≤ g2; omega) (.int .u8 ((y2.toNat : Nat) : Int))) (Nat.le_refl _)
  have hh3 := bytes_rdL HST2
  have hl2 := HST2.lt
  refine name_wpS (fun w6 hw6 => ?_)
  rw [← hw6] at hbe3 hre3 hp3 hh3 hl2
  clear hw6 HST2 HST hcell2 hfz2 hcell hfz hbe2 hre2 hp2 HRow HRow2 HB HB2
  have HBE := hid hbe3
  have HEF := hid hre3
  have HPD := hid hp3
  have HHD := hid hh3
  have hgl : g + 1 ≤ w6.heap.size := by omega
  have hgl2 : g2 + 1 ≤ w6.heap.size := by omega
  clear hbe3 hre3 hp3 hh3 hbe hre
  refine wp_region_held_drew (S := fun W => Below w6.heap.size w6 W) (by kernel_rfl) ((Below.refl _ _).drew) (fun hH => ?_)
  refine wpAnyH_take (i := 0) (v := .slice (some ⟨g, 0, none⟩) 384 c) rfl (by kernel_rfl) (by kernel_rfl) (by kernel_rfl) (fun _ _ _ h => h) (Or.inl ⟨by rfl, fun w' hw' => by clear hw'; go_simp⟩) hH ?_
  simp only [Act.put]
  refine wpAnyH_take (i := 1) (v := .string ⟨M.toArray⟩) rfl (by kernel_rfl) (by kernel_rfl) (by kernel_rfl) (fun _ _ _ h => h) (yields_str (by rfl) (.tmp 70) 57 9 rfl 5 Tryd.underlying57 Tryd.underlying5 Tryd.underlying9 (some ⟨g, 0, none⟩) 384 c rfl (g + 1) M (fun W hW => HPD.out.below hW hgl) HML.out) hH ?_
  simp only [Act.put]
  refine wpAnyH_take (i := 2) (v := .string H) rfl (by kernel_rfl) (by kernel_rfl) (by kernel_rfl) (fun _ _ _ h => h) (Or.inl ⟨by rfl, fun w' hw' => by clear hw'; go_simp⟩) hH ?_
  simp only [Act.put]
  refine wpAnyH_take (i := 3) (v := .pointer (some ⟨w.heap.size, 1, none⟩)) rfl (by kernel_rfl) (by kernel_rfl) (by kernel_rfl) (fun _ _ _ h => h) (Or.inl ⟨by rfl, fun w' hw' => by clear hw'; go_simp⟩) hH ?_
  simp only [Act.put]
  refine wpAnyH_take (i := 4) (v := .int .i64 e.opn) rfl (by kernel_rfl) (by kernel_rfl) (by kernel_rfl) (fun _ _ _ h => h) (Or.inl ⟨by rfl, fun w' hw' => by have h := (HEF.out.below hw' HEF.out.lt).at_ 1 _ rfl; go_simp⟩) hH ?_
  simp only [Act.put]
  refine wpAnyH_take (i := 6) (v := .agg #[.int .i64 e.view, .int .i64 e.opn, .int .i64 e.under, .int .u64 (e.parent : Int), .int .i64 e.client, .int .i64 e.session, .int .i64 e.request, .int .i64 e.oper, .string e.body]) rfl (by kernel_rfl) (by kernel_rfl) (by kernel_rfl) (fun _ _ _ h => h) ?_ hH ?_
  · refine yieldsIf_load_mid ?_ 24 (.tmp 4) ?_ w.heap.size 0 ?_ (Array.toList #[.int .i64 e.view, .int .i64 e.opn, .int .i64 e.under, .int .u64 (e.parent : Int), .int .i64 e.client, .int .i64 e.session, .int .i64 e.request, .int .i64 e.oper, .string e.body]) _ (fun W hW => Row.range (HEF.out.below hW HEF.out.lt)) Tryd.underlying24 rfl (by exact HZE.out)
    all_goals kernel_rfl
  simp only [Act.put]
  refine wpAnyH_ready (rs := [5]) (by kernel_rfl) (by simp) ?_
  refine AllReadyH.cons rfl (fun K hK => ?_) AllReadyH.nil
  go_simp
  go_at_call 24
  refine (HJ.out _ (HFd.out.below (HBE.out.trans (hH.mono HBE.out.size)) HFd.out.1)).mono ?_
  rintro x1 w9 ⟨rfl, hb9⟩
  go_wp2_with fail
  refine hK.out _ _ (hH.trans (hb9.mono hH.size)) (fun hH => ?_)
  clear hK K
  try simp only [Act.put]
  refine wpAnyH_ready (rs := [7]) (by kernel_rfl) (by simp) ?_
  refine AllReadyH.cons rfl (fun K hK => ?_) AllReadyH.nil
  go_simp
  go_at_call 16
  refine (HSt.out _ (HFd.out.below (HBE.out.trans (hH.mono HBE.out.size)) HFd.out.1)).mono ?_
  rintro x1 w10 ⟨rfl, hb10⟩
  go_wp2_with fail
  refine hK.out _ _ (hH.trans (hb10.mono hH.size)) (fun hH => ?_)
  clear hK K
  try simp only [Act.put]
  refine wpAnyH_take (i := 8) (v := .agg #[.int .i64 2, .int .i64 t.opn, .int .i64 t.view, .int .i64 t.under, .int .u64 (t.parent : Int), .int .u64 (t.sum : Int), .int .i64 0, .int .i64 0, .int .i64 0, .int .u64 0, .int .i64 0, .int .i64 0, .int .i64 0, .int .i64 0, .string ⟨#[]⟩]) rfl (by kernel_rfl) (by kernel_rfl) (by kernel_rfl) (fun _ _ _ h => h) (Or.inl ⟨by kernel_rfl, fun w' _ => by kernel_rfl⟩) hH ?_
  simp only [Act.put]
  refine wpAnyH_take (i := 9) (v := .bool true) rfl (by kernel_rfl) (by kernel_rfl) (by kernel_rfl) (fun _ _ _ h => h) (yields_eqi (by kernel_rfl) (⟨2, t, en0⟩ : It) (⟨2, t, en0⟩ : It) true (hid (.inl ⟨rfl, rfl⟩)) (.tmp 75) (.tmp 78) _ rfl (by kernel_rfl) (by kernel_rfl)) hH ?_
  simp only [Act.put]
  refine wpAnyH_ready (rs := [10]) (by kernel_rfl) (by simp) ?_
  refine AllReadyH.cons rfl (fun K hK => ?_) AllReadyH.nil
  go_simp
  refine hK.out _ _ (hH) (fun hH => ?_)
  clear hK K
  try simp only [Act.put]
  refine wpAnyH_done (by kernel_rfl) ?_ _
  try simp only [Act.put]
  go_wp2_with fail
  go_ret
  exact ⟨rfl, HBE.out.trans (hH.mono HBE.out.size)⟩
set_option maxHeartbeats 2000000 in
theorem rots_1 (e : En) (t : St) (P H : ByteArray) (M N : List UInt8) (mask x y x2 y2 : UInt8) (which at_ : Int) (k : Nat) (w : World) (hf : Fd w) (HAW : Hid (∀ W, Fd W → Calls Tryd.prog 10 #[] W (Yes W)))
    (HRi : Hid (∀ W, Calls Tryd.prog 27 #[.agg #[.int .i64 e.view, .int .i64 e.opn, .int .i64 e.under, .int .u64 (e.parent : Int), .int .i64 e.client, .int .i64 e.session, .int .i64 e.request, .int .i64 e.oper, .string e.body]] W (VE W (.bool true))))
    (hm : ((mask.toNat : Int) == 0) = false)
    (HPr : Hid (∀ W, Fd W → Calls Tryd.prog 12 #[.string ⟨#[]⟩, .agg #[.int .i64 e.view, .int .i64 e.opn, .int .i64 e.under, .int .u64 (e.parent : Int), .int .i64 e.client, .int .i64 e.session, .int .i64 e.request, .int .i64 e.oper, .string e.body]] W fun x w' => x = .returned (.tuple #[.string P, .int .i64 0]) ∧ Below W.heap.size W w'))
    (HSt : Hid (∀ W, Fd W → Calls Tryd.prog 16 #[.agg #[.int .i64 e.view, .int .i64 e.opn, .int .i64 e.under, .int .u64 (e.parent : Int), .int .i64 e.client, .int .i64 e.session, .int .i64 e.request, .int .i64 e.oper, .string e.body]] W (VE W (.agg #[.int .i64 t.opn, .int .i64 t.view, .int .i64 t.under, .int .u64 (t.parent : Int), .int .u64 (t.sum : Int)]))))
    (HHd : Hid (∀ W, Calls Tryd.prog 14 #[.string ⟨#[]⟩, .agg #[.int .i64 t.opn, .int .i64 t.view, .int .i64 t.under, .int .u64 (t.parent : Int), .int .u64 (t.sum : Int)]] W fun x w' => x = .returned (.tuple #[.string H, .int .i64 0]) ∧ Below W.heap.size W w'))
    (HCC : Hid (wrap64 ((IntKind.u64.wrap at_).tmod 384) = (k : Int)))
    (hk : (k : Int) < 384)
    (HKN : Hid (k < 384))
    (HMx : Hid (∀ W, Calls Tryd.prog 34 #[.string P, .string P, .int .i64 (k : Int)] W fun x w' => x = .returned (.string P) ∧ Below W.heap.size W w'))
    (hPs : P.size = 384)
    (hHs : H.size = 384)
    (HRP : Hid (∀ (W : World) (g m : Nat), FRow W g 5 (bvs (sb P) ++ List.replicate m (.int .u8 0)) → W.cell? ⟨g, k, none⟩ = some (.int .u8 (x.toNat : Int)) ∧ W.frozen? ⟨g, k, none⟩ = false ∧ FRow (W.setCell ⟨g, k, none⟩ (.int .u8 ((x2.toNat : Nat) : Int))) g 5 (bvs M ++ List.replicate m (.int .u8 0))))
    (HRH : Hid (∀ (W : World) (g m : Nat), FRow W g 5 (bvs (sb H) ++ List.replicate m (.int .u8 0)) → W.cell? ⟨g, k, none⟩ = some (.int .u8 (y.toNat : Int)) ∧ W.frozen? ⟨g, k, none⟩ = false ∧ FRow (W.setCell ⟨g, k, none⟩ (.int .u8 ((y2.toNat : Nat) : Int))) g 5 (bvs N ++ List.replicate m (.int .u8 0))))
    (HXP : Hid (bits .xor .u8 (x.toNat : Int) (mask.toNat : Int) = ((x2.toNat : Nat) : Int)))
    (HXH : Hid (bits .xor .u8 (y.toNat : Int) (mask.toNat : Int) = ((y2.toNat : Nat) : Int)))
    (HML : Hid (384 = M.length))
    (HNL : Hid (384 = N.length))
    (hw0 : (bits .and .i64 which 3 == 0) = false)
    (hw1 : (bits .and .i64 which 3 == 1) = true)
    (HJ : Hid (∀ W, Fd W → Calls Tryd.prog 24 #[.string P, .string ⟨N.toArray⟩, .int .i64 e.opn] W (VE W (.agg #[.int .i64 1, .int .i64 t.opn, .int .i64 t.view, .int .i64 t.under, .int .u64 (t.parent : Int), .int .u64 (t.sum : Int), .int .i64 e.view, .int .i64 e.opn, .int .i64 e.under, .int .u64 (e.parent : Int), .int .i64 e.client, .int .i64 e.session, .int .i64 e.request, .int .i64 e.oper, .string e.body])))) :
    Calls Tryd.prog 7 #[.agg #[.int .i64 e.view, .int .i64 e.opn, .int .i64 e.under, .int .u64 (e.parent : Int), .int .i64 e.client, .int .i64 e.session, .int .i64 e.request, .int .i64 e.oper, .string e.body], .int .i64 which, .int .i64 at_, .int .u8 (mask.toNat : Int)] w (Yes w) := by
  have qq : True := (fun _ _ => trivial) HKN HML
  clear qq
  have HZE := hid esize
  have HFd := hid hf
  have hm8 := UInt8.toNat_lt mask
  clear hf
  go_enter Tryd.func7, Tryd.ntmps7
  go_wp2_with (first
    | (go_at_call 10; refine (HAW.out _ (HFd.out.below ((Below.refl w.heap.size w).alloc (Nat.le_refl _) _) HFd.out.1)).mono ?_; rintro x1 w1 ⟨rfl, hbq⟩; have hre := (Row.new w 24 #[.int .i64 e.view, .int .i64 e.opn, .int .i64 e.under, .int .u64 (e.parent : Int), .int .i64 e.client, .int .i64 e.session, .int .i64 e.request, .int .i64 e.oper, .string e.body]).below hbq (by simp); have hbe := ((Below.refl w.heap.size w).alloc (Nat.le_refl _) (.cells #[.int .i64 e.view, .int .i64 e.opn, .int .i64 e.under, .int .u64 (e.parent : Int), .int .i64 e.client, .int .i64 e.session, .int .i64 e.request, .int .i64 e.oper, .string e.body] 24)).trans (hbq.mono (by simp)); clear hbq)
    | (refine wpl_load_want rfl 24 (.tmp 4) rfl w.heap.size rfl 24 #[.int .i64 e.view, .int .i64 e.opn, .int .i64 e.under, .int .u64 (e.parent : Int), .int .i64 e.client, .int .i64 e.session, .int .i64 e.request, .int .i64 e.oper, .string e.body] (0, 0) _ (Row.arr (cs := #[.int .i64 e.view, .int .i64 e.opn, .int .i64 e.under, .int .u64 (e.parent : Int), .int .i64 e.client, .int .i64 e.session, .int .i64 e.request, .int .i64 e.oper, .string e.body]) hre) Tryd.underlying24 rfl HZE.out ?_)
    | (go_at_call 27; refine (HRi.out _).mono ?_; rintro x1 wq ⟨rfl, hbq⟩; replace hre := hre.below hbq hre.lt; replace hbe := hbe.trans (hbq.mono hbe.size); clear hbq)
    | (go_at_call 12; refine (HPr.out _ (HFd.out.below hbe HFd.out.1)).mono ?_; rintro x1 wq ⟨rfl, hbq⟩; replace hre := hre.below hbq hre.lt; replace hbe := hbe.trans (hbq.mono hbe.size); clear hbq)
    | (go_at_call 16; refine (HSt.out _ (HFd.out.below hbe HFd.out.1)).mono ?_; rintro x1 wq ⟨rfl, hbq⟩; replace hre := hre.below hbq hre.lt; replace hbe := hbe.trans (hbq.mono hbe.size); clear hbq)
    | (go_at_call 14; refine (HHd.out _).mono ?_; rintro x1 wq ⟨rfl, hbq⟩; replace hre := hre.below hbq hre.lt; replace hbe := hbe.trans (hbq.mono hbe.size); clear hbq)
    | (go_at_call 34; rw [HCC.out]; refine (HMx.out _).mono ?_; rintro x1 wq ⟨rfl, hbq⟩; replace hre := hre.below hbq hre.lt; replace hbe := hbe.trans (hbq.mono hbe.size); clear hbq)
    | (with_reducible refine wpl_bytes rfl _ _ _ rfl 5 Tryd.underlying9 Tryd.underlying57 Tryd.underlying5 P rfl ?_; intro g c k0 w4 HG HC0 HRow HB; rw [hPs]; obtain ⟨hcell, hfz, HST⟩ := HRP.out w4 g k0 HRow)
    | (rw [HXP.out]; with_reducible refine wpl_bytes rfl _ _ _ rfl 5 Tryd.underlying9 Tryd.underlying57 Tryd.underlying5 H rfl ?_; intro g2 c2 k2 w5 HG2 HC2 HRow2 HB2; rw [hHs]; go_loud (have hgb := hbe.size; have hg1 := HG.out; have hg2 := HG2.out; have hsz := HB.size; have hss : (w4.setCell ⟨g, k, none⟩ (.int .u8 ((x2.toNat : Nat) : Int))).heap.size = w4.heap.size := (by simp); have hrl := hre.lt; have hrl2 := HRow.lt; rw [hss] at hg2; have hbe2 := (((hbe.trans (HB.mono hbe.size)).setCell (p := ⟨g, k, none⟩) (by show w.heap.size ≤ g; omega) (.int .u8 ((x2.toNat : Nat) : Int)))).trans (HB2.mono (by omega)); have hre2 := (((hre.below HB hre.lt).far (p := ⟨g, k, none⟩) (by show w.heap.size ≠ g; omega) (.int .u8 ((x2.toNat : Nat) : Int)))).below HB2 (by omega); have hp2 := (bytes_rdL HST).below HB2 (show g + 1 ≤ (w4.setCell ⟨g, k, none⟩ (.int .u8 ((x2.toNat : Nat) : Int))).heap.size by rw [hss]; omega); have hgg : g + 1 ≤ g2 := (by omega); have hwg : w.heap.size < g2 := (by omega); clear hgb hg1 hg2 hsz hss hrl hrl2); obtain ⟨hcell2, hfz2, HST2⟩ := HRH.out w5 g2 k2 HRow2))
  rw [HXH.out]
  have hbe3 := hbe2.setCell (p := ⟨g2, k, none⟩) (by show w.heap.size ≤ g2; omega) (.int .u8 ((y2.toNat : Nat) : Int))
  have hre3 := hre2.far (p := ⟨g2, k, none⟩) (by show w.heap.size ≠ g2; omega) (.int .u8 ((y2.toNat : Nat) : Int))
  have hp3 := hp2.below ((Below.refl (g + 1) w5).setCell (p := ⟨g2, k, none⟩) (by show g + 1 ≤ g2; omega) (.int .u8 ((y2.toNat : Nat) : Int))) (Nat.le_refl _)
  have hh3 := bytes_rdL HST2
  have hl2 := HST2.lt
  refine name_wpS (fun w6 hw6 => ?_)
  rw [← hw6] at hbe3 hre3 hp3 hh3 hl2
  clear hw6 HST2 HST hcell2 hfz2 hcell hfz hbe2 hre2 hp2 HRow HRow2 HB HB2
  have HBE := hid hbe3
  have HEF := hid hre3
  have HPD := hid hp3
  have HHD := hid hh3
  have hgl : g + 1 ≤ w6.heap.size := by omega
  have hgl2 : g2 + 1 ≤ w6.heap.size := by omega
  clear hbe3 hre3 hp3 hh3 hbe hre
  refine wp_region_held_drew (S := fun W => Below w6.heap.size w6 W) (by kernel_rfl) ((Below.refl _ _).drew) (fun hH => ?_)
  refine wpAnyH_take (i := 0) (v := .string P) rfl (by kernel_rfl) (by kernel_rfl) (by kernel_rfl) (fun _ _ _ h => h) (Or.inl ⟨by rfl, fun w' hw' => by clear hw'; go_simp⟩) hH ?_
  simp only [Act.put]
  refine wpAnyH_take (i := 1) (v := .slice (some ⟨g2, 0, none⟩) 384 c2) rfl (by kernel_rfl) (by kernel_rfl) (by kernel_rfl) (fun _ _ _ h => h) (Or.inl ⟨by rfl, fun w' hw' => by clear hw'; go_simp⟩) hH ?_
  simp only [Act.put]
  refine wpAnyH_take (i := 2) (v := .string ⟨N.toArray⟩) rfl (by kernel_rfl) (by kernel_rfl) (by kernel_rfl) (fun _ _ _ h => h) (yields_str (by rfl) (.tmp 83) 57 9 rfl 5 Tryd.underlying57 Tryd.underlying5 Tryd.underlying9 (some ⟨g2, 0, none⟩) 384 c2 rfl (g2 + 1) N (fun W hW => HHD.out.below hW hgl2) HNL.out) hH ?_
  simp only [Act.put]
  refine wpAnyH_take (i := 3) (v := .pointer (some ⟨w.heap.size, 1, none⟩)) rfl (by kernel_rfl) (by kernel_rfl) (by kernel_rfl) (fun _ _ _ h => h) (Or.inl ⟨by rfl, fun w' hw' => by clear hw'; go_simp⟩) hH ?_
  simp only [Act.put]
  refine wpAnyH_take (i := 4) (v := .int .i64 e.opn) rfl (by kernel_rfl) (by kernel_rfl) (by kernel_rfl) (fun _ _ _ h => h) (Or.inl ⟨by rfl, fun w' hw' => by have h := (HEF.out.below hw' HEF.out.lt).at_ 1 _ rfl; go_simp⟩) hH ?_
  simp only [Act.put]
  refine wpAnyH_take (i := 6) (v := .agg #[.int .i64 e.view, .int .i64 e.opn, .int .i64 e.under, .int .u64 (e.parent : Int), .int .i64 e.client, .int .i64 e.session, .int .i64 e.request, .int .i64 e.oper, .string e.body]) rfl (by kernel_rfl) (by kernel_rfl) (by kernel_rfl) (fun _ _ _ h => h) ?_ hH ?_
  · refine yieldsIf_load_mid ?_ 24 (.tmp 4) ?_ w.heap.size 0 ?_ (Array.toList #[.int .i64 e.view, .int .i64 e.opn, .int .i64 e.under, .int .u64 (e.parent : Int), .int .i64 e.client, .int .i64 e.session, .int .i64 e.request, .int .i64 e.oper, .string e.body]) _ (fun W hW => Row.range (HEF.out.below hW HEF.out.lt)) Tryd.underlying24 rfl (by exact HZE.out)
    all_goals kernel_rfl
  simp only [Act.put]
  refine wpAnyH_take (i := 8) (v := .agg #[.int .i64 e.view, .int .i64 e.opn, .int .i64 e.under, .int .u64 (e.parent : Int), .int .i64 e.client, .int .i64 e.session, .int .i64 e.request, .int .i64 e.oper, .string e.body]) rfl (by kernel_rfl) (by kernel_rfl) (by kernel_rfl) (fun _ _ _ h => h) ?_ hH ?_
  · refine yieldsIf_load_mid ?_ 24 (.tmp 4) ?_ w.heap.size 0 ?_ (Array.toList #[.int .i64 e.view, .int .i64 e.opn, .int .i64 e.under, .int .u64 (e.parent : Int), .int .i64 e.client, .int .i64 e.session, .int .i64 e.request, .int .i64 e.oper, .string e.body]) _ (fun W hW => Row.range (HEF.out.below hW HEF.out.lt)) Tryd.underlying24 rfl (by exact HZE.out)
    all_goals kernel_rfl
  simp only [Act.put]
  refine wpAnyH_ready (rs := [5]) (by kernel_rfl) (by simp) ?_
  refine AllReadyH.cons rfl (fun K hK => ?_) AllReadyH.nil
  go_simp
  go_at_call 24
  refine (HJ.out _ (HFd.out.below (HBE.out.trans (hH.mono HBE.out.size)) HFd.out.1)).mono ?_
  rintro x1 w9 ⟨rfl, hb9⟩
  go_wp2_with fail
  refine hK.out _ _ (hH.trans (hb9.mono hH.size)) (fun hH => ?_)
  clear hK K
  try simp only [Act.put]
  refine wpAnyH_ready (rs := [7]) (by kernel_rfl) (by simp) ?_
  refine AllReadyH.cons rfl (fun K hK => ?_) AllReadyH.nil
  go_simp
  go_at_call 16
  refine (HSt.out _ (HFd.out.below (HBE.out.trans (hH.mono HBE.out.size)) HFd.out.1)).mono ?_
  rintro x1 w10 ⟨rfl, hb10⟩
  go_wp2_with fail
  refine hK.out _ _ (hH.trans (hb10.mono hH.size)) (fun hH => ?_)
  clear hK K
  try simp only [Act.put]
  refine wpAnyH_take (i := 9) (v := .agg #[.int .i64 1, .int .i64 t.opn, .int .i64 t.view, .int .i64 t.under, .int .u64 (t.parent : Int), .int .u64 (t.sum : Int), .int .i64 e.view, .int .i64 e.opn, .int .i64 e.under, .int .u64 (e.parent : Int), .int .i64 e.client, .int .i64 e.session, .int .i64 e.request, .int .i64 e.oper, .string e.body]) rfl (by kernel_rfl) (by kernel_rfl) (by kernel_rfl) (fun _ _ _ h => h) (Or.inl ⟨by kernel_rfl, fun w' _ => by kernel_rfl⟩) hH ?_
  simp only [Act.put]
  refine wpAnyH_take (i := 10) (v := .bool true) rfl (by kernel_rfl) (by kernel_rfl) (by kernel_rfl) (fun _ _ _ h => h) (yields_eqi (by kernel_rfl) (⟨1, t, e⟩ : It) (⟨1, t, e⟩ : It) true (hid (.inl ⟨rfl, rfl⟩)) (.tmp 87) (.tmp 91) _ rfl (by kernel_rfl) (by kernel_rfl)) hH ?_
  simp only [Act.put]
  refine wpAnyH_ready (rs := [11]) (by kernel_rfl) (by simp) ?_
  refine AllReadyH.cons rfl (fun K hK => ?_) AllReadyH.nil
  go_simp
  refine hK.out _ _ (hH) (fun hH => ?_)
  clear hK K
  try simp only [Act.put]
  refine wpAnyH_done (by kernel_rfl) ?_ _
  try simp only [Act.put]
  go_wp2_with fail
  go_ret
  exact ⟨rfl, HBE.out.trans (hH.mono HBE.out.size)⟩
set_option maxHeartbeats 2000000 in
theorem rots_2 (e : En) (t : St) (P H : ByteArray) (M N : List UInt8) (mask x y x2 y2 : UInt8) (which at_ : Int) (k : Nat) (w : World) (hf : Fd w) (HAW : Hid (∀ W, Fd W → Calls Tryd.prog 10 #[] W (Yes W)))
    (HRi : Hid (∀ W, Calls Tryd.prog 27 #[.agg #[.int .i64 e.view, .int .i64 e.opn, .int .i64 e.under, .int .u64 (e.parent : Int), .int .i64 e.client, .int .i64 e.session, .int .i64 e.request, .int .i64 e.oper, .string e.body]] W (VE W (.bool true))))
    (hm : ((mask.toNat : Int) == 0) = false)
    (HPr : Hid (∀ W, Fd W → Calls Tryd.prog 12 #[.string ⟨#[]⟩, .agg #[.int .i64 e.view, .int .i64 e.opn, .int .i64 e.under, .int .u64 (e.parent : Int), .int .i64 e.client, .int .i64 e.session, .int .i64 e.request, .int .i64 e.oper, .string e.body]] W fun x w' => x = .returned (.tuple #[.string P, .int .i64 0]) ∧ Below W.heap.size W w'))
    (HSt : Hid (∀ W, Fd W → Calls Tryd.prog 16 #[.agg #[.int .i64 e.view, .int .i64 e.opn, .int .i64 e.under, .int .u64 (e.parent : Int), .int .i64 e.client, .int .i64 e.session, .int .i64 e.request, .int .i64 e.oper, .string e.body]] W (VE W (.agg #[.int .i64 t.opn, .int .i64 t.view, .int .i64 t.under, .int .u64 (t.parent : Int), .int .u64 (t.sum : Int)]))))
    (HHd : Hid (∀ W, Calls Tryd.prog 14 #[.string ⟨#[]⟩, .agg #[.int .i64 t.opn, .int .i64 t.view, .int .i64 t.under, .int .u64 (t.parent : Int), .int .u64 (t.sum : Int)]] W fun x w' => x = .returned (.tuple #[.string H, .int .i64 0]) ∧ Below W.heap.size W w'))
    (HCC : Hid (wrap64 ((IntKind.u64.wrap at_).tmod 384) = (k : Int)))
    (hk : (k : Int) < 384)
    (HKN : Hid (k < 384))
    (HMx : Hid (∀ W, Calls Tryd.prog 34 #[.string P, .string P, .int .i64 (k : Int)] W fun x w' => x = .returned (.string P) ∧ Below W.heap.size W w'))
    (hPs : P.size = 384)
    (hHs : H.size = 384)
    (HRP : Hid (∀ (W : World) (g m : Nat), FRow W g 5 (bvs (sb P) ++ List.replicate m (.int .u8 0)) → W.cell? ⟨g, k, none⟩ = some (.int .u8 (x.toNat : Int)) ∧ W.frozen? ⟨g, k, none⟩ = false ∧ FRow (W.setCell ⟨g, k, none⟩ (.int .u8 ((x2.toNat : Nat) : Int))) g 5 (bvs M ++ List.replicate m (.int .u8 0))))
    (HRH : Hid (∀ (W : World) (g m : Nat), FRow W g 5 (bvs (sb H) ++ List.replicate m (.int .u8 0)) → W.cell? ⟨g, k, none⟩ = some (.int .u8 (y.toNat : Int)) ∧ W.frozen? ⟨g, k, none⟩ = false ∧ FRow (W.setCell ⟨g, k, none⟩ (.int .u8 ((y2.toNat : Nat) : Int))) g 5 (bvs N ++ List.replicate m (.int .u8 0))))
    (HXP : Hid (bits .xor .u8 (x.toNat : Int) (mask.toNat : Int) = ((x2.toNat : Nat) : Int)))
    (HXH : Hid (bits .xor .u8 (y.toNat : Int) (mask.toNat : Int) = ((y2.toNat : Nat) : Int)))
    (HML : Hid (384 = M.length))
    (HNL : Hid (384 = N.length))
    (hw0 : (bits .and .i64 which 3 == 0) = false)
    (hw1 : (bits .and .i64 which 3 == 1) = false)
    (HJ : Hid (∀ W, Fd W → Calls Tryd.prog 24 #[.string ⟨M.toArray⟩, .string ⟨N.toArray⟩, .int .i64 e.opn] W (VE W (.agg #[.int .i64 3, .int .i64 0, .int .i64 0, .int .i64 0, .int .u64 0, .int .u64 0, .int .i64 0, .int .i64 0, .int .i64 0, .int .u64 0, .int .i64 0, .int .i64 0, .int .i64 0, .int .i64 0, .string ⟨#[]⟩])))) :
    Calls Tryd.prog 7 #[.agg #[.int .i64 e.view, .int .i64 e.opn, .int .i64 e.under, .int .u64 (e.parent : Int), .int .i64 e.client, .int .i64 e.session, .int .i64 e.request, .int .i64 e.oper, .string e.body], .int .i64 which, .int .i64 at_, .int .u8 (mask.toNat : Int)] w (Yes w) := by
  have qq : True := (fun _ => trivial) HKN
  clear qq
  have HZE := hid esize
  have HFd := hid hf
  have hm8 := UInt8.toNat_lt mask
  clear hf
  go_enter Tryd.func7, Tryd.ntmps7
  go_wp2_with (first
    | (go_at_call 10; refine (HAW.out _ (HFd.out.below ((Below.refl w.heap.size w).alloc (Nat.le_refl _) _) HFd.out.1)).mono ?_; rintro x1 w1 ⟨rfl, hbq⟩; have hre := (Row.new w 24 #[.int .i64 e.view, .int .i64 e.opn, .int .i64 e.under, .int .u64 (e.parent : Int), .int .i64 e.client, .int .i64 e.session, .int .i64 e.request, .int .i64 e.oper, .string e.body]).below hbq (by simp); have hbe := ((Below.refl w.heap.size w).alloc (Nat.le_refl _) (.cells #[.int .i64 e.view, .int .i64 e.opn, .int .i64 e.under, .int .u64 (e.parent : Int), .int .i64 e.client, .int .i64 e.session, .int .i64 e.request, .int .i64 e.oper, .string e.body] 24)).trans (hbq.mono (by simp)); clear hbq)
    | (refine wpl_load_want rfl 24 (.tmp 4) rfl w.heap.size rfl 24 #[.int .i64 e.view, .int .i64 e.opn, .int .i64 e.under, .int .u64 (e.parent : Int), .int .i64 e.client, .int .i64 e.session, .int .i64 e.request, .int .i64 e.oper, .string e.body] (0, 0) _ (Row.arr (cs := #[.int .i64 e.view, .int .i64 e.opn, .int .i64 e.under, .int .u64 (e.parent : Int), .int .i64 e.client, .int .i64 e.session, .int .i64 e.request, .int .i64 e.oper, .string e.body]) hre) Tryd.underlying24 rfl HZE.out ?_)
    | (go_at_call 27; refine (HRi.out _).mono ?_; rintro x1 wq ⟨rfl, hbq⟩; replace hre := hre.below hbq hre.lt; replace hbe := hbe.trans (hbq.mono hbe.size); clear hbq)
    | (go_at_call 12; refine (HPr.out _ (HFd.out.below hbe HFd.out.1)).mono ?_; rintro x1 wq ⟨rfl, hbq⟩; replace hre := hre.below hbq hre.lt; replace hbe := hbe.trans (hbq.mono hbe.size); clear hbq)
    | (go_at_call 16; refine (HSt.out _ (HFd.out.below hbe HFd.out.1)).mono ?_; rintro x1 wq ⟨rfl, hbq⟩; replace hre := hre.below hbq hre.lt; replace hbe := hbe.trans (hbq.mono hbe.size); clear hbq)
    | (go_at_call 14; refine (HHd.out _).mono ?_; rintro x1 wq ⟨rfl, hbq⟩; replace hre := hre.below hbq hre.lt; replace hbe := hbe.trans (hbq.mono hbe.size); clear hbq)
    | (go_at_call 34; rw [HCC.out]; refine (HMx.out _).mono ?_; rintro x1 wq ⟨rfl, hbq⟩; replace hre := hre.below hbq hre.lt; replace hbe := hbe.trans (hbq.mono hbe.size); clear hbq)
    | (with_reducible refine wpl_bytes rfl _ _ _ rfl 5 Tryd.underlying9 Tryd.underlying57 Tryd.underlying5 P rfl ?_; intro g c k0 w4 HG HC0 HRow HB; rw [hPs]; obtain ⟨hcell, hfz, HST⟩ := HRP.out w4 g k0 HRow)
    | (rw [HXP.out]; with_reducible refine wpl_bytes rfl _ _ _ rfl 5 Tryd.underlying9 Tryd.underlying57 Tryd.underlying5 H rfl ?_; intro g2 c2 k2 w5 HG2 HC2 HRow2 HB2; rw [hHs]; go_loud (have hgb := hbe.size; have hg1 := HG.out; have hg2 := HG2.out; have hsz := HB.size; have hss : (w4.setCell ⟨g, k, none⟩ (.int .u8 ((x2.toNat : Nat) : Int))).heap.size = w4.heap.size := (by simp); have hrl := hre.lt; have hrl2 := HRow.lt; rw [hss] at hg2; have hbe2 := (((hbe.trans (HB.mono hbe.size)).setCell (p := ⟨g, k, none⟩) (by show w.heap.size ≤ g; omega) (.int .u8 ((x2.toNat : Nat) : Int)))).trans (HB2.mono (by omega)); have hre2 := (((hre.below HB hre.lt).far (p := ⟨g, k, none⟩) (by show w.heap.size ≠ g; omega) (.int .u8 ((x2.toNat : Nat) : Int)))).below HB2 (by omega); have hp2 := (bytes_rdL HST).below HB2 (show g + 1 ≤ (w4.setCell ⟨g, k, none⟩ (.int .u8 ((x2.toNat : Nat) : Int))).heap.size by rw [hss]; omega); have hgg : g + 1 ≤ g2 := (by omega); have hwg : w.heap.size < g2 := (by omega); clear hgb hg1 hg2 hsz hss hrl hrl2); obtain ⟨hcell2, hfz2, HST2⟩ := HRH.out w5 g2 k2 HRow2)
    | ((with_reducible show wpList _ _ _ ({ dst := some 94, op := _, type := _, pos := _, after := _, guard := _ } :: _) _ _); rw [HXH.out]; go_loud (have hbe3 := hbe2.setCell (p := ⟨g2, k, none⟩) (by show w.heap.size ≤ g2; omega) (.int .u8 ((y2.toNat : Nat) : Int)); have hre3 := hre2.far (p := ⟨g2, k, none⟩) (by show w.heap.size ≠ g2; omega) (.int .u8 ((y2.toNat : Nat) : Int)); have hp3 := hp2.below ((Below.refl (g + 1) w5).setCell (p := ⟨g2, k, none⟩) (by show g + 1 ≤ g2; omega) (.int .u8 ((y2.toNat : Nat) : Int))) (Nat.le_refl _); have hh3 := bytes_rdL HST2); have he1 := hre3.at_ 1 _ rfl; with_reducible refine wpl_str rfl _ 57 9 rfl 5 Tryd.underlying57 Tryd.underlying5 Tryd.underlying9 (some ⟨g, 0, none⟩) 384 c rfl (g + 1) M ?_ (hid hp3) HML)
    | ((with_reducible show wpList _ _ _ ({ dst := some 96, op := _, type := _, pos := _, after := _, guard := _ } :: _) _ _); with_reducible refine wpl_str rfl _ 57 9 rfl 5 Tryd.underlying57 Tryd.underlying5 Tryd.underlying9 (some ⟨g2, 0, none⟩) 384 c2 rfl (g2 + 1) N ?_ (hid hh3) HNL)
    | (go_at_call 24; refine (HJ.out _ (HFd.out.below hbe3 HFd.out.1)).mono ?_; rintro x1 wq ⟨rfl, hbq⟩)
    | (refine wpl_eqi rfl (⟨3, st0, en0⟩ : It) (⟨3, st0, en0⟩ : It) true (.tmp 99) (.tmp 100) _ rfl rfl rfl (hid (.inl ⟨rfl, rfl⟩)) ?_))
  go_ret
  exact ⟨rfl, hbe3.trans (hbq.mono hbe3.size)⟩
end Go.Proofs.YtdcoiehhnllhmaaDoor
