/-
  The walks of package journal's Head, Format.
-/
import Derived.Test.YtafbeepacncooaaDoorP08
namespace Go.Proofs.YtafbeepacncooaaDoor
open Go.RowKit
set_option maxRecDepth 10000

/-- was an operation kept? -/
def wasJ (J : Jn) (n : Int) : Prop := (J.item n).kind = 1 ∨ (J.item n).kind = 2
instance (J : Jn) (n : Int) : Decidable (wasJ J n) := by unfold wasJ; infer_instance
/-- the greatest one that was, among the first k -/
def hdJ (J : Jn) : Nat → Int
 | 0 => J.c
 | k + 1 => if wasJ J (J.c + 1 + (k : Int)) then J.c + 1 + (k : Int) else hdJ J k
set_option maxHeartbeats 4000000 in
theorem head_any13j {w0 w : World} {jp p gs : Nat} {S : Sp} {J : Jn} {G : List Nat} (h : Jd w0 w jp p gs S J G) (hw : JWf J) :
  Calls Tryd.prog 23 #[.pointer (some ⟨jp, 0, none⟩)] w (JC w0 w jp p gs S J G (.int .i64 (hdJ J 8))) := by
 have h0 := hw.c0
 have h1 := hw.c1
 have c1 := h.c1
 have e8 : IntKind.i64.wrap (J.c + 8) = J.c + 8 := w64 (by omega) (by omega)
 have HB := hid (And.intro h0 h1)
 have HH := hid h
 have HDN : Hid (∀ k : Nat, k < 8 → ¬ wasJ J (J.c + 1 + (k : Int)) → hdJ J (k + 1) = hdJ J k) := hid fun k _ hn => by rw [hdJ, if_neg hn]
 have HDY : Hid (∀ k : Nat, k < 8 → wasJ J (J.c + 1 + (k : Int)) → hdJ J (k + 1) = J.c + 1 + (k : Int)) := hid fun k _ hn => by rw [hdJ, if_pos hn]
 have HDZ : Hid (hdJ J 0 = J.c) := hid rfl
 have HXA : Hid (∀ W {X : List Nat}, Jd w0 W jp p gs S J X → ∀ (k s : Nat), k < 8 → s < 8 → (J.c + 1 + (k : Int)) % 8 = s → W.rangeAt jp (2 + s * 15) (itC (J.item (J.c + 1 + (k : Int))))) := hid fun W X hW k s hk hs hso => by
  have := hW.range hs
  rw [show slotN J.c s = J.c + 1 + (k : Int) by have := slotN_of (c := J.c) (n := J.c + 1 + (k : Int)) ⟨by omega, by omega⟩; rw [show ((J.c + 1 + (k : Int)) % 8).toNat = s by omega] at this; exact this] at this
  exact this
 clear h hw
 go_enter Tryd.func23, Tryd.ntmps23
 go_wp2_with fail
 go_loopw [3] (fun i wr => ∃ k : Nat, k ≤ 8 ∧ i = .int .i64 (J.c + (k : Int)) ∧ Hid (hdJ J 8 = hdJ J k) ∧ Jd w0 wr jp p gs S J G ∧ Ek w wr G) (fun i _ => (intOf i - J.c).toNat)
 case atStart => exact ⟨8, by omega, rfl, hid rfl, HH.out, Ek.refl _ _⟩
 case round =>
  obtain ⟨k, hk, rfl, hst, hj, hek⟩ := hrel
  have HJ := hid hj
  have HEK := hid hek
  have cr := hj.c1
  obtain ⟨b1, b2⟩ := HB.out
  cases k with
  | zero =>
   clear hj hek HDN HDY HXA
   go_wp2_with fail
   go_ret
   exact ⟨by rw [hst.out, HDZ.out]; rfl, HJ.out, HEK.out⟩
  | succ k =>
   obtain ⟨n, hn⟩ : ∃ n, n = J.c + 1 + (k : Int) := ⟨_, rfl⟩
   have hn2 : J.c + ((k + 1 : Nat) : Int) = n := by push_cast; omega
   rw [hn2]
   obtain ⟨s, hs, hso⟩ : ∃ s : Nat, s < 8 ∧ n % 8 = s := ⟨(n % 8).toNat, by omega, by omega⟩
   have hb : (s : Int) < 8 := by omega
   have hgt : J.c < n := by omega
   have HSL : Hid (∀ W, Calls Tryd.prog 34 #[.int .i64 n] W fun x w' => x = .returned (.int .i64 (s : Int)) ∧ W = w') := hid fun W => by
    have := slotOf_any n (by omega) W
    rw [hso] at this
    exact this
   have HXR : Hid (∀ W {X : List Nat}, Jd w0 W jp p gs S J X → W.rangeAt jp (2 + s * 15) (itC (J.item n))) := hid fun W X hW => by
    have := HXA.out W hW k s (by omega) hs (by rw [← hn]; exact hso)
    rw [← hn] at this
    exact this
   have HWS : Hid (∀ W, Calls Tryd.prog 42 #[.agg (J.item n).cells] W fun e w' => e = .returned (.bool (decide (wasJ J n))) ∧ Below W.heap.size W w') := hid fun W => was_any (J.item n) W
   have e1 : IntKind.i64.wrap (n - 1) = n - 1 := w64 (by omega) (by omega)
   have HST := hid hst.out
   have HN := hid hn
   by_cases hw2 : wasJ J n
   ·
    have HE := hid (HDY.out k (by omega) (by rw [← hn]; exact hw2))
    rw [decide_eq_true hw2] at HWS
    generalize J.item n = x at *
    clear hj hek HDN HDY HXA hw2 hs hso hn hn2 hk hst
    go_wp2_with fail
    try simp only [Act.put, U1,U2,U3,U4,U5,U6]
    refine wp_region_held_drew (S := fun W => Jd w0 W jp p gs S J G ∧ Ek wr W G) (by kernel_rfl) (⟨HJ.out.drew, fun _ _ => rfl⟩) (fun hH => ?_)
    refine tk_ (i := 0) (v := .pointer (some ⟨jp, 0, none⟩)) rfl (Or.inl ⟨by kernel_rfl, fun w' _ => by kernel_rfl⟩) hH ?_
    simp only [Act.put, U1, U3, U4, U5, U6]
    refine tk_ (i := 1) (v := .int .i64 n) rfl (Or.inl ⟨by kernel_rfl, fun w' _ => by kernel_rfl⟩) hH ?_
    simp only [Act.put, U1,U2,U3,U4,U5,U6]
    refine tk_ (i := 3) (v := .pointer (some ⟨jp, 0, none⟩)) rfl (Or.inl ⟨by rfl, fun w' hw' => by clear hw'; go_simp⟩) hH ?_
    simp only [Act.put, U1,U2,U3,U4,U5,U6]
    refine tk_ (i := 4) (v := .pointer (some ⟨jp, 2, none⟩)) rfl (Or.inl ⟨by rfl, fun w' hw' => by clear hw'; go_simp⟩) hH ?_
    simp only [Act.put, U1,U2,U3,U4,U5,U6]
    refine wpAnyH_ready (rs := [2]) (by kernel_rfl) (by simp) ?_
    refine AllReadyH.cons rfl (fun K hK => ?_) AllReadyH.nil
    go_simp
    go_at_call 34
    refine (HSL.out _).mono ?_
    rintro y w2 ⟨rfl, hw2⟩
    go_wp2_with fail
    refine hK.out _ _ (hw2 ▸ hH) (fun hH => ?_)
    clear hK K
    try simp only [Act.put, U1,U2,U3,U4,U5,U6]
    refine tk_ (i := 5) (v := .pointer (some ⟨jp, 2 + s * 15, none⟩)) rfl (Or.inl ⟨by rfl, fun w' hw' => by clear hw'; go_simp⟩) hH ?_
    simp only [Act.put, U1,U2,U3,U4,U5,U6]
    refine tk_ (i := 6) (v := .agg x.cells) rfl ?_ hH ?_
    ·
     refine yieldsIf_load_mid ?_ 44 (.tmp 24) ?_ jp (2 + s * 15) ?_ (itC x) _ (fun W hW => HXR.out W hW.1) Tryd.underlying44 rfl itemSize13
     all_goals kernel_rfl
    simp only [Act.put, U1,U2,U3,U4,U5,U6]
    refine wpAnyH_ready (rs := [7]) (by kernel_rfl) (by simp) ?_
    refine AllReadyH.cons rfl (fun K hK => ?_) AllReadyH.nil
    go_simp
    go_at_call 42
    refine (HWS.out _).mono ?_
    rintro y w3 ⟨rfl, hb3⟩
    go_wp2_with fail
    refine hK.out _ _ (⟨(hH.1.new hb3).1, hH.2.trans (hH.1.new hb3).2⟩) (fun hH => ?_)
    clear hK K
    try simp only [Act.put, U1,U2,U3,U4,U5,U6]
    refine wpAnyH_done (by kernel_rfl) ?_ _
    try simp only [Act.put, U1,U2,U3,U4,U5,U6]
    have H3 := hid hH.1
    have E3 := hid (HEK.out.trans hH.2)
    clear hH hb3 hw2
    go_wp2_with fail
    go_ret
    exact ⟨by rw [HST.out, HE.out, ← HN.out]; rfl, H3.out, E3.out⟩
   ·
    have HE := hid (HDN.out k (by omega) (by rw [← hn]; exact hw2))
    rw [decide_eq_false hw2] at HWS
    generalize J.item n = x at *
    clear hj hek HDN HDY HXA hw2 hs hso hn2 hst
    have HKB := hid (And.intro hk hn)
    clear hk hn
    go_wp2_with fail
    try simp only [Act.put, U1,U2,U3,U4,U5,U6]
    refine wp_region_held_drew (S := fun W => Jd w0 W jp p gs S J G ∧ Ek wr W G) (by kernel_rfl) (⟨HJ.out.drew, fun _ _ => rfl⟩) (fun hH => ?_)
    refine tk_ (i := 0) (v := .pointer (some ⟨jp, 0, none⟩)) rfl (Or.inl ⟨by kernel_rfl, fun w' _ => by kernel_rfl⟩) hH ?_
    simp only [Act.put, U1, U3, U4, U5, U6]
    refine tk_ (i := 1) (v := .int .i64 n) rfl (Or.inl ⟨by kernel_rfl, fun w' _ => by kernel_rfl⟩) hH ?_
    simp only [Act.put, U1,U2,U3,U4,U5,U6]
    refine tk_ (i := 3) (v := .pointer (some ⟨jp, 0, none⟩)) rfl (Or.inl ⟨by rfl, fun w' hw' => by clear hw'; go_simp⟩) hH ?_
    simp only [Act.put, U1,U2,U3,U4,U5,U6]
    refine tk_ (i := 4) (v := .pointer (some ⟨jp, 2, none⟩)) rfl (Or.inl ⟨by rfl, fun w' hw' => by clear hw'; go_simp⟩) hH ?_
    simp only [Act.put, U1,U2,U3,U4,U5,U6]
    refine wpAnyH_ready (rs := [2]) (by kernel_rfl) (by simp) ?_
    refine AllReadyH.cons rfl (fun K hK => ?_) AllReadyH.nil
    go_simp
    go_at_call 34
    refine (HSL.out _).mono ?_
    rintro y w2 ⟨rfl, hw2⟩
    go_wp2_with fail
    refine hK.out _ _ (hw2 ▸ hH) (fun hH => ?_)
    clear hK K
    try simp only [Act.put, U1,U2,U3,U4,U5,U6]
    refine tk_ (i := 5) (v := .pointer (some ⟨jp, 2 + s * 15, none⟩)) rfl (Or.inl ⟨by rfl, fun w' hw' => by clear hw'; go_simp⟩) hH ?_
    simp only [Act.put, U1,U2,U3,U4,U5,U6]
    refine tk_ (i := 6) (v := .agg x.cells) rfl ?_ hH ?_
    ·
     refine yieldsIf_load_mid ?_ 44 (.tmp 24) ?_ jp (2 + s * 15) ?_ (itC x) _ (fun W hW => HXR.out W hW.1) Tryd.underlying44 rfl itemSize13
     all_goals kernel_rfl
    simp only [Act.put, U1,U2,U3,U4,U5,U6]
    refine wpAnyH_ready (rs := [7]) (by kernel_rfl) (by simp) ?_
    refine AllReadyH.cons rfl (fun K hK => ?_) AllReadyH.nil
    go_simp
    go_at_call 42
    refine (HWS.out _).mono ?_
    rintro y w3 ⟨rfl, hb3⟩
    go_wp2_with fail
    refine hK.out _ _ (⟨(hH.1.new hb3).1, hH.2.trans (hH.1.new hb3).2⟩) (fun hH => ?_)
    clear hK K
    try simp only [Act.put, U1,U2,U3,U4,U5,U6]
    refine wpAnyH_done (by kernel_rfl) ?_ _
    try simp only [Act.put, U1,U2,U3,U4,U5,U6]
    have H3 := hid hH.1
    have E3 := hid (HEK.out.trans hH.2)
    clear hH hb3 hw2
    go_wp2_with fail
    go_roundw
    case rel => exact ⟨k, by have := HKB.out.1; omega, by have := HKB.out.2; first | rfl | (congr 1; omega) | simp; omega, hid (by rw [HST.out, HE.out]), H3.out, E3.out⟩
    case measure => simp [intOf]; have := HKB.out.2; omega
end Go.Proofs.YtafbeepacncooaaDoor
/-
  The walk of package journal's Format, on a new disk.
-/
namespace Go.Proofs.YtafbeepacncooaaDoor
open Go.RowKit
set_option maxRecDepth 10000

/-- a new disk behind j writes of Format -/
def fmtS (j : Nat) : Sp := ⟨List.replicate 32 sec0, fmtW (b384 0) j, true, 0, j⟩
theorem fmt_read {j k : Nat} (hj : j ≤ k) (hk : k < 16) : (fmtS j).read (fmtI k) = (b384 0, 0) := by
 have hl := fmtI_lt hk
 unfold fmtS Sp.read
 rw [if_neg (by simp only [Decidable.not_not]; exact ⟨by omega, by simp; omega⟩), if_neg (by simp)]
 have hnz : newest (fmtW (b384 0) j) (fmtI k) = 0 := (newest_zero _ _).2 fun x hx => by
  obtain ⟨i, hi, e⟩ := fmtW_mem hx
  subst e
  intro q
  have := fmtI_inj q (by omega) (by omega)
  omega
 rcases newest_get (fmtW (b384 0) j) (fmtI k) ((List.replicate 32 sec0).getD (fmtI k) ⟨[], false⟩).lasts with ⟨_, h2, _⟩ | ⟨i, h1, _⟩
 ·
  show (lastw (fmtW (b384 0) j) (fmtI k) ((List.replicate 32 sec0).getD (fmtI k) ⟨[], false⟩).lasts, _) = _
  rw [h2, List.getD_eq_getElem?_getD, List.getElem?_replicate_of_lt (by omega)]
  rfl
 ·
  rw [hnz] at h1
  cases h1
theorem fmt_write {j : Nat} (hj : j < 16) : (fmtS j).write (fmtI j) (voidS (b384 0)) = (fmtS (j + 1), 0) := by
 have hl := fmtI_lt hj
 have hv : (layS (nextS (b384 0)) []).length = 384 := layS_len _ _ (by simp)
 rw [void_ok]
 exact Sp.write_ok (S := fmtS j) (by simp [fmtS]; omega) hv rfl (by simp [fmtS])
theorem fmt_look {s : Nat} (hs : s < 8) : lookP (fmtS (2 * s)) s = (b384 0, b384 0, 0) := by
 have r1 := fmt_read (j := 2 * s) (k := 2 * s) (Nat.le_refl _) (by omega)
 have r2 := fmt_read (j := 2 * s) (k := 2 * s + 1) (by omega) (by omega)
 rw [show fmtI (2 * s) = 4 + s by unfold fmtI; omega] at r1
 rw [show fmtI (2 * s + 1) = 12 + s by unfold fmtI; omega] at r2
 unfold lookP
 rw [r1, r2]
 simp
set_option maxHeartbeats 4000000 in
theorem format_any13 {w0 w : World} {p gs : Nat} {G : List Nat} (h : Dd w0 w p gs (Sp.mk0 32) G) :
  Calls Tryd.prog 25 #[.pointer (some ⟨p, 0, none⟩)] w (DC w0 w p gs (formatJ (Sp.mk0 32)).1 G (.int .i64 0)) := by
 have HLK : Hid (∀ W (s : Nat), s < 8 → Dd w0 W p gs (fmtS (2 * s)) G → Calls Tryd.prog 46 #[.pointer (some ⟨p, 0, none⟩), .int .i64 (s : Int)] W (DC w0 W p gs (fmtS (2 * s)) G (.tuple #[.string ⟨(b384 0).toArray⟩, .string ⟨(b384 0).toArray⟩, .int .i64 0]))) := hid fun W s hs hW => by
  have := lookj_any hW (by show 2 * s ≤ _; omega) s hs
  rw [fmt_look hs] at this
  exact this
 have HVD : Hid (∀ W, Calls Tryd.prog 48 #[.string ⟨(b384 0).toArray⟩] W fun e w' => e = .returned (.string ⟨(voidS (b384 0)).toArray⟩) ∧ Below W.heap.size W w') := hid fun W => by
  have := svoid_any ⟨(b384 0).toArray⟩ (by rw [sz_mk, b384_len]; decide) W
  rw [sb_mk] at this
  exact this
 have HW1 : Hid (∀ W (s : Nat), s < 8 → Dd w0 W p gs (fmtS (2 * s)) G → Calls Tryd.prog 47 #[.pointer (some ⟨p, 0, none⟩), .int .i64 ((4 + s : Nat) : Int), .string ⟨(voidS (b384 0)).toArray⟩] W (DC w0 W p gs (fmtS (2 * s + 1)) G (.int .i64 0))) := hid fun W s hs hW => dd_write hW (by show 2 * s ≤ _; omega) _ _ (by
  rw [sb_mk, show ((4 + s : Nat) : Int) = ((fmtI (2 * s) : Nat) : Int) by unfold fmtI; omega]
  exact fmt_write (by omega))
 have HW2 : Hid (∀ W (s : Nat), s < 8 → Dd w0 W p gs (fmtS (2 * s + 1)) G → Calls Tryd.prog 47 #[.pointer (some ⟨p, 0, none⟩), .int .i64 ((12 + s : Nat) : Int), .string ⟨(voidS (b384 0)).toArray⟩] W (DC w0 W p gs (fmtS (2 * (s + 1))) G (.int .i64 0))) := hid fun W s hs hW => dd_write hW (by show 2 * s + 1 ≤ _; omega) _ _ (by
  rw [sb_mk, show ((12 + s : Nat) : Int) = ((fmtI (2 * s + 1) : Nat) : Int) by unfold fmtI; omega, show 2 * (s + 1) = 2 * s + 1 + 1 by omega]
  exact fmt_write (by omega))
 have hff : formatJ (Sp.mk0 32) = (fmtS 16).flush := by
  unfold formatJ
  rw [fmtK_at 32 (by decide) 16 (Nat.le_refl _), if_neg (by simp)]
  rfl
 have hf2 : (formatJ (Sp.mk0 32)).2 = 0 := by
  obtain ⟨S, e, _⟩ := format_mk0 32 (by decide)
  rw [e]
 have HFL : Hid (∀ W, Dd w0 W p gs (fmtS (2 * 8)) G → Calls Tryd.prog 49 #[.pointer (some ⟨p, 0, none⟩)] W (DC w0 W p gs (formatJ (Sp.mk0 32)).1 G (.int .i64 0))) := hid fun W hW => dd_flush hW (by show 16 ≤ _; omega) (by
  rw [show 2 * 8 = 16 by rfl, ← hff]
  exact Prod.ext rfl hf2)
 generalize (formatJ (Sp.mk0 32)).1 = SF at *
 generalize b384 0 = z at HLK HVD HW1 HW2
 have HH : Hid (Dd w0 w p gs (fmtS (2 * 0)) G) := hid h
 clear h hff hf2
 go_enter Tryd.func25, Tryd.ntmps25
 go_wp2_with fail
 go_loopw [9] (fun i wr => ∃ k : Nat, k ≤ 8 ∧ i = .int .i64 k ∧ Dd w0 wr p gs (fmtS (2 * k)) G ∧ Ek w wr G) (fun i _ => 8 - (intOf i).toNat)
 case atStart => exact ⟨0, by omega, rfl, HH.out, Ek.refl _ _⟩
 case round =>
  obtain ⟨k, hk, rfl, hj, hek⟩ := hrel
  have HEK := hid hek
  have HJ := hid hj
  by_cases hlt : k < 8
  ·
   have hbk : (k : Int) < 8 := by omega
   have e4 : IntKind.i64.wrap (4 + (k : Int)) = ((4 + k : Nat) : Int) := by rw [w64 (by omega) (by omega)]; omega
   have e12 : IntKind.i64.wrap (12 + (k : Int)) = ((12 + k : Nat) : Int) := by rw [w64 (by omega) (by omega)]; omega
   have hL := hid (fun W => HLK.out W k hlt)
   have h1 := hid (fun W => HW1.out W k hlt)
   have h2 := hid (fun W => HW2.out W k hlt)
   clear hj hek HLK HW1 HW2 HFL
   generalize fmtS (2 * k) = SA at *
   generalize fmtS (2 * k + 1) = SB at *
   generalize ((4 + k : Nat) : Int) = a4 at *
   generalize ((12 + k : Nat) : Int) = a12 at *
   go_wp2_with (first
    | (go_at_call 46; refine (hL.out _ HJ.out).mono ?_; rintro e w1 ⟨rfl, q, k1⟩; have H1 := hid q; have E1 := hid (HEK.out.trans k1); clear q k1)
    | (go_at_call_of 47 (Value.int IntKind.i64 a4); refine (h1.out _ (H1.out.new hb2).1).mono ?_; rintro e w3 ⟨rfl, q, k3⟩; have H3 := hid q; have E3 := hid (E1.out.trans ((H1.out.new hb2).2.trans k3)); clear q k3)
    | (go_at_call_of 47 (Value.int IntKind.i64 a12); refine (h2.out _ (H3.out.new hb4).1).mono ?_; rintro e w5 ⟨rfl, q, k5⟩; have H5 := hid q; have E5 := hid (E3.out.trans ((H3.out.new hb4).2.trans k5)); clear q k5)
    | (go_at_call 48; refine (HVD.out w1).mono ?_; rintro e w2 ⟨rfl, hb2⟩)
    | (go_at_call 48; refine (HVD.out w3).mono ?_; rintro e w4 ⟨rfl, hb4⟩))
   go_roundw
   case rel => exact ⟨k + 1, by omega, by go_num, H5.out, E5.out⟩
   case measure => simp [intOf]; omega
  ·
   obtain rfl : k = 8 := by omega
   clear HLK HW1 HW2 hj
   go_wp2_with (go_at_call 49; refine (HFL.out _ HJ.out).mono ?_; rintro e w3 ⟨rfl, q, k3⟩)
   go_ret
   exact ⟨rfl, q, HEK.out.trans k3⟩
end Go.Proofs.YtafbeepacncooaaDoor
/-
  The chapter's example; the disk that the laws begin with.
-/
namespace Go.Proofs.YtafbeepacncooaaDoor
open Go.RowKit
set_option maxRecDepth 10000

/-- a formatted disk's journal lacks all -/
theorem open_new {S : Sp} (h : TdJ S (fun _ => some [])) : ∀ k, k ≤ 8 → openK S 0 k = (S, List.replicate 8 it0, 0)
 | 0, _ => rfl
 | k + 1, hk => by
  have hr := reads_of h (slotN 0 k)
  have e1 : judgeK (some []) (some []) (slotN 0 k) = it0 := by unfold judgeK; rw [eK_void, sK_void]; simp
  have e2 := open_kc hr.kp hr.kh (slotN 0 k)
  have e3 := judge_kc hr.kp hr.kh (slotN 0 k)
  rw [e1] at e3
  rw [openK, open_new h k (by omega)]
  simp only
  rw [if_neg (by simp), hr.p, hr.h]
  simp only
  rw [if_neg (by simp), if_neg (by simp)]
  have e4 : openP (secJ S (pN (slotN 0 k))).lasts (secJ S (hN (slotN 0 k))).lasts (slotN 0 k) = [] := by
   unfold openP
   rw [e3, if_pos (show it0.kind = 0 from rfl)]
   unfold cleanP
   rw [entry_kc hr.kp, stub_kc hr.kh, eK_void, sK_void]
   simp
  rw [e4, e3]
  show (if (S, (0 : Int)).2 ≠ 0 then _ else (S, (List.replicate 8 it0).set _ it0, (0 : Int))) = _
  rw [if_neg (by simp)]
  congr 2
  exact List.set_replicate_self
def ex13 : En := ⟨0, 1, 0, 0, 1, 0, 0, 1, ⟨#[]⟩⟩
theorem ex13_rt : Rt ex13 := by unfold Rt ex13; decide
theorem ex13_fits : ex13.fits := by unfold En.fits ex13 In64; decide
/-- the journal that the laws begin with -/
def jn0 : Jn := ⟨0, List.replicate 8 it0⟩
theorem jn0_item (n : Int) : jn0.item n = it0 := by
 unfold Jn.item
 split
 ·
  show (List.replicate 8 it0).getD _ it0 = it0
  rw [List.getD_eq_getElem?_getD, List.getElem?_replicate]
  split <;> rfl
 ·
  rfl
theorem jn0_head : hdJ jn0 8 = 0 := by
 have h : ∀ n, ¬ wasJ jn0 n := fun n => by unfold wasJ; rw [jn0_item]; decide
 simp only [hdJ, if_neg (h _)]
 rfl
theorem jn1_head (x : It) (hx : x.kind = 1) : hdJ (jn0.set 1 x) 8 = 1 := by
 have hi : ∀ n, (jn0.set 1 x).item n = if n = 1 then x else it0 := fun n => by rw [set_item (by rfl) x ⟨by decide, by decide⟩, jn0_item]
 have h1 : wasJ (jn0.set 1 x) 1 := .inl (by rw [hi, if_pos rfl]; exact hx)
 have h : ∀ n, n ≠ 1 → ¬ wasJ (jn0.set 1 x) n := fun n hn => by unfold wasJ; rw [hi, if_neg hn]; decide
 have hc : (jn0.set 1 x).c = 0 := rfl
 have e : ∀ k, hdJ (jn0.set 1 x) (k + 1) = 1 := fun k => by
  induction k with
  | zero => rw [hdJ, hc, if_pos (by simpa using h1)]; rfl
  | succ k ih => rw [hdJ, hc, if_neg (h _ (by omega)), ih]
 exact e 7
/-- what the example does -/
theorem ex13_does : ∃ SF S2 l1 l2, formatJ (Sp.mk0 32) = (SF, 0) ∧ openJ SF 0 = (SF, some jn0, 0) ∧ JWf jn0 ∧ putJ SF jn0 ex13 = (S2, jn0.set 1 ⟨1, stubS ex13, ex13⟩, 0) ∧ SF.count = 17 ∧ S2.count ≤ 900000 ∧ JWf (jn0.set 1 ⟨1, stubS ex13, ex13⟩) ∧
  S2.read 5 = (l1, 0) ∧ S2.read 13 = (l2, 0) ∧ judgeS l1 l2 1 = ⟨1, stubS ex13, ex13⟩ := by
 obtain ⟨SF, e1, t, z, hc, hn⟩ := format_mk0 32 (by decide)
 have hw : JWf jn0 := ⟨rfl, by decide, by decide, fun n _ => .inl (jn0_item n)⟩
 have hr := ex13_rt
 have hf := ex13_fits
 obtain ⟨S2, e2, t2, _, c2⟩ := layL_zero [lE ex13, lS (stubS ex13)] t z (by
  intro x hx
  simp only [List.mem_cons, List.not_mem_nil, or_false] at hx
  rcases hx with rfl | rfl
  ·
   exact lE_ok hf hr
  ·
   exact lS_ok (stubS_ok hr))
 have hso : (stubS ex13).opn = 1 := by rw [stubS_rt hr]; rfl
 have p1 : pN ex13.opn = 5 := by decide
 have h1 : hN (stubS ex13).opn = 13 := by rw [hso]; decide
 have k5 : appK (fun _ => some []) [lE ex13, lS (stubS ex13)] 5 = some (packE ex13).1 := by
  show updJ (updJ (fun _ => some []) (pN ex13.opn) (some (packE ex13).1)) (hN (stubS ex13).opn) (some (stubS ex13).bytes) 5 = _
  rw [p1, h1]
  rfl
 have k13 : appK (fun _ => some []) [lE ex13, lS (stubS ex13)] 13 = some (stubS ex13).bytes := by
  show updJ (updJ (fun _ => some []) (pN ex13.opn) (some (packE ex13).1)) (hN (stubS ex13).opn) (some (stubS ex13).bytes) 13 = _
  rw [p1, h1]
  rfl
 have q5 := t2.ks 5 (by decide) (by decide)
 have q13 := t2.ks 13 (by decide) (by decide)
 rw [k5] at q5
 rw [k13] at q13
 have n5 := readJ t2.cl (k := 5) (by have := t2.n; omega)
 have n13 := readJ t2.cl (k := 13) (by have := t2.n; omega)
 have s5 := entry_kc q5
 have s13 := stub_kc q13
 rw [eK_entry hf hr] at s5
 rw [sK_stub (stubS_fits hf) (stubS_ok hr)] at s13
 have hwf : JWf (jn0.set 1 ⟨1, stubS ex13, ex13⟩) := jset_wf hw ⟨by decide, by decide⟩ (.inr (.inl ⟨ex13, hf, hr, rfl, rfl⟩))
 refine ⟨SF, S2, _, _, e1, ?_, hw, ?_, hc, by rw [c2, hc]; decide, hwf, n5, n13, judge_holds hr s5 s13⟩
 ·
  unfold openJ
  rw [if_neg (by decide), open_new t 8 (Nat.le_refl _)]
  rfl
 ·
  rw [put_eq hw hr ⟨by decide, by decide⟩, jn0_item]
  have e3 : putL13 it0 ex13 = [lE ex13, lS (stubS ex13)] := by
   unfold putL13 putP
   rw [if_neg (by intro q; have := congrArg En.opn q; exact absurd this (by decide)), if_neg (by decide), if_neg (by decide)]
   rfl
  rw [e3, e2, if_pos rfl]
  rfl
theorem Dd.of_dk {w w' : World} {p gs : Nat} {S : Sp} (h : Dk w.heap.size w w' p gs S) (hf : Fd w) : Dd w w' p gs S [] := by
 obtain ⟨vw, h1, h2, h3, h4⟩ := h
 exact ⟨vw, h1, fun b hb => ⟨h2 b hb, by simp⟩, h3, by simp, hf⟩
set_option maxHeartbeats 4000000 in
theorem awake13_any (w : World) (hf : Fd w) : Calls Tryd.prog 7 #[] w (Yes w) := by
 obtain ⟨SF, S2, l1, l2, e1, e2, w1, e3, c1, c2, w2, r5, r13, hj⟩ := ex13_does
 have HN : Hid (Calls Tryd.prog 24 #[.int .i64 32] w fun e w' => ∃ p gs, e = .returned (.tuple #[.pointer (some ⟨p, 0, none⟩), .int .i64 0]) ∧ Dd w w' p gs (Sp.mk0 32) []) := hid ((dk_new 32 w (by decide) (by decide)).mono (by
  rintro e w' ⟨p, gs, k1, k2⟩
  exact ⟨p, gs, k1, Dd.of_dk k2 hf⟩))
 have HF : Hid (∀ W p gs, Dd w W p gs (Sp.mk0 32) [] → Calls Tryd.prog 25 #[.pointer (some ⟨p, 0, none⟩)] W (DC w W p gs SF [] (.int .i64 0))) := hid fun W p gs hW => by
  have := format_any13 hW
  rw [e1] at this
  exact this
 have HO : Hid (∀ W p gs, Dd w W p gs SF [] → Calls Tryd.prog 18 #[.pointer (some ⟨p, 0, none⟩), .int .i64 0] W fun e w' => ∃ jp, e = .returned (.tuple #[.pointer (some ⟨jp, 0, none⟩), .int .i64 0]) ∧ Jd w w' jp p gs SF jn0 []) := hid fun W p gs hW => by
  have := openj_any hW 0 (by omega)
  rw [e2] at this
  refine this.mono ?_
  rintro e w' ⟨jp, k1, k2, _⟩
  exact ⟨jp, k1, k2⟩
 have HH0 : Hid (∀ W jp p gs, Jd w W jp p gs SF jn0 [] → Calls Tryd.prog 23 #[.pointer (some ⟨jp, 0, none⟩)] W (JC w W jp p gs SF jn0 [] (.int .i64 0))) := hid fun W jp p gs hW => by
  have := head_any13j hW w1
  rw [jn0_head] at this
  exact this
 have HP : Hid (∀ W jp p gs, Jd w W jp p gs SF jn0 [] → Calls Tryd.prog 19 #[.pointer (some ⟨jp, 0, none⟩), .agg ex13.cells] W (JC w W jp p gs S2 (jn0.set 1 ⟨1, stubS ex13, ex13⟩) [] (.int .i64 0))) := hid fun W jp p gs hW => by
  have := put_any13 hW w1 ex13 ex13_fits (by omega)
  rw [e3] at this
  exact this
 have HH1 : Hid (∀ W jp p gs, Jd w W jp p gs S2 (jn0.set 1 ⟨1, stubS ex13, ex13⟩) [] → Calls Tryd.prog 23 #[.pointer (some ⟨jp, 0, none⟩)] W (JC w W jp p gs S2 (jn0.set 1 ⟨1, stubS ex13, ex13⟩) [] (.int .i64 1))) := hid fun W jp p gs hW => by
  have := head_any13j hW w2
  rw [jn1_head _ rfl] at this
  exact this
 have HR5 : Hid (∀ W jp p gs, Jd w W jp p gs S2 (jn0.set 1 ⟨1, stubS ex13, ex13⟩) [] → Calls Tryd.prog 26 #[.pointer (some ⟨p, 0, none⟩), .int .i64 5] W (JC w W jp p gs S2 (jn0.set 1 ⟨1, stubS ex13, ex13⟩) [] (.tuple #[.string ⟨l1.toArray⟩, .int .i64 0]))) := hid fun W jp p gs hW => hW.callD fun hD => dd_read hD (by omega) _ r5
 have HR13 : Hid (∀ W jp p gs, Jd w W jp p gs S2 (jn0.set 1 ⟨1, stubS ex13, ex13⟩) [] → Calls Tryd.prog 26 #[.pointer (some ⟨p, 0, none⟩), .int .i64 13] W (JC w W jp p gs S2 (jn0.set 1 ⟨1, stubS ex13, ex13⟩) [] (.tuple #[.string ⟨l2.toArray⟩, .int .i64 0]))) := hid fun W jp p gs hW => hW.callD fun hD => dd_read hD (by omega) _ r13
 have HJ : Hid (∀ W, Fd W → Calls Tryd.prog 27 #[.string ⟨l1.toArray⟩, .string ⟨l2.toArray⟩, .int .i64 1] W (VE W (.agg (⟨1, stubS ex13, ex13⟩ : It).cells))) := hid fun W hW => by
  have := judge_any ⟨l1.toArray⟩ ⟨l2.toArray⟩ 1 W hW
  rw [sb_mk, sb_mk, hj] at this
  exact this
 clear e1 e2 e3 w1 w2 c1 c2 r5 r13 hj hf
 generalize stubS ex13 = t at *
 generalize jn0.set 1 ⟨1, t, ex13⟩ = J1 at *
 go_enter Tryd.func7, Tryd.ntmps7
 go_wp2_with (first
  | (go_at_call 24; refine HN.out.mono ?_; rintro e w1 ⟨p, gs, rfl, q1⟩; have H1 := hid q1; clear q1)
  | (go_at_call 25; refine (HF.out _ _ _ H1.out).mono ?_; rintro e w2 ⟨rfl, q2, _⟩; have H2 := hid q2; clear q2)
  | (go_at_call 18; refine (HO.out _ _ _ H2.out).mono ?_; rintro e w3 ⟨jp, rfl, q3⟩; have H3 := hid q3; clear q3)
  | (go_at_call 19; refine (HP.out _ _ _ _ H4.out).mono ?_; rintro e w5 ⟨rfl, q5, _⟩; have H5 := hid q5; clear q5)
  | (go_at_call_of 26 (Value.int IntKind.i64 5); refine (HR5.out _ _ _ _ H5.out).mono ?_; rintro e w6 ⟨rfl, q6, _⟩; have H6 := hid q6; clear q6)
  | (go_at_call_of 26 (Value.int IntKind.i64 13); refine (HR13.out _ _ _ _ H6.out).mono ?_; rintro e w7 ⟨rfl, q7, _⟩; have H7 := hid q7; clear q7)
  | (go_at_call 23; refine (HH1.out _ _ _ _ H7.out).mono ?_; rintro e w8 ⟨rfl, q8, _⟩; have H8 := hid q8; clear q8)
  | (go_at_call 23; refine (HH0.out _ _ _ _ H3.out).mono ?_; rintro e w4 ⟨rfl, q4, _⟩; have H4 := hid q4; clear q4)
  | (go_at_call 27; refine (HJ.out _ H8.out.fd).mono ?_; rintro e w9 ⟨rfl, hb9⟩)
  | ((with_reducible show wpList _ _ _ ({ dst := some 61, op := _, type := _, pos := _, after := _, guard := _ } :: _) _ _); refine wpl_run rfl (.int .i64 1) (fun _ => by kernel_rfl) ?_))
 go_ret
 exact ⟨rfl, (H8.out.new hb9).1.below⟩
end Go.Proofs.YtafbeepacncooaaDoor
/-
  The law's world: a disk with a journal on it; begin.
-/
namespace Go.Proofs.YtafbeepacncooaaDoor
open Go.RowKit
set_option maxRecDepth 10000

/-- the journal's pointer -/
def jpV : Option Nat → Value
 | some jp => .pointer (some ⟨jp, 0, none⟩)
 | none => .pointer none
def wC (p : Nat) (o : Option Nat) (c : Int) : List Value := [.pointer (some ⟨p, 0, none⟩), jpV o, .int .i64 c]
/-- the disk S at p with the journal j, the world's block bw, the blocks G apart -/
def Wj (w0 w : World) (bw p gs : Nat) (v : Wd) (G : List Nat) : Prop :=
 w0.heap.size ≤ bw ∧ bw ∉ G ∧
 match v.j with
 | some J => ∃ jp, Jd w0 w jp p gs v.S J (bw :: G) ∧ Row w bw 37 (wC p (some jp) v.c)
 | none => Dd w0 w p gs v.S (bw :: G) ∧ Row w bw 37 (wC p none v.c)
section
variable {w0 w w' : World} {bw p gs : Nat} {v : Wd} {G : List Nat}
theorem Wj.dd (h : Wj w0 w bw p gs v G) : Dd w0 w p gs v.S (bw :: G) := by
 obtain ⟨_, _, h⟩ := h
 cases hj : v.j with
 | some J =>
  rw [hj] at h
  obtain ⟨jp, h, _⟩ := h
  exact h.1.tail
 | none =>
  rw [hj] at h
  exact h.1
theorem Wj.below (h : Wj w0 w bw p gs v G) : Below w0.heap.size w0 w := h.dd.below
theorem Wj.new (h : Wj w0 w bw p gs v G) (hb : Below w.heap.size w w') : Wj w0 w' bw p gs v G ∧ Ek w w' G := by
 obtain ⟨S, j, c⟩ := v
 obtain ⟨h1, h2, h⟩ := h
 cases j with
 | some J =>
  obtain ⟨jp, h, hr⟩ := h
  obtain ⟨k1, k2⟩ := h.new hb
  exact ⟨⟨h1, h2, jp, k1, k2.row hr (by simp)⟩, k2.tail⟩
 | none =>
  obtain ⟨h, hr⟩ := h
  obtain ⟨k1, k2⟩ := h.new hb
  exact ⟨⟨h1, h2, k1, k2.row hr (by simp)⟩, k2.tail⟩
theorem Wj.add (h : Wj w0 w bw p gs v G) (hb : Below w.heap.size w w') {g : Nat} (hg : w.heap.size ≤ g) (hlt : g < w'.heap.size) : Wj w0 w' bw p gs v (g :: G) := by
 have hbl := h.dd.lt bw (by simp)
 obtain ⟨S, j, c⟩ := v
 obtain ⟨h1, h2, h⟩ := h
 have hn : bw ∉ g :: G := by
  simp only [List.mem_cons, not_or]
  exact ⟨by omega, h2⟩
 have hs : ∀ x ∈ bw :: g :: G, x ∈ g :: bw :: G := by
  intro x hx
  simp only [List.mem_cons] at hx ⊢
  rcases hx with h | h | h
  ·
   exact .inr (.inl h)
  ·
   exact .inl h
  ·
   exact .inr (.inr h)
 cases j with
 | some J =>
  obtain ⟨jp, h, hr⟩ := h
  exact ⟨h1, hn, jp, (h.add hb hg hlt).sub hs, (h.new hb).2.row hr (by simp)⟩
 | none =>
  obtain ⟨h, hr⟩ := h
  exact ⟨h1, hn, (h.add hb hg hlt).sub hs, (h.new hb).2.row hr (by simp)⟩
theorem Wj.sub {G' : List Nat} (h : Wj w0 w bw p gs v G) (hs : ∀ g ∈ G', g ∈ G) : Wj w0 w bw p gs v G' := by
 obtain ⟨S, j, c⟩ := v
 obtain ⟨h1, h2, h⟩ := h
 have hss : ∀ g ∈ bw :: G', g ∈ bw :: G := by
  intro g hg
  simp only [List.mem_cons] at hg ⊢
  exact hg.imp id (hs g)
 cases j with
 | some J =>
  obtain ⟨jp, h, hr⟩ := h
  exact ⟨h1, fun hn => h2 (hs _ hn), jp, h.sub hss, hr⟩
 | none =>
  obtain ⟨h, hr⟩ := h
  exact ⟨h1, fun hn => h2 (hs _ hn), h.sub hss, hr⟩
theorem Wj.tail {g : Nat} (h : Wj w0 w bw p gs v (g :: G)) : Wj w0 w bw p gs v G := h.sub fun _ hx => List.mem_cons_of_mem _ hx
/-- a block apart is turned -/
theorem Wj.put (h : Wj w0 w bw p gs v G) {g : Nat} (hg : g ∈ G) (h0 : w0.heap.size ≤ g) (hb : w.grownBy w' (some g)) : Wj w0 w' bw p gs v G := by
 have hbl := h.dd.lt bw (by simp)
 obtain ⟨S, j, c⟩ := v
 obtain ⟨h1, h2, h⟩ := h
 have hr0 : ∀ {e : TypeId} {cs : List Value}, Row w bw e cs → Row w' bw e cs := fun hr => (ek_put (G := [bw]) hb (by simpa using hbl) (by simp; rintro rfl; exact h2 hg)).row hr (by simp)
 cases j with
 | some J =>
  obtain ⟨jp, h, hr⟩ := h
  exact ⟨h1, h2, jp, h.put (List.mem_cons_of_mem _ hg) h0 hb, hr0 hr⟩
 | none =>
  obtain ⟨h, hr⟩ := h
  exact ⟨h1, h2, h.put (List.mem_cons_of_mem _ hg) h0 hb, hr0 hr⟩
end
/-- what the laws begin with -/
theorem begin13 : ∃ S S' X, formatJ (Sp.mk0 32) = (S, 0) ∧ openJ S 0 = (S', some ⟨0, X⟩, 0) ∧ S.count = 17 ∧ S'.left = 0 ∧ S'.count = 17 ∧ InvW HereF GoneF ⟨S', some ⟨0, X⟩, 0⟩ ∧ InvW HereC GoneC ⟨S', some ⟨0, X⟩, 0⟩ ∧ InvW (fun S J => HereA S J (fun _ => en0)) (fun S c => GoneA S c (fun _ => en0)) ⟨S', some ⟨0, X⟩, 0⟩ := by
 obtain ⟨S, e, t, z, hc, _⟩ := format_mk0 32 (by decide)
 have ho := open_new t 8 (Nat.le_refl _)
 obtain ⟨S1, S1', X1, e1, o1, i1, _⟩ := begin_f 32 (by decide)
 obtain ⟨S2, S2', X2, e2, o2, i2, _⟩ := begin_clean 32 (by decide)
 obtain ⟨S3, S3', X3, e3, o3, i3, _⟩ := begin_here 32 (by decide)
 rw [e] at e1 e2 e3
 cases e1
 cases e2
 cases e3
 rw [ho] at o1 o2 o3
 cases o1
 cases o2
 cases o3
 exact ⟨S, S, _, e, by unfold openJ; rw [if_neg (by decide), ho]; rfl, hc, z, hc, ⟨rfl, i1⟩, ⟨rfl, i2⟩, ⟨rfl, i3⟩⟩
set_option maxHeartbeats 4000000 in
theorem begin13_any {SF S0 : Sp} {X : List It} (e1 : formatJ (Sp.mk0 32) = (SF, 0)) (e2 : openJ SF 0 = (S0, some ⟨0, X⟩, 0)) (hc : SF.count = 17) (w : World) (hf : Fd w) :
  Calls Tryd.prog 8 #[] w fun e w' => ∃ bw p gs, e = .returned (.pointer (some ⟨bw, 0, none⟩)) ∧ Wj w w' bw p gs ⟨S0, some ⟨0, X⟩, 0⟩ [] := by
 have HN : Hid (Calls Tryd.prog 24 #[.int .i64 32] w fun e w' => ∃ p gs, e = .returned (.tuple #[.pointer (some ⟨p, 0, none⟩), .int .i64 0]) ∧ Dd w w' p gs (Sp.mk0 32) []) := hid ((dk_new 32 w (by decide) (by decide)).mono (by
  rintro e w' ⟨p, gs, k1, k2⟩
  exact ⟨p, gs, k1, Dd.of_dk k2 hf⟩))
 have HF : Hid (∀ W p gs, Dd w W p gs (Sp.mk0 32) [] → Calls Tryd.prog 25 #[.pointer (some ⟨p, 0, none⟩)] W (DC w W p gs SF [] (.int .i64 0))) := hid fun W p gs hW => by
  have := format_any13 hW
  rw [e1] at this
  exact this
 have HO : Hid (∀ W p gs, Dd w W p gs SF [] → Calls Tryd.prog 18 #[.pointer (some ⟨p, 0, none⟩), .int .i64 0] W fun e w' => ∃ jp, e = .returned (.tuple #[.pointer (some ⟨jp, 0, none⟩), .int .i64 0]) ∧ Jd w w' jp p gs S0 ⟨0, X⟩ []) := hid fun W p gs hW => by
  have := openj_any hW 0 (by omega)
  rw [e2] at this
  refine this.mono ?_
  rintro e w' ⟨jp, k1, k2, _⟩
  exact ⟨jp, k1, k2⟩
 clear e1 e2 hc hf
 go_enter Tryd.func8, Tryd.ntmps8
 go_wp2_with (first
  | (go_at_call 24; refine HN.out.mono ?_; rintro e w1 ⟨p, gs, rfl, q1⟩; have H1 := hid q1; clear q1)
  | (go_at_call 25; refine (HF.out _ _ _ H1.out).mono ?_; rintro e w2 ⟨rfl, q2, _⟩; have H2 := hid q2; clear q2)
  | (go_at_call 18; refine (HO.out _ _ _ H2.out).mono ?_; rintro e w3 ⟨jp, rfl, q3⟩; have H3 := hid q3; clear q3))
 go_ret
 obtain ⟨k1, k2⟩ := H3.out.alloc (.cells (wC p (some jp) 0).toArray 37)
 exact ⟨w3.heap.size, p, gs, rfl, H3.out.size, by simp, jp, k1, Row.new w3 37 (wC p (some jp) 0).toArray⟩
/-- an act's cells -/
def actC (x : ActJ) (A : Option Addr) (l cap : Nat) : Array Value := #[.int .i64 x.kind] ++ x.e.cells ++ #[.int .i64 x.n, .int .i64 x.i, .int .i64 x.a, .int .i64 x.m, .slice A l cap]
theorem actSize : (Tryd.prog.info? 32).map (·.size) = some 15 := by kernel_rfl
theorem far_any (x : ActJ) (A : Option Addr) (l cap : Nat) (w : World) : Calls Tryd.prog 9 #[.agg (actC x A l cap)] w fun e w' => e = .returned (.bool (decide (1000 < (x.e.body.size : Int)))) ∧ Below w.heap.size w w' := by
 have HB := hid ((Below.refl w.heap.size w).alloc (Nat.le_refl _) (.cells (actC x A l cap) 32))
 have c9 : (w.alloc (.cells (actC x A l cap) 32)).cell? ⟨w.heap.size, 9, none⟩ = some (.string x.e.body) := (Row.new w 32 (actC x A l cap)).at_ 9 _ rfl
 generalize actC x A l cap = C at *
 go_enter Tryd.func9, Tryd.ntmps9
 go_wp2_with fail
 go_ret
 exact ⟨rfl, HB.out⟩
end Go.Proofs.YtafbeepacncooaaDoor
/-
  The walk of the law's does: its calls of the journal.
-/
namespace Go.Proofs.YtafbeepacncooaaDoor
open Go.RowKit
set_option maxRecDepth 10000

/-- an answer, and the law's world -/
def WC (w0 w : World) (bw p gs : Nat) (v : Wd) (G : List Nat) (y : Int) (e : Ending) (w' : World) : Prop := e = .returned (.int .i64 y) ∧ Wj w0 w' bw p gs v G ∧ Ek w w' G
theorem dd_on {w0 w : World} {p gs : Nat} {S : Sp} {G : List Nat} (h : Dd w0 w p gs S G) : Calls Tryd.prog 32 #[.pointer (some ⟨p, 0, none⟩)] w fun e w' => e = .returned (.bool S.on) ∧ w = w' := by
 obtain ⟨vd, h1, _⟩ := h
 exact on_any p gs vd S w h1
theorem act_ent {W : World} {g : Nat} {x : ActJ} {A : Option Addr} {l cap : Nat} (h : Row W g 32 (actC x A l cap).toList) : W.rangeAt g 1 x.e.cells.toList := fun j v hv => by
 have hj : j < 9 := (List.getElem?_eq_some_iff.1 hv).1
 rw [h.cell]
 have e : (actC x A l cap).toList = .int .i64 x.kind :: (x.e.cells.toList ++ [.int .i64 x.n, .int .i64 x.i, .int .i64 x.a, .int .i64 x.m, .slice A l cap]) := rfl
 rw [e, show 1 + j = j + 1 by omega, List.getElem?_cons_succ, List.getElem?_append_left hj]
 exact hv
theorem dd_fuse {w0 w : World} {p gs : Nat} {S S' : Sp} {G : List Nat} (h : Dd w0 w p gs S G) (n : Int) (hn : n ≤ 9223372036854775807) {x : Int} (hr : S.fuse n = (S', x)) : Calls Tryd.prog 15 #[.pointer (some ⟨p, 0, none⟩), .int .i64 n] w (DC w0 w p gs S' G (.int .i64 x)) :=
 h.call fun _ h1 => dy_fuse h1 n hn hr
theorem dd_cut {w0 w : World} {p gs : Nat} {S S' : Sp} {G : List Nat} (h : Dd w0 w p gs S G) {x : Int} (hr : S.cut = (S', x)) : Calls Tryd.prog 29 #[.pointer (some ⟨p, 0, none⟩)] w (DC w0 w p gs S' G (.int .i64 x)) :=
 h.call fun _ h1 => dy_cut h1 hr
theorem dd_rot {w0 w : World} {p gs : Nat} {S S' : Sp} {G : List Nat} (h : Dd w0 w p gs S G) (hc : S.count ≤ 1048576) (i a m : Int) {x : Int} (hr : S.rot i a m = (S', x)) : Calls Tryd.prog 31 #[.pointer (some ⟨p, 0, none⟩), .int .i64 i, .int .i64 a, .int .i64 m] w (DC w0 w p gs S' G (.int .i64 x)) :=
 h.call fun _ h1 => dy_rot h1 hc i a m hr
theorem dd_start {w0 w : World} {p gs : Nat} {S S' : Sp} {G : List Nat} (h : Dd w0 w p gs S G) (hc : S.count ≤ 1048576) (picks : List Int) (A : Option Addr) (l c : Nat) (hl : l = picks.length) (hrd : Rd w0 w0.heap.size A (ints picks)) (hp : ∀ x ∈ picks, x ≤ 9223372036854775807) (hpn : picks.length ≤ 9223372036854775807) {x : Int} (hr : S.start picks = (S', x)) :
  Calls Tryd.prog 30 #[.pointer (some ⟨p, 0, none⟩), .slice A l c] w (DC w0 w p gs S' G (.int .i64 x)) := by
 have hb := h.below
 have hgs : w0.heap.size ≤ gs := by
  obtain ⟨vd, _, h2, _⟩ := h
  exact (h2 gs (by simp [fpD])).1
 have hrd2 : Rd w w0.heap.size A (ints picks) := fun hne => by
  obtain ⟨g0, o0, e0, hg0, hc0⟩ := hrd hne
  exact ⟨g0, o0, e0, hg0, fun j u hu => (World.cell?_of_block (w := w0) (a := ⟨g0, o0 + j, none⟩) (hb.block g0 hg0)).trans (hc0 j u hu)⟩
 refine h.call fun _ h1 => dy_start h1 hc picks A l c w0.heap.size hl hrd2 hp hpn (fun hne g o e => ?_) hr
 have hne2 : ints picks ≠ [] := by
  intro q
  apply hne
  cases picks with
  | nil => rfl
  | cons y ys => simp [ints] at q
 obtain ⟨g0, o0, e0, hg0, _⟩ := hrd hne2
 rw [e0] at e
 cases e
 omega
set_option maxHeartbeats 4000000 in
theorem does_1on {w0 w : World} {bw p gs : Nat} {S : Sp} {J : Jn} {c : Int} {G : List Nat} (h : Wj w0 w bw p gs ⟨S, some J, c⟩ G) (x : ActJ) (A : Option Addr) (l cap : Nat) (S2 : Sp) (J2 : Jn) (y : Int) (hon : S2.on = true) (hk : x.kind = 1) (HC : Hid (∀ W jp (X : List Nat), Jd w0 W jp p gs S J X → Calls Tryd.prog 19 #[.pointer (some ⟨jp, 0, none⟩), .agg x.e.cells] W (JC w0 W jp p gs S2 J2 X (.int .i64 y)))) (_hc : S.count ≤ 800000) :
  Calls Tryd.prog 11 #[.pointer (some ⟨bw, 0, none⟩), .agg (actC x A l cap)] w (WC w0 w bw p gs ⟨S2, some J2, J2.c⟩ G y) := by
 obtain ⟨hbw0, hbwG, h⟩ := h
 obtain ⟨jp, h, hrow⟩ := h
 have HRA : Hid (Row (w.alloc (.cells (actC x A l cap) 32)) w.heap.size 32 (actC x A l cap).toList) := hid (Row.new _ _ _)
 have HJ : Hid (Jd w0 (w.alloc (.cells (actC x A l cap) 32)) jp p gs S J (w.heap.size :: bw :: G)) := hid (h.alloc _).1
 have HK : Hid (Ek w (w.alloc (.cells (actC x A l cap) 32)) (bw :: G)) := hid (h.alloc _).2
 have HRB : Hid (Row (w.alloc (.cells (actC x A l cap) 32)) bw 37 (wC p (some jp) c)) := hid (HK.out.row hrow (by simp))
 have ca0 : (w.alloc (.cells (actC x A l cap) 32)).cell? ⟨w.heap.size, 0, none⟩ = some (.int .i64 x.kind) := HRA.out.at_ 0 _ rfl
 have cb0 : (w.alloc (.cells (actC x A l cap) 32)).cell? ⟨bw, 0, none⟩ = some (.pointer (some ⟨p, 0, none⟩)) := HRB.out.at_ 0 _ rfl
 have cb1 : (w.alloc (.cells (actC x A l cap) 32)).cell? ⟨bw, 1, none⟩ = some (.pointer (some ⟨jp, 0, none⟩)) := HRB.out.at_ 1 _ rfl
 have HBW := hid hbw0
 have HBG := hid hbwG
 have HNE : Hid (w.heap.size ≠ bw) := hid (by have := hrow.lt; omega)
 rw [hk] at ca0
 have HSUB : Hid (∀ g ∈ bw :: G, g ∈ jp :: w.heap.size :: bw :: G) := hid (by intro g hg; simp only [List.mem_cons] at hg ⊢; exact .inr (.inr hg))
 have HON : Hid (∀ W (X : List Nat), Dd w0 W p gs S2 X → Calls Tryd.prog 32 #[.pointer (some ⟨p, 0, none⟩)] W fun e w' => e = .returned (.bool true) ∧ W = w') := hid fun W X hW => by
  have := dd_on hW
  rw [hon] at this
  exact this
 clear h hrow hbw0 hbwG hk _hc hon
 go_enter Tryd.func11, Tryd.ntmps11
 go_wp2_with fail
 refine name_wp (fun w1 hw1 => ?_)
 have H1 : Hid (Jd w0 w1 jp p gs S J (w.heap.size :: bw :: G)) := hid (by rw [hw1]; exact HJ.out)
 have E1 : Hid (Ek w w1 (bw :: G)) := hid (by rw [hw1]; exact HK.out)
 have A1 : Hid (Row w1 w.heap.size 32 (actC x A l cap).toList) := hid (by rw [hw1]; exact HRA.out)
 have B1 : Hid (Row w1 bw 37 (wC p (some jp) c)) := hid (by rw [hw1]; exact HRB.out)
 clear hw1 ca0 cb0 cb1
 try simp only [Act.put, U1,U2,U3,U4,U5,U6]
 refine wp_region_held_drew (S := fun W => (∃ S J, Jd w0 W jp p gs S J (w.heap.size :: bw :: G)) ∧ Ek w1 W (w.heap.size :: bw :: G)) (by kernel_rfl) (⟨⟨_, _, H1.out.drew⟩, fun _ _ => rfl⟩) (fun hH => ?_)
 refine tk_ (i := 0) (v := .pointer (some ⟨bw, 0, none⟩)) rfl (Or.inl ⟨by kernel_rfl, fun w' _ => by kernel_rfl⟩) hH ?_
 simp only [Act.put, U1, U3, U4, U5, U6]
 refine tk_ (i := 1) (v := .pointer (some ⟨bw, 0, none⟩)) rfl (Or.inl ⟨by rfl, fun w' hw' => by clear hw'; go_simp⟩) hH ?_
 simp only [Act.put, U1,U2,U3,U4,U5,U6]
 refine tk_ (i := 2) (v := .pointer (some ⟨bw, 1, none⟩)) rfl (Or.inl ⟨by rfl, fun w' hw' => by clear hw'; go_simp⟩) hH ?_
 simp only [Act.put, U1,U2,U3,U4,U5,U6]
 refine tk_ (i := 3) (v := .pointer (some ⟨jp, 0, none⟩)) rfl (Or.inl ⟨by rfl, fun w' hw' => by have h := (hw'.2.row B1.out (by simp)).at_ 1 (.pointer (some ⟨jp, 0, none⟩)) rfl; go_simp⟩) hH ?_
 simp only [Act.put, U1,U2,U3,U4,U5,U6]
 refine tk_ (i := 4) (v := .pointer (some ⟨w.heap.size, 1, none⟩)) rfl (Or.inl ⟨by rfl, fun w' hw' => by clear hw'; go_simp⟩) hH ?_
 simp only [Act.put, U1,U2,U3,U4,U5,U6]
 refine tk_ (i := 5) (v := .agg x.e.cells) rfl ?_ hH ?_
 ·
  refine yieldsIf_load_mid ?_ 28 (.tmp 26) ?_ w.heap.size 1 ?_ x.e.cells.toList _ (fun W hW => act_ent (hW.2.row A1.out (by simp))) Tryd.underlying28 rfl (by exact esize)
  all_goals kernel_rfl
 simp only [Act.put, U1,U2,U3,U4,U5,U6]
 refine wpAnyH_ready (rs := [6]) (by kernel_rfl) (by simp) ?_
 refine AllReadyH.cons rfl (fun K hK => ?_) AllReadyH.nil
 go_simp
 go_at_call 19
 refine (HC.out _ _ _ H1.out.drew).mono ?_
 rintro e w2 ⟨rfl, h2, k2⟩
 go_wp2_with fail
 refine hK.out _ _ (⟨⟨_, _, h2⟩, hH.2.trans k2⟩) (fun hH => ?_)
 clear hK K
 try simp only [Act.put, U1,U2,U3,U4,U5,U6]
 refine tk_ (i := 7) (v := .int .i64 y) rfl (Or.inl ⟨by kernel_rfl, fun w' _ => by kernel_rfl⟩) hH ?_
 simp only [Act.put, U1,U2,U3,U4,U5,U6]
 refine wpAnyH_done (by kernel_rfl) ?_ _
 try simp only [Act.put, U1,U2,U3,U4,U5,U6]
 have H2 := hid h2
 have K2 : Hid (Ek w1 w2 (w.heap.size :: bw :: G)) := hid hH.2
 have E2 := hid (E1.out.trans K2.out.tail)
 have B2 := hid (K2.out.row B1.out (by simp))
 have cb0 : w2.cell? ⟨bw, 0, none⟩ = some (.pointer (some ⟨p, 0, none⟩)) := B2.out.at_ 0 _ rfl
 have cb1 : w2.cell? ⟨bw, 1, none⟩ = some (.pointer (some ⟨jp, 0, none⟩)) := B2.out.at_ 1 _ rfl
 clear hH
 go_wp2_with (first
  | (go_at_call 22; refine (check_any H2.out).mono ?_; rintro e w9 ⟨rfl, hw9⟩; subst hw9)
  | ((with_reducible show wpList _ _ _ ({ dst := none, op := .store _ (.tmp 135) _, type := _, pos := _, after := _, guard := _ } :: _) _ _); refine wpl_store_c rfl 3 (.tmp 135) (.tmp 133) rfl bw 2 (.int .i64 J2.c) rfl rfl B2.out (by kernel_rfl) ?_ (hid (by show 2 < 3; decide)) (hid rfl); intro w10 hr hg; have H10 := hid (H2.out.put (g := bw) (by simp) HBW.out hg); have E10 := hid (E2.out.tail.trans (ek_put hg (fun g hg => H2.out.lt g (by simp [hg])) HBG.out)); have B10 : Hid (Row w10 bw 37 (wC p (some jp) J2.c)) := hid hr; have cb0 : w10.cell? ⟨bw, 0, none⟩ = some (.pointer (some ⟨p, 0, none⟩)) := B10.out.at_ 0 _ rfl; clear hr hg)
  | (go_at_call 32; refine (HON.out _ _ H10.out.1).mono ?_; rintro e w11 ⟨rfl, hw11⟩; subst hw11))
 go_ret
 exact ⟨rfl, ⟨HBW.out, HBG.out, jp, H10.out.tail, B10.out⟩, E10.out⟩
set_option maxHeartbeats 4000000 in
theorem does_1off {w0 w : World} {bw p gs : Nat} {S : Sp} {J : Jn} {c : Int} {G : List Nat} (h : Wj w0 w bw p gs ⟨S, some J, c⟩ G) (x : ActJ) (A : Option Addr) (l cap : Nat) (S2 : Sp) (J2 : Jn) (y : Int) (hon : S2.on = false) (hk : x.kind = 1) (HC : Hid (∀ W jp (X : List Nat), Jd w0 W jp p gs S J X → Calls Tryd.prog 19 #[.pointer (some ⟨jp, 0, none⟩), .agg x.e.cells] W (JC w0 W jp p gs S2 J2 X (.int .i64 y)))) (_hc : S.count ≤ 800000) :
  Calls Tryd.prog 11 #[.pointer (some ⟨bw, 0, none⟩), .agg (actC x A l cap)] w (WC w0 w bw p gs ⟨S2, none, J2.c⟩ G y) := by
 obtain ⟨hbw0, hbwG, h⟩ := h
 obtain ⟨jp, h, hrow⟩ := h
 have HRA : Hid (Row (w.alloc (.cells (actC x A l cap) 32)) w.heap.size 32 (actC x A l cap).toList) := hid (Row.new _ _ _)
 have HJ : Hid (Jd w0 (w.alloc (.cells (actC x A l cap) 32)) jp p gs S J (w.heap.size :: bw :: G)) := hid (h.alloc _).1
 have HK : Hid (Ek w (w.alloc (.cells (actC x A l cap) 32)) (bw :: G)) := hid (h.alloc _).2
 have HRB : Hid (Row (w.alloc (.cells (actC x A l cap) 32)) bw 37 (wC p (some jp) c)) := hid (HK.out.row hrow (by simp))
 have ca0 : (w.alloc (.cells (actC x A l cap) 32)).cell? ⟨w.heap.size, 0, none⟩ = some (.int .i64 x.kind) := HRA.out.at_ 0 _ rfl
 have cb0 : (w.alloc (.cells (actC x A l cap) 32)).cell? ⟨bw, 0, none⟩ = some (.pointer (some ⟨p, 0, none⟩)) := HRB.out.at_ 0 _ rfl
 have cb1 : (w.alloc (.cells (actC x A l cap) 32)).cell? ⟨bw, 1, none⟩ = some (.pointer (some ⟨jp, 0, none⟩)) := HRB.out.at_ 1 _ rfl
 have HBW := hid hbw0
 have HBG := hid hbwG
 have HNE : Hid (w.heap.size ≠ bw) := hid (by have := hrow.lt; omega)
 rw [hk] at ca0
 have HSUB : Hid (∀ g ∈ bw :: G, g ∈ jp :: w.heap.size :: bw :: G) := hid (by intro g hg; simp only [List.mem_cons] at hg ⊢; exact .inr (.inr hg))
 have HON : Hid (∀ W (X : List Nat), Dd w0 W p gs S2 X → Calls Tryd.prog 32 #[.pointer (some ⟨p, 0, none⟩)] W fun e w' => e = .returned (.bool false) ∧ W = w') := hid fun W X hW => by
  have := dd_on hW
  rw [hon] at this
  exact this
 clear h hrow hbw0 hbwG hk _hc hon
 go_enter Tryd.func11, Tryd.ntmps11
 go_wp2_with fail
 refine name_wp (fun w1 hw1 => ?_)
 have H1 : Hid (Jd w0 w1 jp p gs S J (w.heap.size :: bw :: G)) := hid (by rw [hw1]; exact HJ.out)
 have E1 : Hid (Ek w w1 (bw :: G)) := hid (by rw [hw1]; exact HK.out)
 have A1 : Hid (Row w1 w.heap.size 32 (actC x A l cap).toList) := hid (by rw [hw1]; exact HRA.out)
 have B1 : Hid (Row w1 bw 37 (wC p (some jp) c)) := hid (by rw [hw1]; exact HRB.out)
 clear hw1 ca0 cb0 cb1
 try simp only [Act.put, U1,U2,U3,U4,U5,U6]
 refine wp_region_held_drew (S := fun W => (∃ S J, Jd w0 W jp p gs S J (w.heap.size :: bw :: G)) ∧ Ek w1 W (w.heap.size :: bw :: G)) (by kernel_rfl) (⟨⟨_, _, H1.out.drew⟩, fun _ _ => rfl⟩) (fun hH => ?_)
 refine tk_ (i := 0) (v := .pointer (some ⟨bw, 0, none⟩)) rfl (Or.inl ⟨by kernel_rfl, fun w' _ => by kernel_rfl⟩) hH ?_
 simp only [Act.put, U1, U3, U4, U5, U6]
 refine tk_ (i := 1) (v := .pointer (some ⟨bw, 0, none⟩)) rfl (Or.inl ⟨by rfl, fun w' hw' => by clear hw'; go_simp⟩) hH ?_
 simp only [Act.put, U1,U2,U3,U4,U5,U6]
 refine tk_ (i := 2) (v := .pointer (some ⟨bw, 1, none⟩)) rfl (Or.inl ⟨by rfl, fun w' hw' => by clear hw'; go_simp⟩) hH ?_
 simp only [Act.put, U1,U2,U3,U4,U5,U6]
 refine tk_ (i := 3) (v := .pointer (some ⟨jp, 0, none⟩)) rfl (Or.inl ⟨by rfl, fun w' hw' => by have h := (hw'.2.row B1.out (by simp)).at_ 1 (.pointer (some ⟨jp, 0, none⟩)) rfl; go_simp⟩) hH ?_
 simp only [Act.put, U1,U2,U3,U4,U5,U6]
 refine tk_ (i := 4) (v := .pointer (some ⟨w.heap.size, 1, none⟩)) rfl (Or.inl ⟨by rfl, fun w' hw' => by clear hw'; go_simp⟩) hH ?_
 simp only [Act.put, U1,U2,U3,U4,U5,U6]
 refine tk_ (i := 5) (v := .agg x.e.cells) rfl ?_ hH ?_
 ·
  refine yieldsIf_load_mid ?_ 28 (.tmp 26) ?_ w.heap.size 1 ?_ x.e.cells.toList _ (fun W hW => act_ent (hW.2.row A1.out (by simp))) Tryd.underlying28 rfl (by exact esize)
  all_goals kernel_rfl
 simp only [Act.put, U1,U2,U3,U4,U5,U6]
 refine wpAnyH_ready (rs := [6]) (by kernel_rfl) (by simp) ?_
 refine AllReadyH.cons rfl (fun K hK => ?_) AllReadyH.nil
 go_simp
 go_at_call 19
 refine (HC.out _ _ _ H1.out.drew).mono ?_
 rintro e w2 ⟨rfl, h2, k2⟩
 go_wp2_with fail
 refine hK.out _ _ (⟨⟨_, _, h2⟩, hH.2.trans k2⟩) (fun hH => ?_)
 clear hK K
 try simp only [Act.put, U1,U2,U3,U4,U5,U6]
 refine tk_ (i := 7) (v := .int .i64 y) rfl (Or.inl ⟨by kernel_rfl, fun w' _ => by kernel_rfl⟩) hH ?_
 simp only [Act.put, U1,U2,U3,U4,U5,U6]
 refine wpAnyH_done (by kernel_rfl) ?_ _
 try simp only [Act.put, U1,U2,U3,U4,U5,U6]
 have H2 := hid h2
 have K2 : Hid (Ek w1 w2 (w.heap.size :: bw :: G)) := hid hH.2
 have E2 := hid (E1.out.trans K2.out.tail)
 have B2 := hid (K2.out.row B1.out (by simp))
 have cb0 : w2.cell? ⟨bw, 0, none⟩ = some (.pointer (some ⟨p, 0, none⟩)) := B2.out.at_ 0 _ rfl
 have cb1 : w2.cell? ⟨bw, 1, none⟩ = some (.pointer (some ⟨jp, 0, none⟩)) := B2.out.at_ 1 _ rfl
 clear hH
 go_wp2_with (first
  | (go_at_call 22; refine (check_any H2.out).mono ?_; rintro e w9 ⟨rfl, hw9⟩; subst hw9)
  | ((with_reducible show wpList _ _ _ ({ dst := none, op := .store _ (.tmp 135) _, type := _, pos := _, after := _, guard := _ } :: _) _ _); refine wpl_store_c rfl 3 (.tmp 135) (.tmp 133) rfl bw 2 (.int .i64 J2.c) rfl rfl B2.out (by kernel_rfl) ?_ (hid (by show 2 < 3; decide)) (hid rfl); intro w10 hr hg; have H10 := hid (H2.out.put (g := bw) (by simp) HBW.out hg); have E10 := hid (E2.out.tail.trans (ek_put hg (fun g hg => H2.out.lt g (by simp [hg])) HBG.out)); have B10 : Hid (Row w10 bw 37 (wC p (some jp) J2.c)) := hid hr; have cb0 : w10.cell? ⟨bw, 0, none⟩ = some (.pointer (some ⟨p, 0, none⟩)) := B10.out.at_ 0 _ rfl; clear hr hg)
  | (go_at_call 32; refine (HON.out _ _ H10.out.1).mono ?_; rintro e w11 ⟨rfl, hw11⟩; subst hw11)
  | ((with_reducible show wpList _ _ _ ({ dst := none, op := .store _ (.tmp 144) _, type := _, pos := _, after := _, guard := _ } :: _) _ _); refine wpl_store_c rfl 35 (.tmp 144) (.const (.pointer none)) rfl bw 1 (.pointer none) rfl rfl B10.out (by kernel_rfl) ?_ (hid (by show 1 < 3; decide)) (hid rfl); intro w12 hr hg; have H12 := hid (H10.out.put (g := bw) (by simp) HBW.out hg); have E12 := hid (E10.out.trans (ek_put hg (fun g hg => H10.out.lt g (by simp [hg])) HBG.out)); have B12 : Hid (Row w12 bw 37 (wC p none J2.c)) := hid hr; clear hr hg))
 go_ret
 exact ⟨rfl, ⟨HBW.out, HBG.out, H12.out.1.sub HSUB.out, B12.out⟩, E12.out⟩
set_option maxHeartbeats 4000000 in
theorem does_2on {w0 w : World} {bw p gs : Nat} {S : Sp} {J : Jn} {c : Int} {G : List Nat} (h : Wj w0 w bw p gs ⟨S, some J, c⟩ G) (x : ActJ) (A : Option Addr) (l cap : Nat) (S2 : Sp) (J2 : Jn) (y : Int) (hon : S2.on = true) (hk : x.kind = 2) (HC : Hid (∀ W jp (X : List Nat), Jd w0 W jp p gs S J X → Calls Tryd.prog 20 #[.pointer (some ⟨jp, 0, none⟩), .int .i64 x.n] W (JC w0 W jp p gs S2 J2 X (.int .i64 y)))) (_hc : S.count ≤ 800000) :
  Calls Tryd.prog 11 #[.pointer (some ⟨bw, 0, none⟩), .agg (actC x A l cap)] w (WC w0 w bw p gs ⟨S2, some J2, J2.c⟩ G y) := by
 obtain ⟨hbw0, hbwG, h⟩ := h
 obtain ⟨jp, h, hrow⟩ := h
 have HRA : Hid (Row (w.alloc (.cells (actC x A l cap) 32)) w.heap.size 32 (actC x A l cap).toList) := hid (Row.new _ _ _)
 have HJ : Hid (Jd w0 (w.alloc (.cells (actC x A l cap) 32)) jp p gs S J (w.heap.size :: bw :: G)) := hid (h.alloc _).1
 have HK : Hid (Ek w (w.alloc (.cells (actC x A l cap) 32)) (bw :: G)) := hid (h.alloc _).2
 have HRB : Hid (Row (w.alloc (.cells (actC x A l cap) 32)) bw 37 (wC p (some jp) c)) := hid (HK.out.row hrow (by simp))
 have ca0 : (w.alloc (.cells (actC x A l cap) 32)).cell? ⟨w.heap.size, 0, none⟩ = some (.int .i64 x.kind) := HRA.out.at_ 0 _ rfl
 have cb0 : (w.alloc (.cells (actC x A l cap) 32)).cell? ⟨bw, 0, none⟩ = some (.pointer (some ⟨p, 0, none⟩)) := HRB.out.at_ 0 _ rfl
 have cb1 : (w.alloc (.cells (actC x A l cap) 32)).cell? ⟨bw, 1, none⟩ = some (.pointer (some ⟨jp, 0, none⟩)) := HRB.out.at_ 1 _ rfl
 have HBW := hid hbw0
 have HBG := hid hbwG
 have HNE : Hid (w.heap.size ≠ bw) := hid (by have := hrow.lt; omega)
 rw [hk] at ca0
 have HSUB : Hid (∀ g ∈ bw :: G, g ∈ jp :: w.heap.size :: bw :: G) := hid (by intro g hg; simp only [List.mem_cons] at hg ⊢; exact .inr (.inr hg))
 have HON : Hid (∀ W (X : List Nat), Dd w0 W p gs S2 X → Calls Tryd.prog 32 #[.pointer (some ⟨p, 0, none⟩)] W fun e w' => e = .returned (.bool true) ∧ W = w') := hid fun W X hW => by
  have := dd_on hW
  rw [hon] at this
  exact this
 clear h hrow hbw0 hbwG hk _hc hon
 go_enter Tryd.func11, Tryd.ntmps11
 go_wp2_with fail
 refine name_wp (fun w1 hw1 => ?_)
 have H1 : Hid (Jd w0 w1 jp p gs S J (w.heap.size :: bw :: G)) := hid (by rw [hw1]; exact HJ.out)
 have E1 : Hid (Ek w w1 (bw :: G)) := hid (by rw [hw1]; exact HK.out)
 have A1 : Hid (Row w1 w.heap.size 32 (actC x A l cap).toList) := hid (by rw [hw1]; exact HRA.out)
 have B1 : Hid (Row w1 bw 37 (wC p (some jp) c)) := hid (by rw [hw1]; exact HRB.out)
 clear hw1 ca0 cb0 cb1
 try simp only [Act.put, U1,U2,U3,U4,U5,U6]
 refine wp_region_held_drew (S := fun W => (∃ S J, Jd w0 W jp p gs S J (w.heap.size :: bw :: G)) ∧ Ek w1 W (w.heap.size :: bw :: G)) (by kernel_rfl) (⟨⟨_, _, H1.out.drew⟩, fun _ _ => rfl⟩) (fun hH => ?_)
 refine tk_ (i := 0) (v := .pointer (some ⟨bw, 0, none⟩)) rfl (Or.inl ⟨by kernel_rfl, fun w' _ => by kernel_rfl⟩) hH ?_
 simp only [Act.put, U1, U3, U4, U5, U6]
 refine tk_ (i := 1) (v := .pointer (some ⟨bw, 0, none⟩)) rfl (Or.inl ⟨by rfl, fun w' hw' => by clear hw'; go_simp⟩) hH ?_
 simp only [Act.put, U1,U2,U3,U4,U5,U6]
 refine tk_ (i := 2) (v := .pointer (some ⟨bw, 1, none⟩)) rfl (Or.inl ⟨by rfl, fun w' hw' => by clear hw'; go_simp⟩) hH ?_
 simp only [Act.put, U1,U2,U3,U4,U5,U6]
 refine tk_ (i := 3) (v := .pointer (some ⟨jp, 0, none⟩)) rfl (Or.inl ⟨by rfl, fun w' hw' => by have h := (hw'.2.row B1.out (by simp)).at_ 1 (.pointer (some ⟨jp, 0, none⟩)) rfl; go_simp⟩) hH ?_
 simp only [Act.put, U1,U2,U3,U4,U5,U6]
 refine tk_ (i := 4) (v := .pointer (some ⟨w.heap.size, 10, none⟩)) rfl (Or.inl ⟨by rfl, fun w' hw' => by clear hw'; go_simp⟩) hH ?_
 simp only [Act.put, U1,U2,U3,U4,U5,U6]
 refine tk_ (i := 5) (v := .int .i64 x.n) rfl (Or.inl ⟨by rfl, fun w' hw' => by have h := (hw'.2.row A1.out (by simp)).at_ 10 (.int .i64 x.n) rfl; go_simp⟩) hH ?_
 simp only [Act.put, U1,U2,U3,U4,U5,U6]
 refine wpAnyH_ready (rs := [6]) (by kernel_rfl) (by simp) ?_
 refine AllReadyH.cons rfl (fun K hK => ?_) AllReadyH.nil
 go_simp
 go_at_call 20
 refine (HC.out _ _ _ H1.out.drew).mono ?_
 rintro e w2 ⟨rfl, h2, k2⟩
 go_wp2_with fail
 refine hK.out _ _ (⟨⟨_, _, h2⟩, hH.2.trans k2⟩) (fun hH => ?_)
 clear hK K
 try simp only [Act.put, U1,U2,U3,U4,U5,U6]
 refine tk_ (i := 7) (v := .int .i64 y) rfl (Or.inl ⟨by kernel_rfl, fun w' _ => by kernel_rfl⟩) hH ?_
 simp only [Act.put, U1,U2,U3,U4,U5,U6]
 refine wpAnyH_done (by kernel_rfl) ?_ _
 try simp only [Act.put, U1,U2,U3,U4,U5,U6]
 have H2 := hid h2
 have K2 : Hid (Ek w1 w2 (w.heap.size :: bw :: G)) := hid hH.2
 have E2 := hid (E1.out.trans K2.out.tail)
 have B2 := hid (K2.out.row B1.out (by simp))
 have cb0 : w2.cell? ⟨bw, 0, none⟩ = some (.pointer (some ⟨p, 0, none⟩)) := B2.out.at_ 0 _ rfl
 have cb1 : w2.cell? ⟨bw, 1, none⟩ = some (.pointer (some ⟨jp, 0, none⟩)) := B2.out.at_ 1 _ rfl
 clear hH
 go_wp2_with (first
  | (go_at_call 22; refine (check_any H2.out).mono ?_; rintro e w9 ⟨rfl, hw9⟩; subst hw9)
  | ((with_reducible show wpList _ _ _ ({ dst := none, op := .store _ (.tmp 135) _, type := _, pos := _, after := _, guard := _ } :: _) _ _); refine wpl_store_c rfl 3 (.tmp 135) (.tmp 133) rfl bw 2 (.int .i64 J2.c) rfl rfl B2.out (by kernel_rfl) ?_ (hid (by show 2 < 3; decide)) (hid rfl); intro w10 hr hg; have H10 := hid (H2.out.put (g := bw) (by simp) HBW.out hg); have E10 := hid (E2.out.tail.trans (ek_put hg (fun g hg => H2.out.lt g (by simp [hg])) HBG.out)); have B10 : Hid (Row w10 bw 37 (wC p (some jp) J2.c)) := hid hr; have cb0 : w10.cell? ⟨bw, 0, none⟩ = some (.pointer (some ⟨p, 0, none⟩)) := B10.out.at_ 0 _ rfl; clear hr hg)
  | (go_at_call 32; refine (HON.out _ _ H10.out.1).mono ?_; rintro e w11 ⟨rfl, hw11⟩; subst hw11))
 go_ret
 exact ⟨rfl, ⟨HBW.out, HBG.out, jp, H10.out.tail, B10.out⟩, E10.out⟩
set_option maxHeartbeats 4000000 in
theorem does_2off {w0 w : World} {bw p gs : Nat} {S : Sp} {J : Jn} {c : Int} {G : List Nat} (h : Wj w0 w bw p gs ⟨S, some J, c⟩ G) (x : ActJ) (A : Option Addr) (l cap : Nat) (S2 : Sp) (J2 : Jn) (y : Int) (hon : S2.on = false) (hk : x.kind = 2) (HC : Hid (∀ W jp (X : List Nat), Jd w0 W jp p gs S J X → Calls Tryd.prog 20 #[.pointer (some ⟨jp, 0, none⟩), .int .i64 x.n] W (JC w0 W jp p gs S2 J2 X (.int .i64 y)))) (_hc : S.count ≤ 800000) :
  Calls Tryd.prog 11 #[.pointer (some ⟨bw, 0, none⟩), .agg (actC x A l cap)] w (WC w0 w bw p gs ⟨S2, none, J2.c⟩ G y) := by
 obtain ⟨hbw0, hbwG, h⟩ := h
 obtain ⟨jp, h, hrow⟩ := h
 have HRA : Hid (Row (w.alloc (.cells (actC x A l cap) 32)) w.heap.size 32 (actC x A l cap).toList) := hid (Row.new _ _ _)
 have HJ : Hid (Jd w0 (w.alloc (.cells (actC x A l cap) 32)) jp p gs S J (w.heap.size :: bw :: G)) := hid (h.alloc _).1
 have HK : Hid (Ek w (w.alloc (.cells (actC x A l cap) 32)) (bw :: G)) := hid (h.alloc _).2
 have HRB : Hid (Row (w.alloc (.cells (actC x A l cap) 32)) bw 37 (wC p (some jp) c)) := hid (HK.out.row hrow (by simp))
 have ca0 : (w.alloc (.cells (actC x A l cap) 32)).cell? ⟨w.heap.size, 0, none⟩ = some (.int .i64 x.kind) := HRA.out.at_ 0 _ rfl
 have cb0 : (w.alloc (.cells (actC x A l cap) 32)).cell? ⟨bw, 0, none⟩ = some (.pointer (some ⟨p, 0, none⟩)) := HRB.out.at_ 0 _ rfl
 have cb1 : (w.alloc (.cells (actC x A l cap) 32)).cell? ⟨bw, 1, none⟩ = some (.pointer (some ⟨jp, 0, none⟩)) := HRB.out.at_ 1 _ rfl
 have HBW := hid hbw0
 have HBG := hid hbwG
 have HNE : Hid (w.heap.size ≠ bw) := hid (by have := hrow.lt; omega)
 rw [hk] at ca0
 have HSUB : Hid (∀ g ∈ bw :: G, g ∈ jp :: w.heap.size :: bw :: G) := hid (by intro g hg; simp only [List.mem_cons] at hg ⊢; exact .inr (.inr hg))
 have HON : Hid (∀ W (X : List Nat), Dd w0 W p gs S2 X → Calls Tryd.prog 32 #[.pointer (some ⟨p, 0, none⟩)] W fun e w' => e = .returned (.bool false) ∧ W = w') := hid fun W X hW => by
  have := dd_on hW
  rw [hon] at this
  exact this
 clear h hrow hbw0 hbwG hk _hc hon
 go_enter Tryd.func11, Tryd.ntmps11
 go_wp2_with fail
 refine name_wp (fun w1 hw1 => ?_)
 have H1 : Hid (Jd w0 w1 jp p gs S J (w.heap.size :: bw :: G)) := hid (by rw [hw1]; exact HJ.out)
 have E1 : Hid (Ek w w1 (bw :: G)) := hid (by rw [hw1]; exact HK.out)
 have A1 : Hid (Row w1 w.heap.size 32 (actC x A l cap).toList) := hid (by rw [hw1]; exact HRA.out)
 have B1 : Hid (Row w1 bw 37 (wC p (some jp) c)) := hid (by rw [hw1]; exact HRB.out)
 clear hw1 ca0 cb0 cb1
 try simp only [Act.put, U1,U2,U3,U4,U5,U6]
 refine wp_region_held_drew (S := fun W => (∃ S J, Jd w0 W jp p gs S J (w.heap.size :: bw :: G)) ∧ Ek w1 W (w.heap.size :: bw :: G)) (by kernel_rfl) (⟨⟨_, _, H1.out.drew⟩, fun _ _ => rfl⟩) (fun hH => ?_)
 refine tk_ (i := 0) (v := .pointer (some ⟨bw, 0, none⟩)) rfl (Or.inl ⟨by kernel_rfl, fun w' _ => by kernel_rfl⟩) hH ?_
 simp only [Act.put, U1, U3, U4, U5, U6]
 refine tk_ (i := 1) (v := .pointer (some ⟨bw, 0, none⟩)) rfl (Or.inl ⟨by rfl, fun w' hw' => by clear hw'; go_simp⟩) hH ?_
 simp only [Act.put, U1,U2,U3,U4,U5,U6]
 refine tk_ (i := 2) (v := .pointer (some ⟨bw, 1, none⟩)) rfl (Or.inl ⟨by rfl, fun w' hw' => by clear hw'; go_simp⟩) hH ?_
 simp only [Act.put, U1,U2,U3,U4,U5,U6]
 refine tk_ (i := 3) (v := .pointer (some ⟨jp, 0, none⟩)) rfl (Or.inl ⟨by rfl, fun w' hw' => by have h := (hw'.2.row B1.out (by simp)).at_ 1 (.pointer (some ⟨jp, 0, none⟩)) rfl; go_simp⟩) hH ?_
 simp only [Act.put, U1,U2,U3,U4,U5,U6]
 refine tk_ (i := 4) (v := .pointer (some ⟨w.heap.size, 10, none⟩)) rfl (Or.inl ⟨by rfl, fun w' hw' => by clear hw'; go_simp⟩) hH ?_
 simp only [Act.put, U1,U2,U3,U4,U5,U6]
 refine tk_ (i := 5) (v := .int .i64 x.n) rfl (Or.inl ⟨by rfl, fun w' hw' => by have h := (hw'.2.row A1.out (by simp)).at_ 10 (.int .i64 x.n) rfl; go_simp⟩) hH ?_
 simp only [Act.put, U1,U2,U3,U4,U5,U6]
 refine wpAnyH_ready (rs := [6]) (by kernel_rfl) (by simp) ?_
 refine AllReadyH.cons rfl (fun K hK => ?_) AllReadyH.nil
 go_simp
 go_at_call 20
 refine (HC.out _ _ _ H1.out.drew).mono ?_
 rintro e w2 ⟨rfl, h2, k2⟩
 go_wp2_with fail
 refine hK.out _ _ (⟨⟨_, _, h2⟩, hH.2.trans k2⟩) (fun hH => ?_)
 clear hK K
 try simp only [Act.put, U1,U2,U3,U4,U5,U6]
 refine tk_ (i := 7) (v := .int .i64 y) rfl (Or.inl ⟨by kernel_rfl, fun w' _ => by kernel_rfl⟩) hH ?_
 simp only [Act.put, U1,U2,U3,U4,U5,U6]
 refine wpAnyH_done (by kernel_rfl) ?_ _
 try simp only [Act.put, U1,U2,U3,U4,U5,U6]
 have H2 := hid h2
 have K2 : Hid (Ek w1 w2 (w.heap.size :: bw :: G)) := hid hH.2
 have E2 := hid (E1.out.trans K2.out.tail)
 have B2 := hid (K2.out.row B1.out (by simp))
 have cb0 : w2.cell? ⟨bw, 0, none⟩ = some (.pointer (some ⟨p, 0, none⟩)) := B2.out.at_ 0 _ rfl
 have cb1 : w2.cell? ⟨bw, 1, none⟩ = some (.pointer (some ⟨jp, 0, none⟩)) := B2.out.at_ 1 _ rfl
 clear hH
 go_wp2_with (first
  | (go_at_call 22; refine (check_any H2.out).mono ?_; rintro e w9 ⟨rfl, hw9⟩; subst hw9)
  | ((with_reducible show wpList _ _ _ ({ dst := none, op := .store _ (.tmp 135) _, type := _, pos := _, after := _, guard := _ } :: _) _ _); refine wpl_store_c rfl 3 (.tmp 135) (.tmp 133) rfl bw 2 (.int .i64 J2.c) rfl rfl B2.out (by kernel_rfl) ?_ (hid (by show 2 < 3; decide)) (hid rfl); intro w10 hr hg; have H10 := hid (H2.out.put (g := bw) (by simp) HBW.out hg); have E10 := hid (E2.out.tail.trans (ek_put hg (fun g hg => H2.out.lt g (by simp [hg])) HBG.out)); have B10 : Hid (Row w10 bw 37 (wC p (some jp) J2.c)) := hid hr; have cb0 : w10.cell? ⟨bw, 0, none⟩ = some (.pointer (some ⟨p, 0, none⟩)) := B10.out.at_ 0 _ rfl; clear hr hg)
  | (go_at_call 32; refine (HON.out _ _ H10.out.1).mono ?_; rintro e w11 ⟨rfl, hw11⟩; subst hw11)
  | ((with_reducible show wpList _ _ _ ({ dst := none, op := .store _ (.tmp 144) _, type := _, pos := _, after := _, guard := _ } :: _) _ _); refine wpl_store_c rfl 35 (.tmp 144) (.const (.pointer none)) rfl bw 1 (.pointer none) rfl rfl B10.out (by kernel_rfl) ?_ (hid (by show 1 < 3; decide)) (hid rfl); intro w12 hr hg; have H12 := hid (H10.out.put (g := bw) (by simp) HBW.out hg); have E12 := hid (E10.out.trans (ek_put hg (fun g hg => H10.out.lt g (by simp [hg])) HBG.out)); have B12 : Hid (Row w12 bw 37 (wC p none J2.c)) := hid hr; clear hr hg))
 go_ret
 exact ⟨rfl, ⟨HBW.out, HBG.out, H12.out.1.sub HSUB.out, B12.out⟩, E12.out⟩
set_option maxHeartbeats 4000000 in
theorem does_5on {w0 w : World} {bw p gs : Nat} {S : Sp} {J : Jn} {c : Int} {G : List Nat} (h : Wj w0 w bw p gs ⟨S, some J, c⟩ G) (x : ActJ) (A : Option Addr) (l cap : Nat) (S2 : Sp) (J2 : Jn) (y : Int) (hon : S2.on = true) (hk : x.kind = 5) (HC : Hid (∀ W jp (X : List Nat), Jd w0 W jp p gs S J X → Calls Tryd.prog 16 #[.pointer (some ⟨jp, 0, none⟩)] W (JC w0 W jp p gs S2 J2 X (.int .i64 y)))) (_hc : S.count ≤ 800000) :
  Calls Tryd.prog 11 #[.pointer (some ⟨bw, 0, none⟩), .agg (actC x A l cap)] w (WC w0 w bw p gs ⟨S2, some J2, J2.c⟩ G y) := by
 obtain ⟨hbw0, hbwG, h⟩ := h
 obtain ⟨jp, h, hrow⟩ := h
 have HRA : Hid (Row (w.alloc (.cells (actC x A l cap) 32)) w.heap.size 32 (actC x A l cap).toList) := hid (Row.new _ _ _)
 have HJ : Hid (Jd w0 (w.alloc (.cells (actC x A l cap) 32)) jp p gs S J (w.heap.size :: bw :: G)) := hid (h.alloc _).1
 have HK : Hid (Ek w (w.alloc (.cells (actC x A l cap) 32)) (bw :: G)) := hid (h.alloc _).2
 have HRB : Hid (Row (w.alloc (.cells (actC x A l cap) 32)) bw 37 (wC p (some jp) c)) := hid (HK.out.row hrow (by simp))
 have ca0 : (w.alloc (.cells (actC x A l cap) 32)).cell? ⟨w.heap.size, 0, none⟩ = some (.int .i64 x.kind) := HRA.out.at_ 0 _ rfl
 have cb0 : (w.alloc (.cells (actC x A l cap) 32)).cell? ⟨bw, 0, none⟩ = some (.pointer (some ⟨p, 0, none⟩)) := HRB.out.at_ 0 _ rfl
 have cb1 : (w.alloc (.cells (actC x A l cap) 32)).cell? ⟨bw, 1, none⟩ = some (.pointer (some ⟨jp, 0, none⟩)) := HRB.out.at_ 1 _ rfl
 have HBW := hid hbw0
 have HBG := hid hbwG
 have HNE : Hid (w.heap.size ≠ bw) := hid (by have := hrow.lt; omega)
 rw [hk] at ca0
 have HSUB : Hid (∀ g ∈ bw :: G, g ∈ jp :: w.heap.size :: bw :: G) := hid (by intro g hg; simp only [List.mem_cons] at hg ⊢; exact .inr (.inr hg))
 have HON : Hid (∀ W (X : List Nat), Dd w0 W p gs S2 X → Calls Tryd.prog 32 #[.pointer (some ⟨p, 0, none⟩)] W fun e w' => e = .returned (.bool true) ∧ W = w') := hid fun W X hW => by
  have := dd_on hW
  rw [hon] at this
  exact this
 clear h hrow hbw0 hbwG hk _hc hon
 go_enter Tryd.func11, Tryd.ntmps11
 go_wp2_with (first
  | (go_at_call 16; refine (HC.out _ _ _ HJ.out).mono ?_; rintro e w2 ⟨rfl, q, k⟩; have H2 := hid q; have E2 := hid (HK.out.trans k.tail); have B2 := hid (k.row HRB.out (by simp)); have cb0 : w2.cell? ⟨bw, 0, none⟩ = some (.pointer (some ⟨p, 0, none⟩)) := B2.out.at_ 0 _ rfl; have cb1 : w2.cell? ⟨bw, 1, none⟩ = some (.pointer (some ⟨jp, 0, none⟩)) := B2.out.at_ 1 _ rfl; clear q k)
  | (go_at_call 22; refine (check_any H2.out).mono ?_; rintro e w9 ⟨rfl, hw9⟩; subst hw9)
  | ((with_reducible show wpList _ _ _ ({ dst := none, op := .store _ (.tmp 135) _, type := _, pos := _, after := _, guard := _ } :: _) _ _); refine wpl_store_c rfl 3 (.tmp 135) (.tmp 133) rfl bw 2 (.int .i64 J2.c) rfl rfl B2.out (by kernel_rfl) ?_ (hid (by show 2 < 3; decide)) (hid rfl); intro w10 hr hg; have H10 := hid (H2.out.put (g := bw) (by simp) HBW.out hg); have E10 := hid (E2.out.tail.trans (ek_put hg (fun g hg => H2.out.lt g (by simp [hg])) HBG.out)); have B10 : Hid (Row w10 bw 37 (wC p (some jp) J2.c)) := hid hr; have cb0 : w10.cell? ⟨bw, 0, none⟩ = some (.pointer (some ⟨p, 0, none⟩)) := B10.out.at_ 0 _ rfl; clear hr hg)
  | (go_at_call 32; refine (HON.out _ _ H10.out.1).mono ?_; rintro e w11 ⟨rfl, hw11⟩; subst hw11))
 go_ret
 exact ⟨rfl, ⟨HBW.out, HBG.out, jp, H10.out.tail, B10.out⟩, E10.out⟩
set_option maxHeartbeats 4000000 in
theorem does_5off {w0 w : World} {bw p gs : Nat} {S : Sp} {J : Jn} {c : Int} {G : List Nat} (h : Wj w0 w bw p gs ⟨S, some J, c⟩ G) (x : ActJ) (A : Option Addr) (l cap : Nat) (S2 : Sp) (J2 : Jn) (y : Int) (hon : S2.on = false) (hk : x.kind = 5) (HC : Hid (∀ W jp (X : List Nat), Jd w0 W jp p gs S J X → Calls Tryd.prog 16 #[.pointer (some ⟨jp, 0, none⟩)] W (JC w0 W jp p gs S2 J2 X (.int .i64 y)))) (_hc : S.count ≤ 800000) :
  Calls Tryd.prog 11 #[.pointer (some ⟨bw, 0, none⟩), .agg (actC x A l cap)] w (WC w0 w bw p gs ⟨S2, none, J2.c⟩ G y) := by
 obtain ⟨hbw0, hbwG, h⟩ := h
 obtain ⟨jp, h, hrow⟩ := h
 have HRA : Hid (Row (w.alloc (.cells (actC x A l cap) 32)) w.heap.size 32 (actC x A l cap).toList) := hid (Row.new _ _ _)
 have HJ : Hid (Jd w0 (w.alloc (.cells (actC x A l cap) 32)) jp p gs S J (w.heap.size :: bw :: G)) := hid (h.alloc _).1
 have HK : Hid (Ek w (w.alloc (.cells (actC x A l cap) 32)) (bw :: G)) := hid (h.alloc _).2
 have HRB : Hid (Row (w.alloc (.cells (actC x A l cap) 32)) bw 37 (wC p (some jp) c)) := hid (HK.out.row hrow (by simp))
 have ca0 : (w.alloc (.cells (actC x A l cap) 32)).cell? ⟨w.heap.size, 0, none⟩ = some (.int .i64 x.kind) := HRA.out.at_ 0 _ rfl
 have cb0 : (w.alloc (.cells (actC x A l cap) 32)).cell? ⟨bw, 0, none⟩ = some (.pointer (some ⟨p, 0, none⟩)) := HRB.out.at_ 0 _ rfl
 have cb1 : (w.alloc (.cells (actC x A l cap) 32)).cell? ⟨bw, 1, none⟩ = some (.pointer (some ⟨jp, 0, none⟩)) := HRB.out.at_ 1 _ rfl
 have HBW := hid hbw0
 have HBG := hid hbwG
 have HNE : Hid (w.heap.size ≠ bw) := hid (by have := hrow.lt; omega)
 rw [hk] at ca0
 have HSUB : Hid (∀ g ∈ bw :: G, g ∈ jp :: w.heap.size :: bw :: G) := hid (by intro g hg; simp only [List.mem_cons] at hg ⊢; exact .inr (.inr hg))
 have HON : Hid (∀ W (X : List Nat), Dd w0 W p gs S2 X → Calls Tryd.prog 32 #[.pointer (some ⟨p, 0, none⟩)] W fun e w' => e = .returned (.bool false) ∧ W = w') := hid fun W X hW => by
  have := dd_on hW
  rw [hon] at this
  exact this
 clear h hrow hbw0 hbwG hk _hc hon
 go_enter Tryd.func11, Tryd.ntmps11
 go_wp2_with (first
  | (go_at_call 16; refine (HC.out _ _ _ HJ.out).mono ?_; rintro e w2 ⟨rfl, q, k⟩; have H2 := hid q; have E2 := hid (HK.out.trans k.tail); have B2 := hid (k.row HRB.out (by simp)); have cb0 : w2.cell? ⟨bw, 0, none⟩ = some (.pointer (some ⟨p, 0, none⟩)) := B2.out.at_ 0 _ rfl; have cb1 : w2.cell? ⟨bw, 1, none⟩ = some (.pointer (some ⟨jp, 0, none⟩)) := B2.out.at_ 1 _ rfl; clear q k)
  | (go_at_call 22; refine (check_any H2.out).mono ?_; rintro e w9 ⟨rfl, hw9⟩; subst hw9)
  | ((with_reducible show wpList _ _ _ ({ dst := none, op := .store _ (.tmp 135) _, type := _, pos := _, after := _, guard := _ } :: _) _ _); refine wpl_store_c rfl 3 (.tmp 135) (.tmp 133) rfl bw 2 (.int .i64 J2.c) rfl rfl B2.out (by kernel_rfl) ?_ (hid (by show 2 < 3; decide)) (hid rfl); intro w10 hr hg; have H10 := hid (H2.out.put (g := bw) (by simp) HBW.out hg); have E10 := hid (E2.out.tail.trans (ek_put hg (fun g hg => H2.out.lt g (by simp [hg])) HBG.out)); have B10 : Hid (Row w10 bw 37 (wC p (some jp) J2.c)) := hid hr; have cb0 : w10.cell? ⟨bw, 0, none⟩ = some (.pointer (some ⟨p, 0, none⟩)) := B10.out.at_ 0 _ rfl; clear hr hg)
  | (go_at_call 32; refine (HON.out _ _ H10.out.1).mono ?_; rintro e w11 ⟨rfl, hw11⟩; subst hw11)
  | ((with_reducible show wpList _ _ _ ({ dst := none, op := .store _ (.tmp 144) _, type := _, pos := _, after := _, guard := _ } :: _) _ _); refine wpl_store_c rfl 35 (.tmp 144) (.const (.pointer none)) rfl bw 1 (.pointer none) rfl rfl B10.out (by kernel_rfl) ?_ (hid (by show 1 < 3; decide)) (hid rfl); intro w12 hr hg; have H12 := hid (H10.out.put (g := bw) (by simp) HBW.out hg); have E12 := hid (E10.out.trans (ek_put hg (fun g hg => H10.out.lt g (by simp [hg])) HBG.out)); have B12 : Hid (Row w12 bw 37 (wC p none J2.c)) := hid hr; clear hr hg))
 go_ret
 exact ⟨rfl, ⟨HBW.out, HBG.out, H12.out.1.sub HSUB.out, B12.out⟩, E12.out⟩
end Go.Proofs.YtafbeepacncooaaDoor
