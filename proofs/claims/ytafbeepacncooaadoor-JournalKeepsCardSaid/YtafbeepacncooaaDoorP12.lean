/-
  The walk of the law's does: the power is back.
-/
import Derived.Test.YtafbeepacncooaaDoorP09
import Derived.Test.YtafbeepacncooaaDoorP10
import Derived.Test.YtafbeepacncooaaDoorP11
namespace Go.Proofs.YtafbeepacncooaaDoor
open Go.RowKit
set_option maxRecDepth 10000

set_option maxHeartbeats 4000000 in
theorem does_8j {w0 w : World} {bw p gs : Nat} {S : Sp} {J : Jn} {c : Int} {G : List Nat} (h : Wj w0 w bw p gs ⟨S, some J, c⟩ G) (x : ActJ) (A : Option Addr) (l cap : Nat) (y : Int) (hy : y ≠ 0) (hon : S.on = true) (hk : x.kind = 8) (HC : Hid (∀ W (X : List Nat), Dd w0 W p gs S X → Calls Tryd.prog 30 #[.pointer (some ⟨p, 0, none⟩), .slice A l cap] W (DC w0 W p gs S X (.int .i64 y)))) (_hc : S.count ≤ 800000) :
  Calls Tryd.prog 11 #[.pointer (some ⟨bw, 0, none⟩), .agg (actC x A l cap)] w (WC w0 w bw p gs ⟨S, some J, J.c⟩ G y) := by
 obtain ⟨hbw0, hbwG, h⟩ := h
 obtain ⟨jp, h, hrow⟩ := h
 have HRA : Hid (Row (w.alloc (.cells (actC x A l cap) 32)) w.heap.size 32 (actC x A l cap).toList) := hid (Row.new _ _ _)
 have HJ : Hid (Jd w0 (w.alloc (.cells (actC x A l cap) 32)) jp p gs S J (w.heap.size :: bw :: G)) := hid (h.alloc _).1
 have HK : Hid (Ek w (w.alloc (.cells (actC x A l cap) 32)) (bw :: G)) := hid (h.alloc _).2
 have HRB : Hid (Row (w.alloc (.cells (actC x A l cap) 32)) bw 37 (wC p (some jp) c)) := hid (HK.out.row hrow (by simp))
 have ca0 : (w.alloc (.cells (actC x A l cap) 32)).cell? ⟨w.heap.size, 0, none⟩ = some (.int .i64 x.kind) := HRA.out.at_ 0 _ rfl
 have cb0 : (w.alloc (.cells (actC x A l cap) 32)).cell? ⟨bw, 0, none⟩ = some (.pointer (some ⟨p, 0, none⟩)) := HRB.out.at_ 0 _ rfl
 have cb1 : (w.alloc (.cells (actC x A l cap) 32)).cell? ⟨bw, 1, none⟩ = some (.pointer (some ⟨jp, 0, none⟩)) := HRB.out.at_ 1 _ rfl
 have HBW := hid hbw0
 have HBG := hid hbwG
 have HNE : Hid (w.heap.size ≠ bw) := hid (by have := hrow.lt; omega)
 rw [hk] at ca0
 have HSUB : Hid (∀ g ∈ bw :: G, g ∈ jp :: w.heap.size :: bw :: G) := hid (by intro g hg; simp only [List.mem_cons] at hg ⊢; exact .inr (.inr hg))
 have HON : Hid (∀ W (X : List Nat), Dd w0 W p gs S X → Calls Tryd.prog 32 #[.pointer (some ⟨p, 0, none⟩)] W fun e w' => e = .returned (.bool true) ∧ W = w') := hid fun W X hW => by
  have := dd_on hW
  rw [hon] at this
  exact this
 have HY := hid (show (y == 0) = false by simpa using hy)
 clear h hrow hbw0 hbwG hk _hc hon hy
 go_enter Tryd.func11, Tryd.ntmps11
 go_wp2_with fail
 refine name_wp (fun w1 hw1 => ?_)
 have H1 : Hid (Jd w0 w1 jp p gs S J (w.heap.size :: bw :: G)) := hid (by rw [hw1]; exact HJ.out)
 have E1 : Hid (Ek w w1 (bw :: G)) := hid (by rw [hw1]; exact HK.out)
 have A1 : Hid (Row w1 w.heap.size 32 (actC x A l cap).toList) := hid (by rw [hw1]; exact HRA.out)
 have B1 : Hid (Row w1 bw 37 (wC p (some jp) c)) := hid (by rw [hw1]; exact HRB.out)
 clear hw1 ca0 cb0 cb1
 try simp only [Act.put, U1,U2,U3,U4,U5,U6]
 refine wp_region_held_drew (S := fun W => (∃ S J, Jd w0 W jp p gs S J (w.heap.size :: bw :: G)) ∧ Ek w1 W (w.heap.size :: bw :: G)) (by kernel_rfl) (⟨⟨_, _, H1.out.drew⟩, fun _ _ => rfl⟩) (fun hH => ?_)
 refine tk_ (i := 0) (v := .pointer (some ⟨bw, 0, none⟩)) rfl (Or.inl ⟨by kernel_rfl, fun w' _ => by kernel_rfl⟩) hH ?_
 simp only [Act.put, U1, U3, U4, U5, U6]
 refine tk_ (i := 1) (v := .pointer (some ⟨bw, 0, none⟩)) rfl (Or.inl ⟨by rfl, fun w' hw' => by clear hw'; go_simp⟩) hH ?_
 simp only [Act.put, U1,U2,U3,U4,U5,U6]
 refine tk_ (i := 2) (v := .pointer (some ⟨bw, 0, none⟩)) rfl (Or.inl ⟨by rfl, fun w' hw' => by clear hw'; go_simp⟩) hH ?_
 simp only [Act.put, U1,U2,U3,U4,U5,U6]
 refine tk_ (i := 3) (v := .pointer (some ⟨p, 0, none⟩)) rfl (Or.inl ⟨by rfl, fun w' hw' => by have h := (hw'.2.row B1.out (by simp)).at_ 0 (.pointer (some ⟨p, 0, none⟩)) rfl; go_simp⟩) hH ?_
 simp only [Act.put, U1,U2,U3,U4,U5,U6]
 refine tk_ (i := 4) (v := .pointer (some ⟨w.heap.size, 14, none⟩)) rfl (Or.inl ⟨by rfl, fun w' hw' => by clear hw'; go_simp⟩) hH ?_
 simp only [Act.put, U1,U2,U3,U4,U5,U6]
 refine tk_ (i := 5) (v := .slice A l cap) rfl (Or.inl ⟨by rfl, fun w' hw' => by have h := (hw'.2.row A1.out (by simp)).at_ 14 (.slice A l cap) rfl; go_simp⟩) hH ?_
 simp only [Act.put, U1,U2,U3,U4,U5,U6]
 refine wpAnyH_ready (rs := [6]) (by kernel_rfl) (by simp) ?_
 refine AllReadyH.cons rfl (fun K hK => ?_) AllReadyH.nil
 go_simp
 go_at_call 30
 refine (H1.out.drew.callD (fun hD => HC.out _ _ hD)).mono ?_
 rintro e w2 ⟨rfl, h2, k2⟩
 go_wp2_with fail
 refine hK.out _ _ (⟨⟨_, _, h2⟩, hH.2.trans k2⟩) (fun hH => ?_)
 clear hK K
 try simp only [Act.put, U1,U2,U3,U4,U5,U6]
 refine tk_ (i := 7) (v := .int .i64 y) rfl (Or.inl ⟨by kernel_rfl, fun w' _ => by kernel_rfl⟩) hH ?_
 simp only [Act.put, U1,U2,U3,U4,U5,U6]
 refine wpAnyH_done (by kernel_rfl) ?_ _
 try simp only [Act.put, U1,U2,U3,U4,U5,U6]
 have H2 := hid h2
 have K2 : Hid (Ek w1 w2 (w.heap.size :: bw :: G)) := hid hH.2
 have E2 := hid (E1.out.trans K2.out.tail)
 have B2 := hid (K2.out.row B1.out (by simp))
 have cb0 : w2.cell? ⟨bw, 0, none⟩ = some (.pointer (some ⟨p, 0, none⟩)) := B2.out.at_ 0 _ rfl
 have cb1 : w2.cell? ⟨bw, 1, none⟩ = some (.pointer (some ⟨jp, 0, none⟩)) := B2.out.at_ 1 _ rfl
 clear hH
 have hy := HY.out
 go_wp2_with (first
  | (go_at_call 22; refine (check_any H2.out).mono ?_; rintro e w9 ⟨rfl, hw9⟩; subst hw9)
  | ((with_reducible show wpList _ _ _ ({ dst := none, op := .store _ (.tmp 135) _, type := _, pos := _, after := _, guard := _ } :: _) _ _); refine wpl_store_c rfl 3 (.tmp 135) (.tmp 133) rfl bw 2 (.int .i64 J.c) rfl rfl B2.out (by kernel_rfl) ?_ (hid (by show 2 < 3; decide)) (hid rfl); intro w10 hr hg; have H10 := hid (H2.out.put (g := bw) (by simp) HBW.out hg); have E10 := hid (E2.out.tail.trans (ek_put hg (fun g hg => H2.out.lt g (by simp [hg])) HBG.out)); have B10 : Hid (Row w10 bw 37 (wC p (some jp) J.c)) := hid hr; have cb0 : w10.cell? ⟨bw, 0, none⟩ = some (.pointer (some ⟨p, 0, none⟩)) := B10.out.at_ 0 _ rfl; clear hr hg)
  | (go_at_call 32; refine (HON.out _ _ H10.out.1).mono ?_; rintro e w11 ⟨rfl, hw11⟩; subst hw11))
 go_ret
 exact ⟨rfl, ⟨HBW.out, HBG.out, jp, H10.out.tail, B10.out⟩, E10.out⟩
set_option maxHeartbeats 4000000 in
theorem does_8nokon {w0 w : World} {bw p gs : Nat} {S : Sp} {c : Int} {G : List Nat} (h : Wj w0 w bw p gs ⟨S, none, c⟩ G) (x : ActJ) (A : Option Addr) (l cap : Nat) (S1 S2 : Sp) (J2 : Jn) (y : Int) (hon : S2.on = true) (hk : x.kind = 8) (HC : Hid (∀ W (X : List Nat), Dd w0 W p gs S X → Calls Tryd.prog 30 #[.pointer (some ⟨p, 0, none⟩), .slice A l cap] W (DC w0 W p gs S1 X (.int .i64 0)))) (HO : Hid (∀ W (X : List Nat), Dd w0 W p gs S1 X → Calls Tryd.prog 18 #[.pointer (some ⟨p, 0, none⟩), .int .i64 c] W (OR w0 W p gs X (S2, some J2, y)))) (_hc : S.count ≤ 800000) :
  Calls Tryd.prog 11 #[.pointer (some ⟨bw, 0, none⟩), .agg (actC x A l cap)] w (WC w0 w bw p gs ⟨S2, some J2, J2.c⟩ G y) := by
 obtain ⟨hbw0, hbwG, h⟩ := h
 obtain ⟨h, hrow⟩ := h
 have HRA : Hid (Row (w.alloc (.cells (actC x A l cap) 32)) w.heap.size 32 (actC x A l cap).toList) := hid (Row.new _ _ _)
 have hb0 := (Below.refl w.heap.size w).alloc (Nat.le_refl _) (.cells (actC x A l cap) 32)
 have HJ : Hid (Dd w0 (w.alloc (.cells (actC x A l cap) 32)) p gs S (w.heap.size :: bw :: G)) := hid (h.add hb0 (Nat.le_refl _) (by simp))
 have HK : Hid (Ek w (w.alloc (.cells (actC x A l cap) 32)) (bw :: G)) := hid (h.new hb0).2
 have HRB : Hid (Row (w.alloc (.cells (actC x A l cap) 32)) bw 37 (wC p none c)) := hid (HK.out.row hrow (by simp))
 have ca0 : (w.alloc (.cells (actC x A l cap) 32)).cell? ⟨w.heap.size, 0, none⟩ = some (.int .i64 x.kind) := HRA.out.at_ 0 _ rfl
 have cb0 : (w.alloc (.cells (actC x A l cap) 32)).cell? ⟨bw, 0, none⟩ = some (.pointer (some ⟨p, 0, none⟩)) := HRB.out.at_ 0 _ rfl
 have cb1 : (w.alloc (.cells (actC x A l cap) 32)).cell? ⟨bw, 1, none⟩ = some (.pointer none) := HRB.out.at_ 1 _ rfl
 have HBW := hid hbw0
 have HBG := hid hbwG
 have HNE : Hid (w.heap.size ≠ bw) := hid (by have := hrow.lt; omega)
 rw [hk] at ca0
 have HON : Hid (∀ W (X : List Nat), Dd w0 W p gs S2 X → Calls Tryd.prog 32 #[.pointer (some ⟨p, 0, none⟩)] W fun e w' => e = .returned (.bool true) ∧ W = w') := hid fun W X hW => by
  have := dd_on hW
  rw [hon] at this
  exact this
 clear h hrow hbw0 hbwG hk _hc hon
 go_enter Tryd.func11, Tryd.ntmps11
 go_wp2_with fail
 refine name_wp (fun w1 hw1 => ?_)
 have H1 : Hid (Dd w0 w1 p gs S (w.heap.size :: bw :: G)) := hid (by rw [hw1]; exact HJ.out)
 have E1 : Hid (Ek w w1 (bw :: G)) := hid (by rw [hw1]; exact HK.out)
 have A1 : Hid (Row w1 w.heap.size 32 (actC x A l cap).toList) := hid (by rw [hw1]; exact HRA.out)
 have B1 : Hid (Row w1 bw 37 (wC p none c)) := hid (by rw [hw1]; exact HRB.out)
 clear hw1 ca0 cb0 cb1
 try simp only [Act.put, U1,U2,U3,U4,U5,U6]
 refine wp_region_held_drew (S := fun W => (∃ S, Dd w0 W p gs S (w.heap.size :: bw :: G)) ∧ Ek w1 W (w.heap.size :: bw :: G)) (by kernel_rfl) (⟨⟨_, (H1.out.new (w' := w1.drew) ⟨rfl, rfl, rfl, Nat.le_refl _, fun _ _ => rfl⟩).1⟩, fun _ _ => rfl⟩) (fun hH => ?_)
 refine tk_ (i := 0) (v := .pointer (some ⟨bw, 0, none⟩)) rfl (Or.inl ⟨by kernel_rfl, fun w' _ => by kernel_rfl⟩) hH ?_
 simp only [Act.put, U1, U3, U4, U5, U6]
 refine tk_ (i := 1) (v := .pointer (some ⟨bw, 0, none⟩)) rfl (Or.inl ⟨by rfl, fun w' hw' => by clear hw'; go_simp⟩) hH ?_
 simp only [Act.put, U1,U2,U3,U4,U5,U6]
 refine tk_ (i := 2) (v := .pointer (some ⟨bw, 0, none⟩)) rfl (Or.inl ⟨by rfl, fun w' hw' => by clear hw'; go_simp⟩) hH ?_
 simp only [Act.put, U1,U2,U3,U4,U5,U6]
 refine tk_ (i := 3) (v := .pointer (some ⟨p, 0, none⟩)) rfl (Or.inl ⟨by rfl, fun w' hw' => by have h := (hw'.2.row B1.out (by simp)).at_ 0 (.pointer (some ⟨p, 0, none⟩)) rfl; go_simp⟩) hH ?_
 simp only [Act.put, U1,U2,U3,U4,U5,U6]
 refine tk_ (i := 4) (v := .pointer (some ⟨w.heap.size, 14, none⟩)) rfl (Or.inl ⟨by rfl, fun w' hw' => by clear hw'; go_simp⟩) hH ?_
 simp only [Act.put, U1,U2,U3,U4,U5,U6]
 refine tk_ (i := 5) (v := .slice A l cap) rfl (Or.inl ⟨by rfl, fun w' hw' => by have h := (hw'.2.row A1.out (by simp)).at_ 14 (.slice A l cap) rfl; go_simp⟩) hH ?_
 simp only [Act.put, U1,U2,U3,U4,U5,U6]
 refine wpAnyH_ready (rs := [6]) (by kernel_rfl) (by simp) ?_
 refine AllReadyH.cons rfl (fun K hK => ?_) AllReadyH.nil
 go_simp
 go_at_call 30
 refine (HC.out _ _ (H1.out.new (w' := w1.drew) ⟨rfl, rfl, rfl, Nat.le_refl _, fun _ _ => rfl⟩).1).mono ?_
 rintro e w2 ⟨rfl, h2, k2⟩
 go_wp2_with fail
 refine hK.out _ _ (⟨⟨_, h2⟩, hH.2.trans k2⟩) (fun hH => ?_)
 clear hK K
 try simp only [Act.put, U1,U2,U3,U4,U5,U6]
 refine tk_ (i := 7) (v := .int .i64 0) rfl (Or.inl ⟨by kernel_rfl, fun w' _ => by kernel_rfl⟩) hH ?_
 simp only [Act.put, U1,U2,U3,U4,U5,U6]
 refine wpAnyH_done (by kernel_rfl) ?_ _
 try simp only [Act.put, U1,U2,U3,U4,U5,U6]
 have H2 := hid h2
 have K2 : Hid (Ek w1 w2 (w.heap.size :: bw :: G)) := hid hH.2
 have E2 := hid (E1.out.trans K2.out.tail)
 have B2 := hid (K2.out.row B1.out (by simp))
 have cb0 : w2.cell? ⟨bw, 0, none⟩ = some (.pointer (some ⟨p, 0, none⟩)) := B2.out.at_ 0 _ rfl
 have cb1 : w2.cell? ⟨bw, 1, none⟩ = some (.pointer none) := B2.out.at_ 1 _ rfl
 clear hH
 go_wp2_with fail
 try simp only [Act.put, U1,U2,U3,U4,U5,U6]
 refine wp_region_held_drew (S := fun W => (∃ S, Dd w0 W p gs S (w.heap.size :: bw :: G)) ∧ Ek w2 W (w.heap.size :: bw :: G)) (by kernel_rfl) (⟨⟨_, (H2.out.new (w' := w2.drew) ⟨rfl, rfl, rfl, Nat.le_refl _, fun _ _ => rfl⟩).1⟩, fun _ _ => rfl⟩) (fun hH => ?_)
 refine tk_ (i := 0) (v := .pointer (some ⟨bw, 0, none⟩)) rfl (Or.inl ⟨by kernel_rfl, fun w' _ => by kernel_rfl⟩) hH ?_
 simp only [Act.put, U1, U3, U4, U5, U6]
 refine tk_ (i := 1) (v := .pointer (some ⟨bw, 0, none⟩)) rfl (Or.inl ⟨by rfl, fun w' hw' => by clear hw'; go_simp⟩) hH ?_
 simp only [Act.put, U1,U2,U3,U4,U5,U6]
 refine tk_ (i := 2) (v := .pointer (some ⟨bw, 0, none⟩)) rfl (Or.inl ⟨by rfl, fun w' hw' => by clear hw'; go_simp⟩) hH ?_
 simp only [Act.put, U1,U2,U3,U4,U5,U6]
 refine tk_ (i := 3) (v := .pointer (some ⟨p, 0, none⟩)) rfl (Or.inl ⟨by rfl, fun w' hw' => by have h := (hw'.2.row B2.out (by simp)).at_ 0 _ rfl; go_simp⟩) hH ?_
 simp only [Act.put, U1,U2,U3,U4,U5,U6]
 refine tk_ (i := 4) (v := .pointer (some ⟨bw, 0, none⟩)) rfl (Or.inl ⟨by kernel_rfl, fun w' _ => by kernel_rfl⟩) hH ?_
 simp only [Act.put, U1,U2,U3,U4,U5,U6]
 refine tk_ (i := 5) (v := .pointer (some ⟨bw, 0, none⟩)) rfl (Or.inl ⟨by rfl, fun w' hw' => by clear hw'; go_simp⟩) hH ?_
 simp only [Act.put, U1,U2,U3,U4,U5,U6]
 refine tk_ (i := 6) (v := .pointer (some ⟨bw, 2, none⟩)) rfl (Or.inl ⟨by rfl, fun w' hw' => by clear hw'; go_simp⟩) hH ?_
 simp only [Act.put, U1,U2,U3,U4,U5,U6]
 refine tk_ (i := 7) (v := .int .i64 c) rfl (Or.inl ⟨by rfl, fun w' hw' => by have h := (hw'.2.row B2.out (by simp)).at_ 2 (.int .i64 c) rfl; go_simp⟩) hH ?_
 simp only [Act.put, U1,U2,U3,U4,U5,U6]
 refine wpAnyH_ready (rs := [8]) (by kernel_rfl) (by simp) ?_
 refine AllReadyH.cons rfl (fun K hK => ?_) AllReadyH.nil
 go_simp
 go_at_call 18
 refine (HO.out _ _ ((H2.out.new (w' := w2.drew) ⟨rfl, rfl, rfl, Nat.le_refl _, fun _ _ => rfl⟩).1)).mono ?_
 rintro e w3 ⟨jp, rfl, h3, k3, _⟩
 go_wp2_with fail
 refine hK.out _ _ (⟨⟨_, h3.1.tail⟩, hH.2.trans k3⟩) (fun hH => ?_)
 clear hK K
 try simp only [Act.put, U1,U2,U3,U4,U5,U6]
 refine tk_ (i := 9) (v := .tuple #[.pointer (some ⟨jp, 0, none⟩), .int .i64 y]) rfl (Or.inl ⟨by kernel_rfl, fun w' _ => by kernel_rfl⟩) hH ?_
 simp only [Act.put, U1,U2,U3,U4,U5,U6]
 refine tk_ (i := 10) (v := .pointer (some ⟨jp, 0, none⟩)) rfl (Or.inl ⟨by kernel_rfl, fun w' _ => by kernel_rfl⟩) hH ?_
 simp only [Act.put, U1,U2,U3,U4,U5,U6]
 refine tk_ (i := 11) (v := .int .i64 y) rfl (Or.inl ⟨by kernel_rfl, fun w' _ => by kernel_rfl⟩) hH ?_
 simp only [Act.put, U1,U2,U3,U4,U5,U6]
 refine tk_ (i := 12) (v := .pointer (some ⟨jp, 0, none⟩)) rfl (Or.inl ⟨by kernel_rfl, fun w' _ => by kernel_rfl⟩) hH ?_
 simp only [Act.put, U1,U2,U3,U4,U5,U6]
 refine tk_ (i := 13) (v := .int .i64 y) rfl (Or.inl ⟨by kernel_rfl, fun w' _ => by kernel_rfl⟩) hH ?_
 simp only [Act.put, U1,U2,U3,U4,U5,U6]
 refine wpAnyH_done (by kernel_rfl) ?_ _
 try simp only [Act.put, U1,U2,U3,U4,U5,U6]
 have H3 := hid h3
 have K3 : Hid (Ek w2 w3 (w.heap.size :: bw :: G)) := hid hH.2
 have E3 := hid (E2.out.trans K3.out.tail)
 have B3 := hid (K3.out.row B2.out (by simp))
 clear hH h3 k3 cb0 cb1
 have HSUB : Hid (∀ g ∈ bw :: G, g ∈ jp :: w.heap.size :: bw :: G) := hid (by intro g hg; simp only [List.mem_cons] at hg ⊢; exact .inr (.inr hg))
 go_wp2_with (first
  | ((with_reducible show wpList _ _ _ ({ dst := none, op := .store _ (.tmp 108) _, type := _, pos := _, after := _, guard := _ } :: _) _ _); refine wpl_store_c rfl 35 (.tmp 108) (.tmp 106) rfl bw 1 (.pointer (some ⟨jp, 0, none⟩)) rfl rfl B3.out (by kernel_rfl) ?_ (hid (by show 1 < 3; decide)) (hid rfl); intro w5 hr hg; have H5 := hid (H3.out.put (g := bw) (by simp) HBW.out hg); have E5 := hid ((E3.out.tail).trans (ek_put hg (fun g hg => H3.out.lt g (by simp [hg])) HBG.out)); have B5 : Hid (Row w5 bw 37 (wC p (some jp) c)) := hid hr; have cb0 : w5.cell? ⟨bw, 0, none⟩ = some (.pointer (some ⟨p, 0, none⟩)) := B5.out.at_ 0 _ rfl; have cb1 : w5.cell? ⟨bw, 1, none⟩ = some (.pointer (some ⟨jp, 0, none⟩)) := B5.out.at_ 1 _ rfl; clear hr hg)
  | (go_at_call 22; refine (check_any H5.out).mono ?_; rintro e w9 ⟨rfl, hw9⟩; subst hw9)
  | ((with_reducible show wpList _ _ _ ({ dst := none, op := .store _ (.tmp 135) _, type := _, pos := _, after := _, guard := _ } :: _) _ _); refine wpl_store_c rfl 3 (.tmp 135) (.tmp 133) rfl bw 2 (.int .i64 J2.c) rfl rfl B5.out (by kernel_rfl) ?_ (hid (by show 2 < 3; decide)) (hid rfl); intro w10 hr hg; have H10 := hid (H5.out.put (g := bw) (by simp) HBW.out hg); have E10 := hid (E5.out.trans (ek_put hg (fun g hg => H5.out.lt g (by simp [hg])) HBG.out)); have B10 : Hid (Row w10 bw 37 (wC p (some jp) J2.c)) := hid hr; have cb0 : w10.cell? ⟨bw, 0, none⟩ = some (.pointer (some ⟨p, 0, none⟩)) := B10.out.at_ 0 _ rfl; clear hr hg)
  | (go_at_call 32; refine (HON.out _ _ H10.out.1).mono ?_; rintro e w11 ⟨rfl, hw11⟩; subst hw11))
 go_ret
 exact ⟨rfl, ⟨HBW.out, HBG.out, jp, H10.out.tail, B10.out⟩, E10.out⟩
set_option maxHeartbeats 4000000 in
theorem does_8neroff {w0 w : World} {bw p gs : Nat} {S : Sp} {c : Int} {G : List Nat} (h : Wj w0 w bw p gs ⟨S, none, c⟩ G) (x : ActJ) (A : Option Addr) (l cap : Nat) (S1 S2 : Sp) (y : Int) (hon : S2.on = false) (hk : x.kind = 8) (HC : Hid (∀ W (X : List Nat), Dd w0 W p gs S X → Calls Tryd.prog 30 #[.pointer (some ⟨p, 0, none⟩), .slice A l cap] W (DC w0 W p gs S1 X (.int .i64 0)))) (HO : Hid (∀ W (X : List Nat), Dd w0 W p gs S1 X → Calls Tryd.prog 18 #[.pointer (some ⟨p, 0, none⟩), .int .i64 c] W (OR w0 W p gs X (S2, none, y)))) (_hc : S.count ≤ 800000) :
  Calls Tryd.prog 11 #[.pointer (some ⟨bw, 0, none⟩), .agg (actC x A l cap)] w (WC w0 w bw p gs ⟨S2, none, c⟩ G y) := by
 obtain ⟨hbw0, hbwG, h⟩ := h
 obtain ⟨h, hrow⟩ := h
 have HRA : Hid (Row (w.alloc (.cells (actC x A l cap) 32)) w.heap.size 32 (actC x A l cap).toList) := hid (Row.new _ _ _)
 have hb0 := (Below.refl w.heap.size w).alloc (Nat.le_refl _) (.cells (actC x A l cap) 32)
 have HJ : Hid (Dd w0 (w.alloc (.cells (actC x A l cap) 32)) p gs S (w.heap.size :: bw :: G)) := hid (h.add hb0 (Nat.le_refl _) (by simp))
 have HK : Hid (Ek w (w.alloc (.cells (actC x A l cap) 32)) (bw :: G)) := hid (h.new hb0).2
 have HRB : Hid (Row (w.alloc (.cells (actC x A l cap) 32)) bw 37 (wC p none c)) := hid (HK.out.row hrow (by simp))
 have ca0 : (w.alloc (.cells (actC x A l cap) 32)).cell? ⟨w.heap.size, 0, none⟩ = some (.int .i64 x.kind) := HRA.out.at_ 0 _ rfl
 have cb0 : (w.alloc (.cells (actC x A l cap) 32)).cell? ⟨bw, 0, none⟩ = some (.pointer (some ⟨p, 0, none⟩)) := HRB.out.at_ 0 _ rfl
 have cb1 : (w.alloc (.cells (actC x A l cap) 32)).cell? ⟨bw, 1, none⟩ = some (.pointer none) := HRB.out.at_ 1 _ rfl
 have HBW := hid hbw0
 have HBG := hid hbwG
 have HNE : Hid (w.heap.size ≠ bw) := hid (by have := hrow.lt; omega)
 rw [hk] at ca0
 have HON : Hid (∀ W (X : List Nat), Dd w0 W p gs S2 X → Calls Tryd.prog 32 #[.pointer (some ⟨p, 0, none⟩)] W fun e w' => e = .returned (.bool false) ∧ W = w') := hid fun W X hW => by
  have := dd_on hW
  rw [hon] at this
  exact this
 clear h hrow hbw0 hbwG hk _hc hon
 go_enter Tryd.func11, Tryd.ntmps11
 go_wp2_with fail
 refine name_wp (fun w1 hw1 => ?_)
 have H1 : Hid (Dd w0 w1 p gs S (w.heap.size :: bw :: G)) := hid (by rw [hw1]; exact HJ.out)
 have E1 : Hid (Ek w w1 (bw :: G)) := hid (by rw [hw1]; exact HK.out)
 have A1 : Hid (Row w1 w.heap.size 32 (actC x A l cap).toList) := hid (by rw [hw1]; exact HRA.out)
 have B1 : Hid (Row w1 bw 37 (wC p none c)) := hid (by rw [hw1]; exact HRB.out)
 clear hw1 ca0 cb0 cb1
 try simp only [Act.put, U1,U2,U3,U4,U5,U6]
 refine wp_region_held_drew (S := fun W => (∃ S, Dd w0 W p gs S (w.heap.size :: bw :: G)) ∧ Ek w1 W (w.heap.size :: bw :: G)) (by kernel_rfl) (⟨⟨_, (H1.out.new (w' := w1.drew) ⟨rfl, rfl, rfl, Nat.le_refl _, fun _ _ => rfl⟩).1⟩, fun _ _ => rfl⟩) (fun hH => ?_)
 refine tk_ (i := 0) (v := .pointer (some ⟨bw, 0, none⟩)) rfl (Or.inl ⟨by kernel_rfl, fun w' _ => by kernel_rfl⟩) hH ?_
 simp only [Act.put, U1, U3, U4, U5, U6]
 refine tk_ (i := 1) (v := .pointer (some ⟨bw, 0, none⟩)) rfl (Or.inl ⟨by rfl, fun w' hw' => by clear hw'; go_simp⟩) hH ?_
 simp only [Act.put, U1,U2,U3,U4,U5,U6]
 refine tk_ (i := 2) (v := .pointer (some ⟨bw, 0, none⟩)) rfl (Or.inl ⟨by rfl, fun w' hw' => by clear hw'; go_simp⟩) hH ?_
 simp only [Act.put, U1,U2,U3,U4,U5,U6]
 refine tk_ (i := 3) (v := .pointer (some ⟨p, 0, none⟩)) rfl (Or.inl ⟨by rfl, fun w' hw' => by have h := (hw'.2.row B1.out (by simp)).at_ 0 (.pointer (some ⟨p, 0, none⟩)) rfl; go_simp⟩) hH ?_
 simp only [Act.put, U1,U2,U3,U4,U5,U6]
 refine tk_ (i := 4) (v := .pointer (some ⟨w.heap.size, 14, none⟩)) rfl (Or.inl ⟨by rfl, fun w' hw' => by clear hw'; go_simp⟩) hH ?_
 simp only [Act.put, U1,U2,U3,U4,U5,U6]
 refine tk_ (i := 5) (v := .slice A l cap) rfl (Or.inl ⟨by rfl, fun w' hw' => by have h := (hw'.2.row A1.out (by simp)).at_ 14 (.slice A l cap) rfl; go_simp⟩) hH ?_
 simp only [Act.put, U1,U2,U3,U4,U5,U6]
 refine wpAnyH_ready (rs := [6]) (by kernel_rfl) (by simp) ?_
 refine AllReadyH.cons rfl (fun K hK => ?_) AllReadyH.nil
 go_simp
 go_at_call 30
 refine (HC.out _ _ (H1.out.new (w' := w1.drew) ⟨rfl, rfl, rfl, Nat.le_refl _, fun _ _ => rfl⟩).1).mono ?_
 rintro e w2 ⟨rfl, h2, k2⟩
 go_wp2_with fail
 refine hK.out _ _ (⟨⟨_, h2⟩, hH.2.trans k2⟩) (fun hH => ?_)
 clear hK K
 try simp only [Act.put, U1,U2,U3,U4,U5,U6]
 refine tk_ (i := 7) (v := .int .i64 0) rfl (Or.inl ⟨by kernel_rfl, fun w' _ => by kernel_rfl⟩) hH ?_
 simp only [Act.put, U1,U2,U3,U4,U5,U6]
 refine wpAnyH_done (by kernel_rfl) ?_ _
 try simp only [Act.put, U1,U2,U3,U4,U5,U6]
 have H2 := hid h2
 have K2 : Hid (Ek w1 w2 (w.heap.size :: bw :: G)) := hid hH.2
 have E2 := hid (E1.out.trans K2.out.tail)
 have B2 := hid (K2.out.row B1.out (by simp))
 have cb0 : w2.cell? ⟨bw, 0, none⟩ = some (.pointer (some ⟨p, 0, none⟩)) := B2.out.at_ 0 _ rfl
 have cb1 : w2.cell? ⟨bw, 1, none⟩ = some (.pointer none) := B2.out.at_ 1 _ rfl
 clear hH
 go_wp2_with fail
 try simp only [Act.put, U1,U2,U3,U4,U5,U6]
 refine wp_region_held_drew (S := fun W => (∃ S, Dd w0 W p gs S (w.heap.size :: bw :: G)) ∧ Ek w2 W (w.heap.size :: bw :: G)) (by kernel_rfl) (⟨⟨_, (H2.out.new (w' := w2.drew) ⟨rfl, rfl, rfl, Nat.le_refl _, fun _ _ => rfl⟩).1⟩, fun _ _ => rfl⟩) (fun hH => ?_)
 refine tk_ (i := 0) (v := .pointer (some ⟨bw, 0, none⟩)) rfl (Or.inl ⟨by kernel_rfl, fun w' _ => by kernel_rfl⟩) hH ?_
 simp only [Act.put, U1, U3, U4, U5, U6]
 refine tk_ (i := 1) (v := .pointer (some ⟨bw, 0, none⟩)) rfl (Or.inl ⟨by rfl, fun w' hw' => by clear hw'; go_simp⟩) hH ?_
 simp only [Act.put, U1,U2,U3,U4,U5,U6]
 refine tk_ (i := 2) (v := .pointer (some ⟨bw, 0, none⟩)) rfl (Or.inl ⟨by rfl, fun w' hw' => by clear hw'; go_simp⟩) hH ?_
 simp only [Act.put, U1,U2,U3,U4,U5,U6]
 refine tk_ (i := 3) (v := .pointer (some ⟨p, 0, none⟩)) rfl (Or.inl ⟨by rfl, fun w' hw' => by have h := (hw'.2.row B2.out (by simp)).at_ 0 _ rfl; go_simp⟩) hH ?_
 simp only [Act.put, U1,U2,U3,U4,U5,U6]
 refine tk_ (i := 4) (v := .pointer (some ⟨bw, 0, none⟩)) rfl (Or.inl ⟨by kernel_rfl, fun w' _ => by kernel_rfl⟩) hH ?_
 simp only [Act.put, U1,U2,U3,U4,U5,U6]
 refine tk_ (i := 5) (v := .pointer (some ⟨bw, 0, none⟩)) rfl (Or.inl ⟨by rfl, fun w' hw' => by clear hw'; go_simp⟩) hH ?_
 simp only [Act.put, U1,U2,U3,U4,U5,U6]
 refine tk_ (i := 6) (v := .pointer (some ⟨bw, 2, none⟩)) rfl (Or.inl ⟨by rfl, fun w' hw' => by clear hw'; go_simp⟩) hH ?_
 simp only [Act.put, U1,U2,U3,U4,U5,U6]
 refine tk_ (i := 7) (v := .int .i64 c) rfl (Or.inl ⟨by rfl, fun w' hw' => by have h := (hw'.2.row B2.out (by simp)).at_ 2 (.int .i64 c) rfl; go_simp⟩) hH ?_
 simp only [Act.put, U1,U2,U3,U4,U5,U6]
 refine wpAnyH_ready (rs := [8]) (by kernel_rfl) (by simp) ?_
 refine AllReadyH.cons rfl (fun K hK => ?_) AllReadyH.nil
 go_simp
 go_at_call 18
 refine (HO.out _ _ ((H2.out.new (w' := w2.drew) ⟨rfl, rfl, rfl, Nat.le_refl _, fun _ _ => rfl⟩).1)).mono ?_
 rintro e w3 ⟨rfl, h3, k3⟩
 go_wp2_with fail
 refine hK.out _ _ (⟨⟨_, h3⟩, hH.2.trans k3⟩) (fun hH => ?_)
 clear hK K
 try simp only [Act.put, U1,U2,U3,U4,U5,U6]
 refine tk_ (i := 9) (v := .tuple #[.pointer none, .int .i64 y]) rfl (Or.inl ⟨by kernel_rfl, fun w' _ => by kernel_rfl⟩) hH ?_
 simp only [Act.put, U1,U2,U3,U4,U5,U6]
 refine tk_ (i := 10) (v := .pointer none) rfl (Or.inl ⟨by kernel_rfl, fun w' _ => by kernel_rfl⟩) hH ?_
 simp only [Act.put, U1,U2,U3,U4,U5,U6]
 refine tk_ (i := 11) (v := .int .i64 y) rfl (Or.inl ⟨by kernel_rfl, fun w' _ => by kernel_rfl⟩) hH ?_
 simp only [Act.put, U1,U2,U3,U4,U5,U6]
 refine tk_ (i := 12) (v := .pointer none) rfl (Or.inl ⟨by kernel_rfl, fun w' _ => by kernel_rfl⟩) hH ?_
 simp only [Act.put, U1,U2,U3,U4,U5,U6]
 refine tk_ (i := 13) (v := .int .i64 y) rfl (Or.inl ⟨by kernel_rfl, fun w' _ => by kernel_rfl⟩) hH ?_
 simp only [Act.put, U1,U2,U3,U4,U5,U6]
 refine wpAnyH_done (by kernel_rfl) ?_ _
 try simp only [Act.put, U1,U2,U3,U4,U5,U6]
 have H3 := hid h3
 have K3 : Hid (Ek w2 w3 (w.heap.size :: bw :: G)) := hid hH.2
 have E3 := hid (E2.out.trans K3.out.tail)
 have B3 := hid (K3.out.row B2.out (by simp))
 clear hH h3 k3 cb0 cb1
 go_wp2_with (first
  | ((with_reducible show wpList _ _ _ ({ dst := none, op := .store _ (.tmp 108) _, type := _, pos := _, after := _, guard := _ } :: _) _ _); refine wpl_store_c rfl 35 (.tmp 108) (.tmp 106) rfl bw 1 (.pointer none) rfl rfl B3.out (by kernel_rfl) ?_ (hid (by show 1 < 3; decide)) (hid rfl); intro w5 hr hg; have H5 := hid (H3.out.put (g := bw) (by simp) HBW.out hg); have E5 := hid ((E3.out.tail).trans (ek_put hg (fun g hg => H3.out.lt g (by simp [hg])) HBG.out)); have B5 : Hid (Row w5 bw 37 (wC p none c)) := hid hr; have cb0 : w5.cell? ⟨bw, 0, none⟩ = some (.pointer (some ⟨p, 0, none⟩)) := B5.out.at_ 0 _ rfl; have cb1 : w5.cell? ⟨bw, 1, none⟩ = some (.pointer none) := B5.out.at_ 1 _ rfl; clear hr hg)
  | (go_at_call 32; refine (HON.out _ _ H5.out).mono ?_; rintro e w11 ⟨rfl, hw11⟩; subst hw11)
  | ((with_reducible show wpList _ _ _ ({ dst := none, op := .store _ (.tmp 144) _, type := _, pos := _, after := _, guard := _ } :: _) _ _); refine wpl_store_c rfl 35 (.tmp 144) (.const (.pointer none)) rfl bw 1 (.pointer none) rfl rfl B5.out (by kernel_rfl) ?_ (hid (by show 1 < 3; decide)) (hid rfl); intro w12 hr hg; have H12 := hid (H5.out.put (g := bw) (by simp) HBW.out hg); have E12 := hid (E5.out.trans (ek_put hg (fun g hg => H5.out.lt g (by simp [hg])) HBG.out)); have B12 : Hid (Row w12 bw 37 (wC p none c)) := hid hr; clear hr hg))
 go_ret
 exact ⟨rfl, ⟨HBW.out, HBG.out, H12.out.tail, B12.out⟩, E12.out⟩
end Go.Proofs.YtafbeepacncooaaDoor
/-
  The law's does, whatever the act.
-/
namespace Go.Proofs.YtafbeepacncooaaDoor
open Go.RowKit
set_option maxRecDepth 10000

/-- an argument's act -/
structure ActOk (x : ActJ) (w0 : World) (A : Option Addr) (l : Nat) : Prop where
 e : x.e.fits
 n : x.n ≤ 9223372036854775807
 l : l = x.picks.length
 rd : Rd w0 w0.heap.size A (ints x.picks)
 p : ∀ y ∈ x.picks, y ≤ 9223372036854775807
 pn : x.picks.length ≤ 9223372036854775807
theorem does_some13 {Here : Sp → Jn → Prop} {Gone : Sp → Int → Prop} {w0 w : World} {bw p gs : Nat} {S : Sp} {J : Jn} {c : Int} {G : List Nat} {x : ActJ} {A : Option Addr} {l : Nat} (h : Wj w0 w bw p gs ⟨S, some J, c⟩ G) (hs : StepW Here Gone x c) (hI : InvW Here Gone ⟨S, some J, c⟩) (cap : Nat) (hx : ActOk x w0 A l) (hc : S.count ≤ 800000) :
  Calls Tryd.prog 11 #[.pointer (some ⟨bw, 0, none⟩), .agg (actC x A l cap)] w (WC w0 w bw p gs (doesJ ⟨S, some J, c⟩ x).1 G (doesJ ⟨S, some J, c⟩ x).2) := by
 obtain ⟨_, hI⟩ := hI
 have hI : Here S J := hI
 have hw := hs.wf hI
 have hon := hs.on hI
 unfold doesJ fixJ
 by_cases k6 : x.kind = 6
 ·
  have e : rawJ ⟨S, some J, c⟩ x = (⟨(S.fuse x.n).1, some J, c⟩, (S.fuse x.n).2) := by unfold rawJ; rw [if_pos k6]
  have ho : (S.fuse x.n).1.on = true := by unfold Sp.fuse; split <;> exact hon
  rw [e]
  simp only
  rw [if_pos ho]
  exact does_6jon h x A l cap _ _ ho k6 (hid fun W X hW => dd_fuse hW x.n hx.n rfl) hc
 ·
  by_cases k7 : x.kind = 7
  ·
   have e : rawJ ⟨S, some J, c⟩ x = (⟨S.cut.1, some J, c⟩, S.cut.2) := by unfold rawJ; rw [if_neg k6, if_pos k7]
   have ho : S.cut.1.on = false := by unfold Sp.cut; split <;> first | assumption | rfl
   rw [e]
   simp only
   rw [if_neg (by rw [ho]; simp)]
   exact does_7joff h x A l cap _ _ ho k7 (hid fun W X hW => dd_cut hW rfl) hc
  ·
   by_cases k8 : x.kind = 8
   ·
    have es : S.start x.picks = (S, 10) := by unfold Sp.start; rw [if_pos hon]
    have e : rawJ ⟨S, some J, c⟩ x = (⟨S, some J, c⟩, 10) := by unfold rawJ; rw [if_neg k6, if_neg k7, if_pos k8, es]; rfl
    rw [e]
    simp only
    rw [if_pos hon]
    exact does_8j h x A l cap 10 (by decide) hon k8 (hid fun W X hW => dd_start hW (by omega) x.picks A l cap hx.l hx.rd hx.p hx.pn es) hc
   ·
    by_cases k9 : x.kind = 9
    ·
     have e : rawJ ⟨S, some J, c⟩ x = (⟨(S.rot x.i x.a x.m).1, some J, c⟩, (S.rot x.i x.a x.m).2) := by unfold rawJ; rw [if_neg k6, if_neg k7, if_neg k8, if_pos k9]
     have ho : (S.rot x.i x.a x.m).1.on = true := by
      unfold Sp.rot
      repeat (first | exact hon | split)
     rw [e]
     simp only
     rw [if_pos ho]
     exact does_9jon h x A l cap _ _ ho k9 (hid fun W X hW => dd_rot hW (by omega) x.i x.a x.m rfl) hc
    ·
     have e : rawJ ⟨S, some J, c⟩ x = (⟨(callJ S J x).1, some (callJ S J x).2.1, c⟩, (callJ S J x).2.2) := by unfold rawJ; rw [if_neg k6, if_neg k7, if_neg k8, if_neg k9]
     rw [e]
     simp only
     unfold callJ
     by_cases k1 : x.kind = 1
     ·
      rw [if_pos k1]
      have HC : Hid (∀ W jp (X : List Nat), Jd w0 W jp p gs S J X → Calls Tryd.prog 19 #[.pointer (some ⟨jp, 0, none⟩), .agg x.e.cells] W (JC w0 W jp p gs (putJ S J x.e).1 (putJ S J x.e).2.1 X (.int .i64 (putJ S J x.e).2.2))) := hid fun W jp X hW => put_any13 hW hw x.e hx.e (by omega)
      cases ho : (putJ S J x.e).1.on
      ·
       rw [if_neg (by simp)]
       exact does_1off h x A l cap _ _ _ ho k1 HC hc
      ·
       rw [if_pos rfl]
       exact does_1on h x A l cap _ _ _ ho k1 HC hc
     ·
      rw [if_neg k1]
      by_cases k2 : x.kind = 2
      ·
       rw [if_pos k2]
       have HC : Hid (∀ W jp (X : List Nat), Jd w0 W jp p gs S J X → Calls Tryd.prog 20 #[.pointer (some ⟨jp, 0, none⟩), .int .i64 x.n] W (JC w0 W jp p gs (voidJ S J x.n).1 (voidJ S J x.n).2.1 X (.int .i64 (voidJ S J x.n).2.2))) := hid fun W jp X hW => void_any13 hW hw x.n (by omega)
       cases ho : (voidJ S J x.n).1.on
       ·
        rw [if_neg (by simp)]
        exact does_2off h x A l cap _ _ _ ho k2 HC hc
       ·
        rw [if_pos rfl]
        exact does_2on h x A l cap _ _ _ ho k2 HC hc
      ·
       rw [if_neg k2]
       by_cases k3 : x.kind = 3
       ·
        rw [if_pos k3, if_pos hon]
        exact does_3on h x A l cap S (shiftJ J x.n).1 (shiftJ J x.n).2 hon k3 (hid fun W jp X hW => shift_any13 hW hw x.n) hc
       ·
        rw [if_neg k3]
        by_cases k4 : x.kind = 4
        ·
         rw [if_pos k4, if_pos hon]
         exact does_4on h x A l cap S (readJn S J x.n).1 (readJn S J x.n).2.2 (readJn S J x.n).2.1 hon k4 (hid fun W jp X hW => read_any13 hW hw x.n (by omega)) hc
        ·
         rw [if_neg k4]
         by_cases k5 : x.kind = 5
         ·
          rw [if_pos k5]
          have HC : Hid (∀ W jp (X : List Nat), Jd w0 W jp p gs S J X → Calls Tryd.prog 16 #[.pointer (some ⟨jp, 0, none⟩)] W (JC w0 W jp p gs (scrubK S J 8).1 (scrubK S J 8).2.1 X (.int .i64 (scrubK S J 8).2.2))) := hid fun W jp X hW => scrubAll hW hw (by omega)
          cases ho : (scrubK S J 8).1.on
          ·
           rw [if_neg (by simp)]
           exact does_5off h x A l cap _ _ _ ho k5 HC hc
          ·
           rw [if_pos rfl]
           exact does_5on h x A l cap _ _ _ ho k5 HC hc
         ·
          rw [if_neg k5, if_pos hon]
          exact does_0jon h x A l cap hon k1 k2 k3 k4 k5 k6 k7 k8 k9 hc
theorem does_none13 {Here : Sp → Jn → Prop} {Gone : Sp → Int → Prop} {w0 w : World} {bw p gs : Nat} {S : Sp} {c : Int} {G : List Nat} {x : ActJ} {A : Option Addr} {l : Nat} (h : Wj w0 w bw p gs ⟨S, none, c⟩ G) (hs : StepW Here Gone x c) (hI : InvW Here Gone ⟨S, none, c⟩) (cap : Nat) (hx : ActOk x w0 A l) (hc : S.count ≤ 700000) :
  Calls Tryd.prog 11 #[.pointer (some ⟨bw, 0, none⟩), .agg (actC x A l cap)] w (WC w0 w bw p gs (doesJ ⟨S, none, c⟩ x).1 G (doesJ ⟨S, none, c⟩ x).2) := by
 obtain ⟨hI, h0, h1⟩ := hI
 have hI : Gone S c := hI
 have h0 : 0 ≤ c := h0
 have h1 : c ≤ 72057594037927927 := h1
 have hon := hs.off hI
 have hz : ∀ S2 : Sp, (if S2.on = true then (none : Option Jn) else none) = none := fun S2 => by split <;> rfl
 unfold doesJ fixJ
 by_cases k6 : x.kind = 6
 ·
  have e : rawJ ⟨S, none, c⟩ x = (⟨(S.fuse x.n).1, none, c⟩, (S.fuse x.n).2) := by unfold rawJ; rw [if_pos k6]
  have ho : (S.fuse x.n).1.on = false := by unfold Sp.fuse; split <;> exact hon
  rw [e]
  simp only
  rw [hz]
  exact does_6noff h x A l cap _ _ ho k6 (hid fun W X hW => dd_fuse hW x.n hx.n rfl) (by omega)
 ·
  by_cases k7 : x.kind = 7
  ·
   have e : rawJ ⟨S, none, c⟩ x = (⟨S.cut.1, none, c⟩, S.cut.2) := by unfold rawJ; rw [if_neg k6, if_pos k7]
   have ho : S.cut.1.on = false := by unfold Sp.cut; split <;> first | assumption | rfl
   rw [e]
   simp only
   rw [hz]
   exact does_7noff h x A l cap _ _ ho k7 (hid fun W X hW => dd_cut hW rfl) (by omega)
  ·
   by_cases k8 : x.kind = 8
   ·
    obtain ⟨es, ho⟩ := hs.start hI h0 h1
    have hsc : (S.start x.picks).1.count = S.count := by unfold Sp.start; split <;> rfl
    have HC : Hid (∀ W (X : List Nat), Dd w0 W p gs S X → Calls Tryd.prog 30 #[.pointer (some ⟨p, 0, none⟩), .slice A l cap] W (DC w0 W p gs (S.start x.picks).1 X (.int .i64 0))) := hid fun W X hW => dd_start hW (by omega) x.picks A l cap hx.l hx.rd hx.p hx.pn (Prod.ext rfl es)
    have e : rawJ ⟨S, none, c⟩ x = (⟨(openJ (S.start x.picks).1 c).1, (openJ (S.start x.picks).1 c).2.1, c⟩, (openJ (S.start x.picks).1 c).2.2) := by unfold rawJ; rw [if_neg k6, if_neg k7, if_pos k8]; simp only; rw [if_pos es]
    have HO : Hid (∀ W (X : List Nat), Dd w0 W p gs (S.start x.picks).1 X → Calls Tryd.prog 18 #[.pointer (some ⟨p, 0, none⟩), .int .i64 c] W (OR w0 W p gs X (openJ (S.start x.picks).1 c))) := hid fun W X hW => openj_any hW c (by omega)
    rw [e]
    have eo : openJ (S.start x.picks).1 c = if (openK (S.start x.picks).1 c 8).2.2 = 0 then ((openK (S.start x.picks).1 c 8).1, some ⟨c, (openK (S.start x.picks).1 c 8).2.1⟩, 0) else ((openK (S.start x.picks).1 c 8).1, none, (openK (S.start x.picks).1 c 8).2.2) := by unfold openJ; rw [if_neg (by omega)]
    rcases ho with ⟨S2, X2, e2, h2⟩ | ⟨S2, X2, e2, h2⟩
    ·
     rw [e2] at eo
     simp only at eo
     rw [if_pos trivial] at eo
     rw [eo] at HO ⊢
     have ho2 := hs.on h2
     simp only
     rw [if_pos ho2]
     exact does_8nokon h x A l cap _ S2 ⟨c, X2⟩ 0 ho2 k8 HC HO (by omega)
    ·
     rw [e2] at eo
     simp only at eo
     rw [if_neg (by decide)] at eo
     rw [eo] at HO ⊢
     have ho2 := hs.off h2
     simp only
     rw [hz]
     exact does_8neroff h x A l cap _ S2 6 ho2 k8 HC HO (by omega)
   ·
    by_cases k9 : x.kind = 9
    ·
     have e : rawJ ⟨S, none, c⟩ x = (⟨(S.rot x.i x.a x.m).1, none, c⟩, (S.rot x.i x.a x.m).2) := by unfold rawJ; rw [if_neg k6, if_neg k7, if_neg k8, if_pos k9]
     have ho : (S.rot x.i x.a x.m).1.on = false := by
      unfold Sp.rot
      repeat (first | exact hon | split)
     rw [e]
     simp only
     rw [hz]
     exact does_9noff h x A l cap _ _ ho k9 (hid fun W X hW => dd_rot hW (by omega) x.i x.a x.m rfl) (by omega)
    ·
     have e : rawJ ⟨S, none, c⟩ x = (⟨S, none, c⟩, 0) := by unfold rawJ; rw [if_neg k6, if_neg k7, if_neg k8, if_neg k9]
     rw [e]
     simp only
     rw [hz]
     by_cases kl : x.kind < 6
     ·
      exact does_idle h x A l cap kl (by omega)
     ·
      exact does_0noff h x A l cap hon (by omega) (by omega) (by omega) (by omega) (by omega) k6 k7 k8 k9 kl (by omega)
theorem does_any13 {Here : Sp → Jn → Prop} {Gone : Sp → Int → Prop} {w0 w : World} {bw p gs : Nat} {v : Wd} {G : List Nat} {x : ActJ} {A : Option Addr} {l : Nat} (h : Wj w0 w bw p gs v G) (hs : StepW Here Gone x v.c) (hI : InvW Here Gone v) (cap : Nat) (hx : ActOk x w0 A l) (hc : v.S.count ≤ 700000) :
  Calls Tryd.prog 11 #[.pointer (some ⟨bw, 0, none⟩), .agg (actC x A l cap)] w (WC w0 w bw p gs (doesJ v x).1 G (doesJ v x).2) := by
 obtain ⟨S, j, c⟩ := v
 cases j with
 | some J => exact does_some13 h hs hI cap hx (Nat.le_trans hc (by decide))
 | none => exact does_none13 h hs hI cap hx hc
/-! ### how far the steps go -/
theorem fuse_count (S : Sp) (n : Int) : (S.fuse n).1.count = S.count := by unfold Sp.fuse; split <;> rfl
theorem cut_count (S : Sp) : S.cut.1.count = S.count := by unfold Sp.cut; split <;> rfl
theorem start_count (S : Sp) (l : List Int) : (S.start l).1.count = S.count := by unfold Sp.start; split <;> rfl
theorem rot_count (S : Sp) (i a m : Int) : (S.rot i a m).1.count = S.count := by
 unfold Sp.rot
 repeat (first | rfl | split)
theorem openJ_count (S : Sp) (c : Int) : (openJ S c).1.count ≤ S.count + 32 := by
 have := openK_count S c 8 (Nat.le_refl _)
 unfold openJ
 split
 ·
  simp
 ·
  split <;> simp only <;> omega
theorem callJ_count (S : Sp) (J : Jn) (hw : JWf J) (x : ActJ) : (callJ S J x).1.count ≤ S.count + 32 := by
 unfold callJ
 split
 ·
  have h1 := layL_count (putP (J.item x.e.opn) x.e) S
  have h2 := putP_len (J.item x.e.opn) x.e
  unfold putJ
  split
  ·
   simp
  ·
   split
   ·
    simp
   ·
    split
    ·
     simp
    ·
     split <;> simp only <;> omega
 ·
  split
  ·
   have h1 := layL_count (voidP (J.item x.n) x.n) S
   have h2 : (voidP (J.item x.n) x.n).length ≤ 2 := by
    unfold voidP
    split
    ·
     simp
    ·
     split <;> simp
   unfold voidJ
   split
   ·
    simp
   ·
    split
    ·
     simp
    ·
     split <;> simp only <;> omega
  ·
   split
   ·
    simp
   ·
    split
    ·
     simp
    ·
     split
     ·
      exact scrubK_count S J hw.len 8 (Nat.le_refl _)
     ·
      simp
theorem doesJ_count {v : Wd} (hw : ∀ J, v.j = some J → JWf J) (x : ActJ) : (doesJ v x).1.S.count ≤ v.S.count + 32 := by
 obtain ⟨S, j, c⟩ := v
 show (rawJ ⟨S, j, c⟩ x).1.S.count ≤ S.count + 32
 unfold rawJ
 split
 ·
  simp only; rw [fuse_count]; omega
 ·
  split
  ·
   simp only; rw [cut_count]; omega
  ·
   split
   ·
    split
    ·
     have h1 := openJ_count (S.start x.picks).1 c
     rw [start_count] at h1
     exact h1
    ·
     simp only; rw [start_count]; omega
   ·
    split
    ·
     simp only; rw [rot_count]; omega
    ·
     cases j with
     | none => simp
     | some J => exact callJ_count S J (hw J rfl) x
end Go.Proofs.YtafbeepacncooaaDoor
