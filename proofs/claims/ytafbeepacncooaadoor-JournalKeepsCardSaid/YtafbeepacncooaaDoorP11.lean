/-
  The walk of the law's does: what happens to the disk.
-/
import Derived.Test.YtafbeepacncooaaDoorP09
namespace Go.Proofs.YtafbeepacncooaaDoor
open Go.RowKit
set_option maxRecDepth 10000

set_option maxHeartbeats 4000000 in
theorem does_6jon {w0 w : World} {bw p gs : Nat} {S : Sp} {J : Jn} {c : Int} {G : List Nat} (h : Wj w0 w bw p gs ⟨S, some J, c⟩ G) (x : ActJ) (A : Option Addr) (l cap : Nat) (S2 : Sp) (y : Int) (hon : S2.on = true) (hk : x.kind = 6) (HC : Hid (∀ W (X : List Nat), Dd w0 W p gs S X → Calls Tryd.prog 15 #[.pointer (some ⟨p, 0, none⟩), .int .i64 x.n] W (DC w0 W p gs S2 X (.int .i64 y)))) (_hc : S.count ≤ 800000) :
  Calls Tryd.prog 11 #[.pointer (some ⟨bw, 0, none⟩), .agg (actC x A l cap)] w (WC w0 w bw p gs ⟨S2, some J, J.c⟩ G y) := by
 obtain ⟨hbw0, hbwG, h⟩ := h
 obtain ⟨jp, h, hrow⟩ := h
 have HRA : Hid (Row (w.alloc (.cells (actC x A l cap) 32)) w.heap.size 32 (actC x A l cap).toList) := hid (Row.new _ _ _)
 have HJ : Hid (Jd w0 (w.alloc (.cells (actC x A l cap) 32)) jp p gs S J (w.heap.size :: bw :: G)) := hid (h.alloc _).1
 have HK : Hid (Ek w (w.alloc (.cells (actC x A l cap) 32)) (bw :: G)) := hid (h.alloc _).2
 have HRB : Hid (Row (w.alloc (.cells (actC x A l cap) 32)) bw 37 (wC p (some jp) c)) := hid (HK.out.row hrow (by simp))
 have ca0 : (w.alloc (.cells (actC x A l cap) 32)).cell? ⟨w.heap.size, 0, none⟩ = some (.int .i64 x.kind) := HRA.out.at_ 0 _ rfl
 have cb0 : (w.alloc (.cells (actC x A l cap) 32)).cell? ⟨bw, 0, none⟩ = some (.pointer (some ⟨p, 0, none⟩)) := HRB.out.at_ 0 _ rfl
 have cb1 : (w.alloc (.cells (actC x A l cap) 32)).cell? ⟨bw, 1, none⟩ = some (.pointer (some ⟨jp, 0, none⟩)) := HRB.out.at_ 1 _ rfl
 have HBW := hid hbw0
 have HBG := hid hbwG
 have HNE : Hid (w.heap.size ≠ bw) := hid (by have := hrow.lt; omega)
 rw [hk] at ca0
 have HSUB : Hid (∀ g ∈ bw :: G, g ∈ jp :: w.heap.size :: bw :: G) := hid (by intro g hg; simp only [List.mem_cons] at hg ⊢; exact .inr (.inr hg))
 have HON : Hid (∀ W (X : List Nat), Dd w0 W p gs S2 X → Calls Tryd.prog 32 #[.pointer (some ⟨p, 0, none⟩)] W fun e w' => e = .returned (.bool true) ∧ W = w') := hid fun W X hW => by
  have := dd_on hW
  rw [hon] at this
  exact this
 clear h hrow hbw0 hbwG hk _hc hon
 go_enter Tryd.func11, Tryd.ntmps11
 go_wp2_with fail
 refine name_wp (fun w1 hw1 => ?_)
 have H1 : Hid (Jd w0 w1 jp p gs S J (w.heap.size :: bw :: G)) := hid (by rw [hw1]; exact HJ.out)
 have E1 : Hid (Ek w w1 (bw :: G)) := hid (by rw [hw1]; exact HK.out)
 have A1 : Hid (Row w1 w.heap.size 32 (actC x A l cap).toList) := hid (by rw [hw1]; exact HRA.out)
 have B1 : Hid (Row w1 bw 37 (wC p (some jp) c)) := hid (by rw [hw1]; exact HRB.out)
 clear hw1 ca0 cb0 cb1
 try simp only [Act.put, U1,U2,U3,U4,U5,U6]
 refine wp_region_held_drew (S := fun W => (∃ S J, Jd w0 W jp p gs S J (w.heap.size :: bw :: G)) ∧ Ek w1 W (w.heap.size :: bw :: G)) (by kernel_rfl) (⟨⟨_, _, H1.out.drew⟩, fun _ _ => rfl⟩) (fun hH => ?_)
 refine tk_ (i := 0) (v := .pointer (some ⟨bw, 0, none⟩)) rfl (Or.inl ⟨by kernel_rfl, fun w' _ => by kernel_rfl⟩) hH ?_
 simp only [Act.put, U1, U3, U4, U5, U6]
 refine tk_ (i := 1) (v := .pointer (some ⟨bw, 0, none⟩)) rfl (Or.inl ⟨by rfl, fun w' hw' => by clear hw'; go_simp⟩) hH ?_
 simp only [Act.put, U1,U2,U3,U4,U5,U6]
 refine tk_ (i := 2) (v := .pointer (some ⟨bw, 0, none⟩)) rfl (Or.inl ⟨by rfl, fun w' hw' => by clear hw'; go_simp⟩) hH ?_
 simp only [Act.put, U1,U2,U3,U4,U5,U6]
 refine tk_ (i := 3) (v := .pointer (some ⟨p, 0, none⟩)) rfl (Or.inl ⟨by rfl, fun w' hw' => by have h := (hw'.2.row B1.out (by simp)).at_ 0 (.pointer (some ⟨p, 0, none⟩)) rfl; go_simp⟩) hH ?_
 simp only [Act.put, U1,U2,U3,U4,U5,U6]
 refine tk_ (i := 4) (v := .pointer (some ⟨w.heap.size, 10, none⟩)) rfl (Or.inl ⟨by rfl, fun w' hw' => by clear hw'; go_simp⟩) hH ?_
 simp only [Act.put, U1,U2,U3,U4,U5,U6]
 refine tk_ (i := 5) (v := .int .i64 x.n) rfl (Or.inl ⟨by rfl, fun w' hw' => by have h := (hw'.2.row A1.out (by simp)).at_ 10 (.int .i64 x.n) rfl; go_simp⟩) hH ?_
 simp only [Act.put, U1,U2,U3,U4,U5,U6]
 refine wpAnyH_ready (rs := [6]) (by kernel_rfl) (by simp) ?_
 refine AllReadyH.cons rfl (fun K hK => ?_) AllReadyH.nil
 go_simp
 go_at_call 15
 refine (H1.out.drew.callD (fun hD => HC.out _ _ hD)).mono ?_
 rintro e w2 ⟨rfl, h2, k2⟩
 go_wp2_with fail
 refine hK.out _ _ (⟨⟨_, _, h2⟩, hH.2.trans k2⟩) (fun hH => ?_)
 clear hK K
 try simp only [Act.put, U1,U2,U3,U4,U5,U6]
 refine tk_ (i := 7) (v := .int .i64 y) rfl (Or.inl ⟨by kernel_rfl, fun w' _ => by kernel_rfl⟩) hH ?_
 simp only [Act.put, U1,U2,U3,U4,U5,U6]
 refine wpAnyH_done (by kernel_rfl) ?_ _
 try simp only [Act.put, U1,U2,U3,U4,U5,U6]
 have H2 := hid h2
 have K2 : Hid (Ek w1 w2 (w.heap.size :: bw :: G)) := hid hH.2
 have E2 := hid (E1.out.trans K2.out.tail)
 have B2 := hid (K2.out.row B1.out (by simp))
 have cb0 : w2.cell? ⟨bw, 0, none⟩ = some (.pointer (some ⟨p, 0, none⟩)) := B2.out.at_ 0 _ rfl
 have cb1 : w2.cell? ⟨bw, 1, none⟩ = some (.pointer (some ⟨jp, 0, none⟩)) := B2.out.at_ 1 _ rfl
 clear hH
 go_wp2_with (first
  | (go_at_call 22; refine (check_any H2.out).mono ?_; rintro e w9 ⟨rfl, hw9⟩; subst hw9)
  | ((with_reducible show wpList _ _ _ ({ dst := none, op := .store _ (.tmp 135) _, type := _, pos := _, after := _, guard := _ } :: _) _ _); refine wpl_store_c rfl 3 (.tmp 135) (.tmp 133) rfl bw 2 (.int .i64 J.c) rfl rfl B2.out (by kernel_rfl) ?_ (hid (by show 2 < 3; decide)) (hid rfl); intro w10 hr hg; have H10 := hid (H2.out.put (g := bw) (by simp) HBW.out hg); have E10 := hid (E2.out.tail.trans (ek_put hg (fun g hg => H2.out.lt g (by simp [hg])) HBG.out)); have B10 : Hid (Row w10 bw 37 (wC p (some jp) J.c)) := hid hr; have cb0 : w10.cell? ⟨bw, 0, none⟩ = some (.pointer (some ⟨p, 0, none⟩)) := B10.out.at_ 0 _ rfl; clear hr hg)
  | (go_at_call 32; refine (HON.out _ _ H10.out.1).mono ?_; rintro e w11 ⟨rfl, hw11⟩; subst hw11))
 go_ret
 exact ⟨rfl, ⟨HBW.out, HBG.out, jp, H10.out.tail, B10.out⟩, E10.out⟩
set_option maxHeartbeats 4000000 in
theorem does_6noff {w0 w : World} {bw p gs : Nat} {S : Sp} {c : Int} {G : List Nat} (h : Wj w0 w bw p gs ⟨S, none, c⟩ G) (x : ActJ) (A : Option Addr) (l cap : Nat) (S2 : Sp) (y : Int) (hon : S2.on = false) (hk : x.kind = 6) (HC : Hid (∀ W (X : List Nat), Dd w0 W p gs S X → Calls Tryd.prog 15 #[.pointer (some ⟨p, 0, none⟩), .int .i64 x.n] W (DC w0 W p gs S2 X (.int .i64 y)))) (_hc : S.count ≤ 800000) :
  Calls Tryd.prog 11 #[.pointer (some ⟨bw, 0, none⟩), .agg (actC x A l cap)] w (WC w0 w bw p gs ⟨S2, none, c⟩ G y) := by
 obtain ⟨hbw0, hbwG, h⟩ := h
 obtain ⟨h, hrow⟩ := h
 have HRA : Hid (Row (w.alloc (.cells (actC x A l cap) 32)) w.heap.size 32 (actC x A l cap).toList) := hid (Row.new _ _ _)
 have hb0 := (Below.refl w.heap.size w).alloc (Nat.le_refl _) (.cells (actC x A l cap) 32)
 have HJ : Hid (Dd w0 (w.alloc (.cells (actC x A l cap) 32)) p gs S (w.heap.size :: bw :: G)) := hid (h.add hb0 (Nat.le_refl _) (by simp))
 have HK : Hid (Ek w (w.alloc (.cells (actC x A l cap) 32)) (bw :: G)) := hid (h.new hb0).2
 have HRB : Hid (Row (w.alloc (.cells (actC x A l cap) 32)) bw 37 (wC p none c)) := hid (HK.out.row hrow (by simp))
 have ca0 : (w.alloc (.cells (actC x A l cap) 32)).cell? ⟨w.heap.size, 0, none⟩ = some (.int .i64 x.kind) := HRA.out.at_ 0 _ rfl
 have cb0 : (w.alloc (.cells (actC x A l cap) 32)).cell? ⟨bw, 0, none⟩ = some (.pointer (some ⟨p, 0, none⟩)) := HRB.out.at_ 0 _ rfl
 have cb1 : (w.alloc (.cells (actC x A l cap) 32)).cell? ⟨bw, 1, none⟩ = some (.pointer none) := HRB.out.at_ 1 _ rfl
 have HBW := hid hbw0
 have HBG := hid hbwG
 have HNE : Hid (w.heap.size ≠ bw) := hid (by have := hrow.lt; omega)
 rw [hk] at ca0
 have HON : Hid (∀ W (X : List Nat), Dd w0 W p gs S2 X → Calls Tryd.prog 32 #[.pointer (some ⟨p, 0, none⟩)] W fun e w' => e = .returned (.bool false) ∧ W = w') := hid fun W X hW => by
  have := dd_on hW
  rw [hon] at this
  exact this
 clear h hrow hbw0 hbwG hk _hc hon
 go_enter Tryd.func11, Tryd.ntmps11
 go_wp2_with fail
 refine name_wp (fun w1 hw1 => ?_)
 have H1 : Hid (Dd w0 w1 p gs S (w.heap.size :: bw :: G)) := hid (by rw [hw1]; exact HJ.out)
 have E1 : Hid (Ek w w1 (bw :: G)) := hid (by rw [hw1]; exact HK.out)
 have A1 : Hid (Row w1 w.heap.size 32 (actC x A l cap).toList) := hid (by rw [hw1]; exact HRA.out)
 have B1 : Hid (Row w1 bw 37 (wC p none c)) := hid (by rw [hw1]; exact HRB.out)
 clear hw1 ca0 cb0 cb1
 try simp only [Act.put, U1,U2,U3,U4,U5,U6]
 refine wp_region_held_drew (S := fun W => (∃ S, Dd w0 W p gs S (w.heap.size :: bw :: G)) ∧ Ek w1 W (w.heap.size :: bw :: G)) (by kernel_rfl) (⟨⟨_, (H1.out.new (w' := w1.drew) ⟨rfl, rfl, rfl, Nat.le_refl _, fun _ _ => rfl⟩).1⟩, fun _ _ => rfl⟩) (fun hH => ?_)
 refine tk_ (i := 0) (v := .pointer (some ⟨bw, 0, none⟩)) rfl (Or.inl ⟨by kernel_rfl, fun w' _ => by kernel_rfl⟩) hH ?_
 simp only [Act.put, U1, U3, U4, U5, U6]
 refine tk_ (i := 1) (v := .pointer (some ⟨bw, 0, none⟩)) rfl (Or.inl ⟨by rfl, fun w' hw' => by clear hw'; go_simp⟩) hH ?_
 simp only [Act.put, U1,U2,U3,U4,U5,U6]
 refine tk_ (i := 2) (v := .pointer (some ⟨bw, 0, none⟩)) rfl (Or.inl ⟨by rfl, fun w' hw' => by clear hw'; go_simp⟩) hH ?_
 simp only [Act.put, U1,U2,U3,U4,U5,U6]
 refine tk_ (i := 3) (v := .pointer (some ⟨p, 0, none⟩)) rfl (Or.inl ⟨by rfl, fun w' hw' => by have h := (hw'.2.row B1.out (by simp)).at_ 0 (.pointer (some ⟨p, 0, none⟩)) rfl; go_simp⟩) hH ?_
 simp only [Act.put, U1,U2,U3,U4,U5,U6]
 refine tk_ (i := 4) (v := .pointer (some ⟨w.heap.size, 10, none⟩)) rfl (Or.inl ⟨by rfl, fun w' hw' => by clear hw'; go_simp⟩) hH ?_
 simp only [Act.put, U1,U2,U3,U4,U5,U6]
 refine tk_ (i := 5) (v := .int .i64 x.n) rfl (Or.inl ⟨by rfl, fun w' hw' => by have h := (hw'.2.row A1.out (by simp)).at_ 10 (.int .i64 x.n) rfl; go_simp⟩) hH ?_
 simp only [Act.put, U1,U2,U3,U4,U5,U6]
 refine wpAnyH_ready (rs := [6]) (by kernel_rfl) (by simp) ?_
 refine AllReadyH.cons rfl (fun K hK => ?_) AllReadyH.nil
 go_simp
 go_at_call 15
 refine (HC.out _ _ (H1.out.new (w' := w1.drew) ⟨rfl, rfl, rfl, Nat.le_refl _, fun _ _ => rfl⟩).1).mono ?_
 rintro e w2 ⟨rfl, h2, k2⟩
 go_wp2_with fail
 refine hK.out _ _ (⟨⟨_, h2⟩, hH.2.trans k2⟩) (fun hH => ?_)
 clear hK K
 try simp only [Act.put, U1,U2,U3,U4,U5,U6]
 refine tk_ (i := 7) (v := .int .i64 y) rfl (Or.inl ⟨by kernel_rfl, fun w' _ => by kernel_rfl⟩) hH ?_
 simp only [Act.put, U1,U2,U3,U4,U5,U6]
 refine wpAnyH_done (by kernel_rfl) ?_ _
 try simp only [Act.put, U1,U2,U3,U4,U5,U6]
 have H2 := hid h2
 have K2 : Hid (Ek w1 w2 (w.heap.size :: bw :: G)) := hid hH.2
 have E2 := hid (E1.out.trans K2.out.tail)
 have B2 := hid (K2.out.row B1.out (by simp))
 have cb0 : w2.cell? ⟨bw, 0, none⟩ = some (.pointer (some ⟨p, 0, none⟩)) := B2.out.at_ 0 _ rfl
 have cb1 : w2.cell? ⟨bw, 1, none⟩ = some (.pointer none) := B2.out.at_ 1 _ rfl
 clear hH
 go_wp2_with (first
  | (go_at_call 32; refine (HON.out _ _ H2.out).mono ?_; rintro e w11 ⟨rfl, hw11⟩; subst hw11)
  | ((with_reducible show wpList _ _ _ ({ dst := none, op := .store _ (.tmp 144) _, type := _, pos := _, after := _, guard := _ } :: _) _ _); refine wpl_store_c rfl 35 (.tmp 144) (.const (.pointer none)) rfl bw 1 (.pointer none) rfl rfl B2.out (by kernel_rfl) ?_ (hid (by show 1 < 3; decide)) (hid rfl); intro w12 hr hg; have H12 := hid (H2.out.put (g := bw) (by simp) HBW.out hg); have E12 := hid (E2.out.tail.trans (ek_put hg (fun g hg => H2.out.lt g (by simp [hg])) HBG.out)); have B12 : Hid (Row w12 bw 37 (wC p none c)) := hid hr; clear hr hg))
 go_ret
 exact ⟨rfl, ⟨HBW.out, HBG.out, H12.out.tail, B12.out⟩, E12.out⟩
set_option maxHeartbeats 4000000 in
theorem does_7joff {w0 w : World} {bw p gs : Nat} {S : Sp} {J : Jn} {c : Int} {G : List Nat} (h : Wj w0 w bw p gs ⟨S, some J, c⟩ G) (x : ActJ) (A : Option Addr) (l cap : Nat) (S2 : Sp) (y : Int) (hon : S2.on = false) (hk : x.kind = 7) (HC : Hid (∀ W (X : List Nat), Dd w0 W p gs S X → Calls Tryd.prog 29 #[.pointer (some ⟨p, 0, none⟩)] W (DC w0 W p gs S2 X (.int .i64 y)))) (_hc : S.count ≤ 800000) :
  Calls Tryd.prog 11 #[.pointer (some ⟨bw, 0, none⟩), .agg (actC x A l cap)] w (WC w0 w bw p gs ⟨S2, none, J.c⟩ G y) := by
 obtain ⟨hbw0, hbwG, h⟩ := h
 obtain ⟨jp, h, hrow⟩ := h
 have HRA : Hid (Row (w.alloc (.cells (actC x A l cap) 32)) w.heap.size 32 (actC x A l cap).toList) := hid (Row.new _ _ _)
 have HJ : Hid (Jd w0 (w.alloc (.cells (actC x A l cap) 32)) jp p gs S J (w.heap.size :: bw :: G)) := hid (h.alloc _).1
 have HK : Hid (Ek w (w.alloc (.cells (actC x A l cap) 32)) (bw :: G)) := hid (h.alloc _).2
 have HRB : Hid (Row (w.alloc (.cells (actC x A l cap) 32)) bw 37 (wC p (some jp) c)) := hid (HK.out.row hrow (by simp))
 have ca0 : (w.alloc (.cells (actC x A l cap) 32)).cell? ⟨w.heap.size, 0, none⟩ = some (.int .i64 x.kind) := HRA.out.at_ 0 _ rfl
 have cb0 : (w.alloc (.cells (actC x A l cap) 32)).cell? ⟨bw, 0, none⟩ = some (.pointer (some ⟨p, 0, none⟩)) := HRB.out.at_ 0 _ rfl
 have cb1 : (w.alloc (.cells (actC x A l cap) 32)).cell? ⟨bw, 1, none⟩ = some (.pointer (some ⟨jp, 0, none⟩)) := HRB.out.at_ 1 _ rfl
 have HBW := hid hbw0
 have HBG := hid hbwG
 have HNE : Hid (w.heap.size ≠ bw) := hid (by have := hrow.lt; omega)
 rw [hk] at ca0
 have HSUB : Hid (∀ g ∈ bw :: G, g ∈ jp :: w.heap.size :: bw :: G) := hid (by intro g hg; simp only [List.mem_cons] at hg ⊢; exact .inr (.inr hg))
 have HON : Hid (∀ W (X : List Nat), Dd w0 W p gs S2 X → Calls Tryd.prog 32 #[.pointer (some ⟨p, 0, none⟩)] W fun e w' => e = .returned (.bool false) ∧ W = w') := hid fun W X hW => by
  have := dd_on hW
  rw [hon] at this
  exact this
 clear h hrow hbw0 hbwG hk _hc hon
 go_enter Tryd.func11, Tryd.ntmps11
 go_wp2_with (first
  | (go_at_call 29; refine (HJ.out.callD (fun hD => HC.out _ _ hD)).mono ?_; rintro e w2 ⟨rfl, q, k⟩; have H2 := hid q; have E2 := hid (HK.out.trans k.tail); have B2 := hid (k.row HRB.out (by simp)); have cb0 : w2.cell? ⟨bw, 0, none⟩ = some (.pointer (some ⟨p, 0, none⟩)) := B2.out.at_ 0 _ rfl; have cb1 : w2.cell? ⟨bw, 1, none⟩ = some (.pointer (some ⟨jp, 0, none⟩)) := B2.out.at_ 1 _ rfl; clear q k)
  | (go_at_call 22; refine (check_any H2.out).mono ?_; rintro e w9 ⟨rfl, hw9⟩; subst hw9)
  | ((with_reducible show wpList _ _ _ ({ dst := none, op := .store _ (.tmp 135) _, type := _, pos := _, after := _, guard := _ } :: _) _ _); refine wpl_store_c rfl 3 (.tmp 135) (.tmp 133) rfl bw 2 (.int .i64 J.c) rfl rfl B2.out (by kernel_rfl) ?_ (hid (by show 2 < 3; decide)) (hid rfl); intro w10 hr hg; have H10 := hid (H2.out.put (g := bw) (by simp) HBW.out hg); have E10 := hid (E2.out.tail.trans (ek_put hg (fun g hg => H2.out.lt g (by simp [hg])) HBG.out)); have B10 : Hid (Row w10 bw 37 (wC p (some jp) J.c)) := hid hr; have cb0 : w10.cell? ⟨bw, 0, none⟩ = some (.pointer (some ⟨p, 0, none⟩)) := B10.out.at_ 0 _ rfl; clear hr hg)
  | (go_at_call 32; refine (HON.out _ _ H10.out.1).mono ?_; rintro e w11 ⟨rfl, hw11⟩; subst hw11)
  | ((with_reducible show wpList _ _ _ ({ dst := none, op := .store _ (.tmp 144) _, type := _, pos := _, after := _, guard := _ } :: _) _ _); refine wpl_store_c rfl 35 (.tmp 144) (.const (.pointer none)) rfl bw 1 (.pointer none) rfl rfl B10.out (by kernel_rfl) ?_ (hid (by show 1 < 3; decide)) (hid rfl); intro w12 hr hg; have H12 := hid (H10.out.put (g := bw) (by simp) HBW.out hg); have E12 := hid (E10.out.trans (ek_put hg (fun g hg => H10.out.lt g (by simp [hg])) HBG.out)); have B12 : Hid (Row w12 bw 37 (wC p none J.c)) := hid hr; clear hr hg))
 go_ret
 exact ⟨rfl, ⟨HBW.out, HBG.out, H12.out.1.sub HSUB.out, B12.out⟩, E12.out⟩
set_option maxHeartbeats 4000000 in
theorem does_7noff {w0 w : World} {bw p gs : Nat} {S : Sp} {c : Int} {G : List Nat} (h : Wj w0 w bw p gs ⟨S, none, c⟩ G) (x : ActJ) (A : Option Addr) (l cap : Nat) (S2 : Sp) (y : Int) (hon : S2.on = false) (hk : x.kind = 7) (HC : Hid (∀ W (X : List Nat), Dd w0 W p gs S X → Calls Tryd.prog 29 #[.pointer (some ⟨p, 0, none⟩)] W (DC w0 W p gs S2 X (.int .i64 y)))) (_hc : S.count ≤ 800000) :
  Calls Tryd.prog 11 #[.pointer (some ⟨bw, 0, none⟩), .agg (actC x A l cap)] w (WC w0 w bw p gs ⟨S2, none, c⟩ G y) := by
 obtain ⟨hbw0, hbwG, h⟩ := h
 obtain ⟨h, hrow⟩ := h
 have HRA : Hid (Row (w.alloc (.cells (actC x A l cap) 32)) w.heap.size 32 (actC x A l cap).toList) := hid (Row.new _ _ _)
 have hb0 := (Below.refl w.heap.size w).alloc (Nat.le_refl _) (.cells (actC x A l cap) 32)
 have HJ : Hid (Dd w0 (w.alloc (.cells (actC x A l cap) 32)) p gs S (w.heap.size :: bw :: G)) := hid (h.add hb0 (Nat.le_refl _) (by simp))
 have HK : Hid (Ek w (w.alloc (.cells (actC x A l cap) 32)) (bw :: G)) := hid (h.new hb0).2
 have HRB : Hid (Row (w.alloc (.cells (actC x A l cap) 32)) bw 37 (wC p none c)) := hid (HK.out.row hrow (by simp))
 have ca0 : (w.alloc (.cells (actC x A l cap) 32)).cell? ⟨w.heap.size, 0, none⟩ = some (.int .i64 x.kind) := HRA.out.at_ 0 _ rfl
 have cb0 : (w.alloc (.cells (actC x A l cap) 32)).cell? ⟨bw, 0, none⟩ = some (.pointer (some ⟨p, 0, none⟩)) := HRB.out.at_ 0 _ rfl
 have cb1 : (w.alloc (.cells (actC x A l cap) 32)).cell? ⟨bw, 1, none⟩ = some (.pointer none) := HRB.out.at_ 1 _ rfl
 have HBW := hid hbw0
 have HBG := hid hbwG
 have HNE : Hid (w.heap.size ≠ bw) := hid (by have := hrow.lt; omega)
 rw [hk] at ca0
 have HON : Hid (∀ W (X : List Nat), Dd w0 W p gs S2 X → Calls Tryd.prog 32 #[.pointer (some ⟨p, 0, none⟩)] W fun e w' => e = .returned (.bool false) ∧ W = w') := hid fun W X hW => by
  have := dd_on hW
  rw [hon] at this
  exact this
 clear h hrow hbw0 hbwG hk _hc hon
 go_enter Tryd.func11, Tryd.ntmps11
 go_wp2_with (first
  | (go_at_call 29; refine (HC.out _ _ HJ.out).mono ?_; rintro e w2 ⟨rfl, q, k⟩; have H2 := hid q; have E2 := hid (HK.out.trans k.tail); have B2 := hid (k.row HRB.out (by simp)); have cb0 : w2.cell? ⟨bw, 0, none⟩ = some (.pointer (some ⟨p, 0, none⟩)) := B2.out.at_ 0 _ rfl; have cb1 : w2.cell? ⟨bw, 1, none⟩ = some (.pointer none) := B2.out.at_ 1 _ rfl; clear q k)
  | (go_at_call 32; refine (HON.out _ _ H2.out).mono ?_; rintro e w11 ⟨rfl, hw11⟩; subst hw11)
  | ((with_reducible show wpList _ _ _ ({ dst := none, op := .store _ (.tmp 144) _, type := _, pos := _, after := _, guard := _ } :: _) _ _); refine wpl_store_c rfl 35 (.tmp 144) (.const (.pointer none)) rfl bw 1 (.pointer none) rfl rfl B2.out (by kernel_rfl) ?_ (hid (by show 1 < 3; decide)) (hid rfl); intro w12 hr hg; have H12 := hid (H2.out.put (g := bw) (by simp) HBW.out hg); have E12 := hid (E2.out.tail.trans (ek_put hg (fun g hg => H2.out.lt g (by simp [hg])) HBG.out)); have B12 : Hid (Row w12 bw 37 (wC p none c)) := hid hr; clear hr hg))
 go_ret
 exact ⟨rfl, ⟨HBW.out, HBG.out, H12.out.tail, B12.out⟩, E12.out⟩
set_option maxHeartbeats 4000000 in
theorem does_9jon {w0 w : World} {bw p gs : Nat} {S : Sp} {J : Jn} {c : Int} {G : List Nat} (h : Wj w0 w bw p gs ⟨S, some J, c⟩ G) (x : ActJ) (A : Option Addr) (l cap : Nat) (S2 : Sp) (y : Int) (hon : S2.on = true) (hk : x.kind = 9) (HC : Hid (∀ W (X : List Nat), Dd w0 W p gs S X → Calls Tryd.prog 31 #[.pointer (some ⟨p, 0, none⟩), .int .i64 x.i, .int .i64 x.a, .int .i64 x.m] W (DC w0 W p gs S2 X (.int .i64 y)))) (_hc : S.count ≤ 800000) :
  Calls Tryd.prog 11 #[.pointer (some ⟨bw, 0, none⟩), .agg (actC x A l cap)] w (WC w0 w bw p gs ⟨S2, some J, J.c⟩ G y) := by
 obtain ⟨hbw0, hbwG, h⟩ := h
 obtain ⟨jp, h, hrow⟩ := h
 have HRA : Hid (Row (w.alloc (.cells (actC x A l cap) 32)) w.heap.size 32 (actC x A l cap).toList) := hid (Row.new _ _ _)
 have HJ : Hid (Jd w0 (w.alloc (.cells (actC x A l cap) 32)) jp p gs S J (w.heap.size :: bw :: G)) := hid (h.alloc _).1
 have HK : Hid (Ek w (w.alloc (.cells (actC x A l cap) 32)) (bw :: G)) := hid (h.alloc _).2
 have HRB : Hid (Row (w.alloc (.cells (actC x A l cap) 32)) bw 37 (wC p (some jp) c)) := hid (HK.out.row hrow (by simp))
 have ca0 : (w.alloc (.cells (actC x A l cap) 32)).cell? ⟨w.heap.size, 0, none⟩ = some (.int .i64 x.kind) := HRA.out.at_ 0 _ rfl
 have cb0 : (w.alloc (.cells (actC x A l cap) 32)).cell? ⟨bw, 0, none⟩ = some (.pointer (some ⟨p, 0, none⟩)) := HRB.out.at_ 0 _ rfl
 have cb1 : (w.alloc (.cells (actC x A l cap) 32)).cell? ⟨bw, 1, none⟩ = some (.pointer (some ⟨jp, 0, none⟩)) := HRB.out.at_ 1 _ rfl
 have HBW := hid hbw0
 have HBG := hid hbwG
 have HNE : Hid (w.heap.size ≠ bw) := hid (by have := hrow.lt; omega)
 rw [hk] at ca0
 have HSUB : Hid (∀ g ∈ bw :: G, g ∈ jp :: w.heap.size :: bw :: G) := hid (by intro g hg; simp only [List.mem_cons] at hg ⊢; exact .inr (.inr hg))
 have HON : Hid (∀ W (X : List Nat), Dd w0 W p gs S2 X → Calls Tryd.prog 32 #[.pointer (some ⟨p, 0, none⟩)] W fun e w' => e = .returned (.bool true) ∧ W = w') := hid fun W X hW => by
  have := dd_on hW
  rw [hon] at this
  exact this
 clear h hrow hbw0 hbwG hk _hc hon
 go_enter Tryd.func11, Tryd.ntmps11
 go_wp2_with fail
 refine name_wp (fun w1 hw1 => ?_)
 have H1 : Hid (Jd w0 w1 jp p gs S J (w.heap.size :: bw :: G)) := hid (by rw [hw1]; exact HJ.out)
 have E1 : Hid (Ek w w1 (bw :: G)) := hid (by rw [hw1]; exact HK.out)
 have A1 : Hid (Row w1 w.heap.size 32 (actC x A l cap).toList) := hid (by rw [hw1]; exact HRA.out)
 have B1 : Hid (Row w1 bw 37 (wC p (some jp) c)) := hid (by rw [hw1]; exact HRB.out)
 clear hw1 ca0 cb0 cb1
 try simp only [Act.put, U1,U2,U3,U4,U5,U6]
 refine wp_region_held_drew (S := fun W => (∃ S J, Jd w0 W jp p gs S J (w.heap.size :: bw :: G)) ∧ Ek w1 W (w.heap.size :: bw :: G)) (by kernel_rfl) (⟨⟨_, _, H1.out.drew⟩, fun _ _ => rfl⟩) (fun hH => ?_)
 refine tk_ (i := 0) (v := .pointer (some ⟨bw, 0, none⟩)) rfl (Or.inl ⟨by kernel_rfl, fun w' _ => by kernel_rfl⟩) hH ?_
 simp only [Act.put, U1, U3, U4, U5, U6]
 refine tk_ (i := 1) (v := .pointer (some ⟨bw, 0, none⟩)) rfl (Or.inl ⟨by rfl, fun w' hw' => by clear hw'; go_simp⟩) hH ?_
 simp only [Act.put, U1,U2,U3,U4,U5,U6]
 refine tk_ (i := 2) (v := .pointer (some ⟨bw, 0, none⟩)) rfl (Or.inl ⟨by rfl, fun w' hw' => by clear hw'; go_simp⟩) hH ?_
 simp only [Act.put, U1,U2,U3,U4,U5,U6]
 refine tk_ (i := 3) (v := .pointer (some ⟨p, 0, none⟩)) rfl (Or.inl ⟨by rfl, fun w' hw' => by have h := (hw'.2.row B1.out (by simp)).at_ 0 (.pointer (some ⟨p, 0, none⟩)) rfl; go_simp⟩) hH ?_
 simp only [Act.put, U1,U2,U3,U4,U5,U6]
 refine tk_ (i := 4) (v := .pointer (some ⟨w.heap.size, 11, none⟩)) rfl (Or.inl ⟨by rfl, fun w' hw' => by clear hw'; go_simp⟩) hH ?_
 simp only [Act.put, U1,U2,U3,U4,U5,U6]
 refine tk_ (i := 5) (v := .int .i64 x.i) rfl (Or.inl ⟨by rfl, fun w' hw' => by have h := (hw'.2.row A1.out (by simp)).at_ 11 (.int .i64 x.i) rfl; go_simp⟩) hH ?_
 simp only [Act.put, U1,U2,U3,U4,U5,U6]
 refine tk_ (i := 6) (v := .pointer (some ⟨w.heap.size, 12, none⟩)) rfl (Or.inl ⟨by rfl, fun w' hw' => by clear hw'; go_simp⟩) hH ?_
 simp only [Act.put, U1,U2,U3,U4,U5,U6]
 refine tk_ (i := 7) (v := .int .i64 x.a) rfl (Or.inl ⟨by rfl, fun w' hw' => by have h := (hw'.2.row A1.out (by simp)).at_ 12 (.int .i64 x.a) rfl; go_simp⟩) hH ?_
 simp only [Act.put, U1,U2,U3,U4,U5,U6]
 refine tk_ (i := 8) (v := .pointer (some ⟨w.heap.size, 13, none⟩)) rfl (Or.inl ⟨by rfl, fun w' hw' => by clear hw'; go_simp⟩) hH ?_
 simp only [Act.put, U1,U2,U3,U4,U5,U6]
 refine tk_ (i := 9) (v := .int .i64 x.m) rfl (Or.inl ⟨by rfl, fun w' hw' => by have h := (hw'.2.row A1.out (by simp)).at_ 13 (.int .i64 x.m) rfl; go_simp⟩) hH ?_
 simp only [Act.put, U1,U2,U3,U4,U5,U6]
 refine wpAnyH_ready (rs := [10]) (by kernel_rfl) (by simp) ?_
 refine AllReadyH.cons rfl (fun K hK => ?_) AllReadyH.nil
 go_simp
 go_at_call 31
 refine (H1.out.drew.callD (fun hD => HC.out _ _ hD)).mono ?_
 rintro e w2 ⟨rfl, h2, k2⟩
 go_wp2_with fail
 refine hK.out _ _ (⟨⟨_, _, h2⟩, hH.2.trans k2⟩) (fun hH => ?_)
 clear hK K
 try simp only [Act.put, U1,U2,U3,U4,U5,U6]
 refine tk_ (i := 11) (v := .int .i64 y) rfl (Or.inl ⟨by kernel_rfl, fun w' _ => by kernel_rfl⟩) hH ?_
 simp only [Act.put, U1,U2,U3,U4,U5,U6]
 refine wpAnyH_done (by kernel_rfl) ?_ _
 try simp only [Act.put, U1,U2,U3,U4,U5,U6]
 have H2 := hid h2
 have K2 : Hid (Ek w1 w2 (w.heap.size :: bw :: G)) := hid hH.2
 have E2 := hid (E1.out.trans K2.out.tail)
 have B2 := hid (K2.out.row B1.out (by simp))
 have cb0 : w2.cell? ⟨bw, 0, none⟩ = some (.pointer (some ⟨p, 0, none⟩)) := B2.out.at_ 0 _ rfl
 have cb1 : w2.cell? ⟨bw, 1, none⟩ = some (.pointer (some ⟨jp, 0, none⟩)) := B2.out.at_ 1 _ rfl
 clear hH
 go_wp2_with (first
  | (go_at_call 22; refine (check_any H2.out).mono ?_; rintro e w9 ⟨rfl, hw9⟩; subst hw9)
  | ((with_reducible show wpList _ _ _ ({ dst := none, op := .store _ (.tmp 135) _, type := _, pos := _, after := _, guard := _ } :: _) _ _); refine wpl_store_c rfl 3 (.tmp 135) (.tmp 133) rfl bw 2 (.int .i64 J.c) rfl rfl B2.out (by kernel_rfl) ?_ (hid (by show 2 < 3; decide)) (hid rfl); intro w10 hr hg; have H10 := hid (H2.out.put (g := bw) (by simp) HBW.out hg); have E10 := hid (E2.out.tail.trans (ek_put hg (fun g hg => H2.out.lt g (by simp [hg])) HBG.out)); have B10 : Hid (Row w10 bw 37 (wC p (some jp) J.c)) := hid hr; have cb0 : w10.cell? ⟨bw, 0, none⟩ = some (.pointer (some ⟨p, 0, none⟩)) := B10.out.at_ 0 _ rfl; clear hr hg)
  | (go_at_call 32; refine (HON.out _ _ H10.out.1).mono ?_; rintro e w11 ⟨rfl, hw11⟩; subst hw11))
 go_ret
 exact ⟨rfl, ⟨HBW.out, HBG.out, jp, H10.out.tail, B10.out⟩, E10.out⟩
set_option maxHeartbeats 4000000 in
theorem does_9noff {w0 w : World} {bw p gs : Nat} {S : Sp} {c : Int} {G : List Nat} (h : Wj w0 w bw p gs ⟨S, none, c⟩ G) (x : ActJ) (A : Option Addr) (l cap : Nat) (S2 : Sp) (y : Int) (hon : S2.on = false) (hk : x.kind = 9) (HC : Hid (∀ W (X : List Nat), Dd w0 W p gs S X → Calls Tryd.prog 31 #[.pointer (some ⟨p, 0, none⟩), .int .i64 x.i, .int .i64 x.a, .int .i64 x.m] W (DC w0 W p gs S2 X (.int .i64 y)))) (_hc : S.count ≤ 800000) :
  Calls Tryd.prog 11 #[.pointer (some ⟨bw, 0, none⟩), .agg (actC x A l cap)] w (WC w0 w bw p gs ⟨S2, none, c⟩ G y) := by
 obtain ⟨hbw0, hbwG, h⟩ := h
 obtain ⟨h, hrow⟩ := h
 have HRA : Hid (Row (w.alloc (.cells (actC x A l cap) 32)) w.heap.size 32 (actC x A l cap).toList) := hid (Row.new _ _ _)
 have hb0 := (Below.refl w.heap.size w).alloc (Nat.le_refl _) (.cells (actC x A l cap) 32)
 have HJ : Hid (Dd w0 (w.alloc (.cells (actC x A l cap) 32)) p gs S (w.heap.size :: bw :: G)) := hid (h.add hb0 (Nat.le_refl _) (by simp))
 have HK : Hid (Ek w (w.alloc (.cells (actC x A l cap) 32)) (bw :: G)) := hid (h.new hb0).2
 have HRB : Hid (Row (w.alloc (.cells (actC x A l cap) 32)) bw 37 (wC p none c)) := hid (HK.out.row hrow (by simp))
 have ca0 : (w.alloc (.cells (actC x A l cap) 32)).cell? ⟨w.heap.size, 0, none⟩ = some (.int .i64 x.kind) := HRA.out.at_ 0 _ rfl
 have cb0 : (w.alloc (.cells (actC x A l cap) 32)).cell? ⟨bw, 0, none⟩ = some (.pointer (some ⟨p, 0, none⟩)) := HRB.out.at_ 0 _ rfl
 have cb1 : (w.alloc (.cells (actC x A l cap) 32)).cell? ⟨bw, 1, none⟩ = some (.pointer none) := HRB.out.at_ 1 _ rfl
 have HBW := hid hbw0
 have HBG := hid hbwG
 have HNE : Hid (w.heap.size ≠ bw) := hid (by have := hrow.lt; omega)
 rw [hk] at ca0
 have HON : Hid (∀ W (X : List Nat), Dd w0 W p gs S2 X → Calls Tryd.prog 32 #[.pointer (some ⟨p, 0, none⟩)] W fun e w' => e = .returned (.bool false) ∧ W = w') := hid fun W X hW => by
  have := dd_on hW
  rw [hon] at this
  exact this
 clear h hrow hbw0 hbwG hk _hc hon
 go_enter Tryd.func11, Tryd.ntmps11
 go_wp2_with fail
 refine name_wp (fun w1 hw1 => ?_)
 have H1 : Hid (Dd w0 w1 p gs S (w.heap.size :: bw :: G)) := hid (by rw [hw1]; exact HJ.out)
 have E1 : Hid (Ek w w1 (bw :: G)) := hid (by rw [hw1]; exact HK.out)
 have A1 : Hid (Row w1 w.heap.size 32 (actC x A l cap).toList) := hid (by rw [hw1]; exact HRA.out)
 have B1 : Hid (Row w1 bw 37 (wC p none c)) := hid (by rw [hw1]; exact HRB.out)
 clear hw1 ca0 cb0 cb1
 try simp only [Act.put, U1,U2,U3,U4,U5,U6]
 refine wp_region_held_drew (S := fun W => (∃ S, Dd w0 W p gs S (w.heap.size :: bw :: G)) ∧ Ek w1 W (w.heap.size :: bw :: G)) (by kernel_rfl) (⟨⟨_, (H1.out.new (w' := w1.drew) ⟨rfl, rfl, rfl, Nat.le_refl _, fun _ _ => rfl⟩).1⟩, fun _ _ => rfl⟩) (fun hH => ?_)
 refine tk_ (i := 0) (v := .pointer (some ⟨bw, 0, none⟩)) rfl (Or.inl ⟨by kernel_rfl, fun w' _ => by kernel_rfl⟩) hH ?_
 simp only [Act.put, U1, U3, U4, U5, U6]
 refine tk_ (i := 1) (v := .pointer (some ⟨bw, 0, none⟩)) rfl (Or.inl ⟨by rfl, fun w' hw' => by clear hw'; go_simp⟩) hH ?_
 simp only [Act.put, U1,U2,U3,U4,U5,U6]
 refine tk_ (i := 2) (v := .pointer (some ⟨bw, 0, none⟩)) rfl (Or.inl ⟨by rfl, fun w' hw' => by clear hw'; go_simp⟩) hH ?_
 simp only [Act.put, U1,U2,U3,U4,U5,U6]
 refine tk_ (i := 3) (v := .pointer (some ⟨p, 0, none⟩)) rfl (Or.inl ⟨by rfl, fun w' hw' => by have h := (hw'.2.row B1.out (by simp)).at_ 0 (.pointer (some ⟨p, 0, none⟩)) rfl; go_simp⟩) hH ?_
 simp only [Act.put, U1,U2,U3,U4,U5,U6]
 refine tk_ (i := 4) (v := .pointer (some ⟨w.heap.size, 11, none⟩)) rfl (Or.inl ⟨by rfl, fun w' hw' => by clear hw'; go_simp⟩) hH ?_
 simp only [Act.put, U1,U2,U3,U4,U5,U6]
 refine tk_ (i := 5) (v := .int .i64 x.i) rfl (Or.inl ⟨by rfl, fun w' hw' => by have h := (hw'.2.row A1.out (by simp)).at_ 11 (.int .i64 x.i) rfl; go_simp⟩) hH ?_
 simp only [Act.put, U1,U2,U3,U4,U5,U6]
 refine tk_ (i := 6) (v := .pointer (some ⟨w.heap.size, 12, none⟩)) rfl (Or.inl ⟨by rfl, fun w' hw' => by clear hw'; go_simp⟩) hH ?_
 simp only [Act.put, U1,U2,U3,U4,U5,U6]
 refine tk_ (i := 7) (v := .int .i64 x.a) rfl (Or.inl ⟨by rfl, fun w' hw' => by have h := (hw'.2.row A1.out (by simp)).at_ 12 (.int .i64 x.a) rfl; go_simp⟩) hH ?_
 simp only [Act.put, U1,U2,U3,U4,U5,U6]
 refine tk_ (i := 8) (v := .pointer (some ⟨w.heap.size, 13, none⟩)) rfl (Or.inl ⟨by rfl, fun w' hw' => by clear hw'; go_simp⟩) hH ?_
 simp only [Act.put, U1,U2,U3,U4,U5,U6]
 refine tk_ (i := 9) (v := .int .i64 x.m) rfl (Or.inl ⟨by rfl, fun w' hw' => by have h := (hw'.2.row A1.out (by simp)).at_ 13 (.int .i64 x.m) rfl; go_simp⟩) hH ?_
 simp only [Act.put, U1,U2,U3,U4,U5,U6]
 refine wpAnyH_ready (rs := [10]) (by kernel_rfl) (by simp) ?_
 refine AllReadyH.cons rfl (fun K hK => ?_) AllReadyH.nil
 go_simp
 go_at_call 31
 refine (HC.out _ _ (H1.out.new (w' := w1.drew) ⟨rfl, rfl, rfl, Nat.le_refl _, fun _ _ => rfl⟩).1).mono ?_
 rintro e w2 ⟨rfl, h2, k2⟩
 go_wp2_with fail
 refine hK.out _ _ (⟨⟨_, h2⟩, hH.2.trans k2⟩) (fun hH => ?_)
 clear hK K
 try simp only [Act.put, U1,U2,U3,U4,U5,U6]
 refine tk_ (i := 11) (v := .int .i64 y) rfl (Or.inl ⟨by kernel_rfl, fun w' _ => by kernel_rfl⟩) hH ?_
 simp only [Act.put, U1,U2,U3,U4,U5,U6]
 refine wpAnyH_done (by kernel_rfl) ?_ _
 try simp only [Act.put, U1,U2,U3,U4,U5,U6]
 have H2 := hid h2
 have K2 : Hid (Ek w1 w2 (w.heap.size :: bw :: G)) := hid hH.2
 have E2 := hid (E1.out.trans K2.out.tail)
 have B2 := hid (K2.out.row B1.out (by simp))
 have cb0 : w2.cell? ⟨bw, 0, none⟩ = some (.pointer (some ⟨p, 0, none⟩)) := B2.out.at_ 0 _ rfl
 have cb1 : w2.cell? ⟨bw, 1, none⟩ = some (.pointer none) := B2.out.at_ 1 _ rfl
 clear hH
 go_wp2_with (first
  | (go_at_call 32; refine (HON.out _ _ H2.out).mono ?_; rintro e w11 ⟨rfl, hw11⟩; subst hw11)
  | ((with_reducible show wpList _ _ _ ({ dst := none, op := .store _ (.tmp 144) _, type := _, pos := _, after := _, guard := _ } :: _) _ _); refine wpl_store_c rfl 35 (.tmp 144) (.const (.pointer none)) rfl bw 1 (.pointer none) rfl rfl B2.out (by kernel_rfl) ?_ (hid (by show 1 < 3; decide)) (hid rfl); intro w12 hr hg; have H12 := hid (H2.out.put (g := bw) (by simp) HBW.out hg); have E12 := hid (E2.out.tail.trans (ek_put hg (fun g hg => H2.out.lt g (by simp [hg])) HBG.out)); have B12 : Hid (Row w12 bw 37 (wC p none c)) := hid hr; clear hr hg))
 go_ret
 exact ⟨rfl, ⟨HBW.out, HBG.out, H12.out.tail, B12.out⟩, E12.out⟩
end Go.Proofs.YtafbeepacncooaaDoor
