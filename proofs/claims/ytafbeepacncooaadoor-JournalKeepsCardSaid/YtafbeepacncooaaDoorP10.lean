/-
  The walk of the law's does: its calls of the journal, and what does nothing.
-/
import Derived.Test.YtafbeepacncooaaDoorP09
namespace Go.Proofs.YtafbeepacncooaaDoor
open Go.RowKit
set_option maxRecDepth 10000

set_option maxHeartbeats 4000000 in
theorem does_3on {w0 w : World} {bw p gs : Nat} {S : Sp} {J : Jn} {c : Int} {G : List Nat} (h : Wj w0 w bw p gs ⟨S, some J, c⟩ G) (x : ActJ) (A : Option Addr) (l cap : Nat) (S2 : Sp) (J2 : Jn) (y : Int) (hon : S2.on = true) (hk : x.kind = 3) (HC : Hid (∀ W jp (X : List Nat), Jd w0 W jp p gs S J X → Calls Tryd.prog 21 #[.pointer (some ⟨jp, 0, none⟩), .int .i64 x.n] W (JC w0 W jp p gs S2 J2 X (.int .i64 y)))) (_hc : S.count ≤ 800000) :
  Calls Tryd.prog 11 #[.pointer (some ⟨bw, 0, none⟩), .agg (actC x A l cap)] w (WC w0 w bw p gs ⟨S2, some J2, J2.c⟩ G y) := by
 obtain ⟨hbw0, hbwG, h⟩ := h
 obtain ⟨jp, h, hrow⟩ := h
 have HRA : Hid (Row (w.alloc (.cells (actC x A l cap) 32)) w.heap.size 32 (actC x A l cap).toList) := hid (Row.new _ _ _)
 have HJ : Hid (Jd w0 (w.alloc (.cells (actC x A l cap) 32)) jp p gs S J (w.heap.size :: bw :: G)) := hid (h.alloc _).1
 have HK : Hid (Ek w (w.alloc (.cells (actC x A l cap) 32)) (bw :: G)) := hid (h.alloc _).2
 have HRB : Hid (Row (w.alloc (.cells (actC x A l cap) 32)) bw 37 (wC p (some jp) c)) := hid (HK.out.row hrow (by simp))
 have ca0 : (w.alloc (.cells (actC x A l cap) 32)).cell? ⟨w.heap.size, 0, none⟩ = some (.int .i64 x.kind) := HRA.out.at_ 0 _ rfl
 have cb0 : (w.alloc (.cells (actC x A l cap) 32)).cell? ⟨bw, 0, none⟩ = some (.pointer (some ⟨p, 0, none⟩)) := HRB.out.at_ 0 _ rfl
 have cb1 : (w.alloc (.cells (actC x A l cap) 32)).cell? ⟨bw, 1, none⟩ = some (.pointer (some ⟨jp, 0, none⟩)) := HRB.out.at_ 1 _ rfl
 have HBW := hid hbw0
 have HBG := hid hbwG
 have HNE : Hid (w.heap.size ≠ bw) := hid (by have := hrow.lt; omega)
 rw [hk] at ca0
 have HSUB : Hid (∀ g ∈ bw :: G, g ∈ jp :: w.heap.size :: bw :: G) := hid (by intro g hg; simp only [List.mem_cons] at hg ⊢; exact .inr (.inr hg))
 have HON : Hid (∀ W (X : List Nat), Dd w0 W p gs S2 X → Calls Tryd.prog 32 #[.pointer (some ⟨p, 0, none⟩)] W fun e w' => e = .returned (.bool true) ∧ W = w') := hid fun W X hW => by
  have := dd_on hW
  rw [hon] at this
  exact this
 clear h hrow hbw0 hbwG hk _hc hon
 go_enter Tryd.func11, Tryd.ntmps11
 go_wp2_with fail
 refine name_wp (fun w1 hw1 => ?_)
 have H1 : Hid (Jd w0 w1 jp p gs S J (w.heap.size :: bw :: G)) := hid (by rw [hw1]; exact HJ.out)
 have E1 : Hid (Ek w w1 (bw :: G)) := hid (by rw [hw1]; exact HK.out)
 have A1 : Hid (Row w1 w.heap.size 32 (actC x A l cap).toList) := hid (by rw [hw1]; exact HRA.out)
 have B1 : Hid (Row w1 bw 37 (wC p (some jp) c)) := hid (by rw [hw1]; exact HRB.out)
 clear hw1 ca0 cb0 cb1
 try simp only [Act.put, U1,U2,U3,U4,U5,U6]
 refine wp_region_held_drew (S := fun W => (∃ S J, Jd w0 W jp p gs S J (w.heap.size :: bw :: G)) ∧ Ek w1 W (w.heap.size :: bw :: G)) (by kernel_rfl) (⟨⟨_, _, H1.out.drew⟩, fun _ _ => rfl⟩) (fun hH => ?_)
 refine tk_ (i := 0) (v := .pointer (some ⟨bw, 0, none⟩)) rfl (Or.inl ⟨by kernel_rfl, fun w' _ => by kernel_rfl⟩) hH ?_
 simp only [Act.put, U1, U3, U4, U5, U6]
 refine tk_ (i := 1) (v := .pointer (some ⟨bw, 0, none⟩)) rfl (Or.inl ⟨by rfl, fun w' hw' => by clear hw'; go_simp⟩) hH ?_
 simp only [Act.put, U1,U2,U3,U4,U5,U6]
 refine tk_ (i := 2) (v := .pointer (some ⟨bw, 1, none⟩)) rfl (Or.inl ⟨by rfl, fun w' hw' => by clear hw'; go_simp⟩) hH ?_
 simp only [Act.put, U1,U2,U3,U4,U5,U6]
 refine tk_ (i := 3) (v := .pointer (some ⟨jp, 0, none⟩)) rfl (Or.inl ⟨by rfl, fun w' hw' => by have h := (hw'.2.row B1.out (by simp)).at_ 1 (.pointer (some ⟨jp, 0, none⟩)) rfl; go_simp⟩) hH ?_
 simp only [Act.put, U1,U2,U3,U4,U5,U6]
 refine tk_ (i := 4) (v := .pointer (some ⟨w.heap.size, 10, none⟩)) rfl (Or.inl ⟨by rfl, fun w' hw' => by clear hw'; go_simp⟩) hH ?_
 simp only [Act.put, U1,U2,U3,U4,U5,U6]
 refine tk_ (i := 5) (v := .int .i64 x.n) rfl (Or.inl ⟨by rfl, fun w' hw' => by have h := (hw'.2.row A1.out (by simp)).at_ 10 (.int .i64 x.n) rfl; go_simp⟩) hH ?_
 simp only [Act.put, U1,U2,U3,U4,U5,U6]
 refine wpAnyH_ready (rs := [6]) (by kernel_rfl) (by simp) ?_
 refine AllReadyH.cons rfl (fun K hK => ?_) AllReadyH.nil
 go_simp
 go_at_call 21
 refine (HC.out _ _ _ H1.out.drew).mono ?_
 rintro e w2 ⟨rfl, h2, k2⟩
 go_wp2_with fail
 refine hK.out _ _ (⟨⟨_, _, h2⟩, hH.2.trans k2⟩) (fun hH => ?_)
 clear hK K
 try simp only [Act.put, U1,U2,U3,U4,U5,U6]
 refine tk_ (i := 7) (v := .int .i64 y) rfl (Or.inl ⟨by kernel_rfl, fun w' _ => by kernel_rfl⟩) hH ?_
 simp only [Act.put, U1,U2,U3,U4,U5,U6]
 refine wpAnyH_done (by kernel_rfl) ?_ _
 try simp only [Act.put, U1,U2,U3,U4,U5,U6]
 have H2 := hid h2
 have K2 : Hid (Ek w1 w2 (w.heap.size :: bw :: G)) := hid hH.2
 have E2 := hid (E1.out.trans K2.out.tail)
 have B2 := hid (K2.out.row B1.out (by simp))
 have cb0 : w2.cell? ⟨bw, 0, none⟩ = some (.pointer (some ⟨p, 0, none⟩)) := B2.out.at_ 0 _ rfl
 have cb1 : w2.cell? ⟨bw, 1, none⟩ = some (.pointer (some ⟨jp, 0, none⟩)) := B2.out.at_ 1 _ rfl
 clear hH
 go_wp2_with (first
  | (go_at_call 22; refine (check_any H2.out).mono ?_; rintro e w9 ⟨rfl, hw9⟩; subst hw9)
  | ((with_reducible show wpList _ _ _ ({ dst := none, op := .store _ (.tmp 135) _, type := _, pos := _, after := _, guard := _ } :: _) _ _); refine wpl_store_c rfl 3 (.tmp 135) (.tmp 133) rfl bw 2 (.int .i64 J2.c) rfl rfl B2.out (by kernel_rfl) ?_ (hid (by show 2 < 3; decide)) (hid rfl); intro w10 hr hg; have H10 := hid (H2.out.put (g := bw) (by simp) HBW.out hg); have E10 := hid (E2.out.tail.trans (ek_put hg (fun g hg => H2.out.lt g (by simp [hg])) HBG.out)); have B10 : Hid (Row w10 bw 37 (wC p (some jp) J2.c)) := hid hr; have cb0 : w10.cell? ⟨bw, 0, none⟩ = some (.pointer (some ⟨p, 0, none⟩)) := B10.out.at_ 0 _ rfl; clear hr hg)
  | (go_at_call 32; refine (HON.out _ _ H10.out.1).mono ?_; rintro e w11 ⟨rfl, hw11⟩; subst hw11))
 go_ret
 exact ⟨rfl, ⟨HBW.out, HBG.out, jp, H10.out.tail, B10.out⟩, E10.out⟩
set_option maxHeartbeats 4000000 in
theorem does_4on {w0 w : World} {bw p gs : Nat} {S : Sp} {J : Jn} {c : Int} {G : List Nat} (h : Wj w0 w bw p gs ⟨S, some J, c⟩ G) (x : ActJ) (A : Option Addr) (l cap : Nat) (S2 : Sp) (J2 : Jn) (y : Int) (ye : En) (hon : S2.on = true) (hk : x.kind = 4) (HC : Hid (∀ W jp (X : List Nat), Jd w0 W jp p gs S J X → Calls Tryd.prog 14 #[.pointer (some ⟨jp, 0, none⟩), .int .i64 x.n] W (JC w0 W jp p gs S2 J2 X (.tuple #[.agg ye.cells, .int .i64 y])))) (_hc : S.count ≤ 800000) :
  Calls Tryd.prog 11 #[.pointer (some ⟨bw, 0, none⟩), .agg (actC x A l cap)] w (WC w0 w bw p gs ⟨S2, some J2, J2.c⟩ G y) := by
 obtain ⟨hbw0, hbwG, h⟩ := h
 obtain ⟨jp, h, hrow⟩ := h
 have HRA : Hid (Row (w.alloc (.cells (actC x A l cap) 32)) w.heap.size 32 (actC x A l cap).toList) := hid (Row.new _ _ _)
 have HJ : Hid (Jd w0 (w.alloc (.cells (actC x A l cap) 32)) jp p gs S J (w.heap.size :: bw :: G)) := hid (h.alloc _).1
 have HK : Hid (Ek w (w.alloc (.cells (actC x A l cap) 32)) (bw :: G)) := hid (h.alloc _).2
 have HRB : Hid (Row (w.alloc (.cells (actC x A l cap) 32)) bw 37 (wC p (some jp) c)) := hid (HK.out.row hrow (by simp))
 have ca0 : (w.alloc (.cells (actC x A l cap) 32)).cell? ⟨w.heap.size, 0, none⟩ = some (.int .i64 x.kind) := HRA.out.at_ 0 _ rfl
 have cb0 : (w.alloc (.cells (actC x A l cap) 32)).cell? ⟨bw, 0, none⟩ = some (.pointer (some ⟨p, 0, none⟩)) := HRB.out.at_ 0 _ rfl
 have cb1 : (w.alloc (.cells (actC x A l cap) 32)).cell? ⟨bw, 1, none⟩ = some (.pointer (some ⟨jp, 0, none⟩)) := HRB.out.at_ 1 _ rfl
 have HBW := hid hbw0
 have HBG := hid hbwG
 have HNE : Hid (w.heap.size ≠ bw) := hid (by have := hrow.lt; omega)
 rw [hk] at ca0
 have HSUB : Hid (∀ g ∈ bw :: G, g ∈ jp :: w.heap.size :: bw :: G) := hid (by intro g hg; simp only [List.mem_cons] at hg ⊢; exact .inr (.inr hg))
 have HON : Hid (∀ W (X : List Nat), Dd w0 W p gs S2 X → Calls Tryd.prog 32 #[.pointer (some ⟨p, 0, none⟩)] W fun e w' => e = .returned (.bool true) ∧ W = w') := hid fun W X hW => by
  have := dd_on hW
  rw [hon] at this
  exact this
 clear h hrow hbw0 hbwG hk _hc hon
 go_enter Tryd.func11, Tryd.ntmps11
 go_wp2_with fail
 refine name_wp (fun w1 hw1 => ?_)
 have H1 : Hid (Jd w0 w1 jp p gs S J (w.heap.size :: bw :: G)) := hid (by rw [hw1]; exact HJ.out)
 have E1 : Hid (Ek w w1 (bw :: G)) := hid (by rw [hw1]; exact HK.out)
 have A1 : Hid (Row w1 w.heap.size 32 (actC x A l cap).toList) := hid (by rw [hw1]; exact HRA.out)
 have B1 : Hid (Row w1 bw 37 (wC p (some jp) c)) := hid (by rw [hw1]; exact HRB.out)
 clear hw1 ca0 cb0 cb1
 try simp only [Act.put, U1,U2,U3,U4,U5,U6]
 refine wp_region_held_drew (S := fun W => (∃ S J, Jd w0 W jp p gs S J (w.heap.size :: bw :: G)) ∧ Ek w1 W (w.heap.size :: bw :: G)) (by kernel_rfl) (⟨⟨_, _, H1.out.drew⟩, fun _ _ => rfl⟩) (fun hH => ?_)
 refine tk_ (i := 0) (v := .pointer (some ⟨bw, 0, none⟩)) rfl (Or.inl ⟨by kernel_rfl, fun w' _ => by kernel_rfl⟩) hH ?_
 simp only [Act.put, U1, U3, U4, U5, U6]
 refine tk_ (i := 1) (v := .pointer (some ⟨bw, 0, none⟩)) rfl (Or.inl ⟨by rfl, fun w' hw' => by clear hw'; go_simp⟩) hH ?_
 simp only [Act.put, U1,U2,U3,U4,U5,U6]
 refine tk_ (i := 2) (v := .pointer (some ⟨bw, 1, none⟩)) rfl (Or.inl ⟨by rfl, fun w' hw' => by clear hw'; go_simp⟩) hH ?_
 simp only [Act.put, U1,U2,U3,U4,U5,U6]
 refine tk_ (i := 3) (v := .pointer (some ⟨jp, 0, none⟩)) rfl (Or.inl ⟨by rfl, fun w' hw' => by have h := (hw'.2.row B1.out (by simp)).at_ 1 (.pointer (some ⟨jp, 0, none⟩)) rfl; go_simp⟩) hH ?_
 simp only [Act.put, U1,U2,U3,U4,U5,U6]
 refine tk_ (i := 4) (v := .pointer (some ⟨w.heap.size, 10, none⟩)) rfl (Or.inl ⟨by rfl, fun w' hw' => by clear hw'; go_simp⟩) hH ?_
 simp only [Act.put, U1,U2,U3,U4,U5,U6]
 refine tk_ (i := 5) (v := .int .i64 x.n) rfl (Or.inl ⟨by rfl, fun w' hw' => by have h := (hw'.2.row A1.out (by simp)).at_ 10 (.int .i64 x.n) rfl; go_simp⟩) hH ?_
 simp only [Act.put, U1,U2,U3,U4,U5,U6]
 refine wpAnyH_ready (rs := [6]) (by kernel_rfl) (by simp) ?_
 refine AllReadyH.cons rfl (fun K hK => ?_) AllReadyH.nil
 go_simp
 go_at_call 14
 refine (HC.out _ _ _ H1.out.drew).mono ?_
 rintro e w2 ⟨rfl, h2, k2⟩
 go_wp2_with fail
 refine hK.out _ _ (⟨⟨_, _, h2⟩, hH.2.trans k2⟩) (fun hH => ?_)
 clear hK K
 try simp only [Act.put, U1,U2,U3,U4,U5,U6]
 refine tk_ (i := 7) (v := .tuple #[.agg ye.cells, .int .i64 y]) rfl (Or.inl ⟨by kernel_rfl, fun w' _ => by kernel_rfl⟩) hH ?_
 simp only [Act.put, U1,U2,U3,U4,U5,U6]
 refine tk_ (i := 8) (v := .agg ye.cells) rfl (Or.inl ⟨by kernel_rfl, fun w' _ => by kernel_rfl⟩) hH ?_
 simp only [Act.put, U1,U2,U3,U4,U5,U6]
 refine tk_ (i := 9) (v := .int .i64 y) rfl (Or.inl ⟨by kernel_rfl, fun w' _ => by kernel_rfl⟩) hH ?_
 simp only [Act.put, U1,U2,U3,U4,U5,U6]
 refine tk_ (i := 10) (v := .int .i64 y) rfl (Or.inl ⟨by kernel_rfl, fun w' _ => by kernel_rfl⟩) hH ?_
 simp only [Act.put, U1,U2,U3,U4,U5,U6]
 refine wpAnyH_done (by kernel_rfl) ?_ _
 try simp only [Act.put, U1,U2,U3,U4,U5,U6]
 have H2 := hid h2
 have K2 : Hid (Ek w1 w2 (w.heap.size :: bw :: G)) := hid hH.2
 have E2 := hid (E1.out.trans K2.out.tail)
 have B2 := hid (K2.out.row B1.out (by simp))
 have cb0 : w2.cell? ⟨bw, 0, none⟩ = some (.pointer (some ⟨p, 0, none⟩)) := B2.out.at_ 0 _ rfl
 have cb1 : w2.cell? ⟨bw, 1, none⟩ = some (.pointer (some ⟨jp, 0, none⟩)) := B2.out.at_ 1 _ rfl
 clear hH
 go_wp2_with (first
  | (go_at_call 22; refine (check_any H2.out).mono ?_; rintro e w9 ⟨rfl, hw9⟩; subst hw9)
  | ((with_reducible show wpList _ _ _ ({ dst := none, op := .store _ (.tmp 135) _, type := _, pos := _, after := _, guard := _ } :: _) _ _); refine wpl_store_c rfl 3 (.tmp 135) (.tmp 133) rfl bw 2 (.int .i64 J2.c) rfl rfl B2.out (by kernel_rfl) ?_ (hid (by show 2 < 3; decide)) (hid rfl); intro w10 hr hg; have H10 := hid (H2.out.put (g := bw) (by simp) HBW.out hg); have E10 := hid (E2.out.tail.trans (ek_put hg (fun g hg => H2.out.lt g (by simp [hg])) HBG.out)); have B10 : Hid (Row w10 bw 37 (wC p (some jp) J2.c)) := hid hr; have cb0 : w10.cell? ⟨bw, 0, none⟩ = some (.pointer (some ⟨p, 0, none⟩)) := B10.out.at_ 0 _ rfl; clear hr hg)
  | (go_at_call 32; refine (HON.out _ _ H10.out.1).mono ?_; rintro e w11 ⟨rfl, hw11⟩; subst hw11))
 go_ret
 exact ⟨rfl, ⟨HBW.out, HBG.out, jp, H10.out.tail, B10.out⟩, E10.out⟩
set_option maxHeartbeats 4000000 in
theorem does_0jon {w0 w : World} {bw p gs : Nat} {S : Sp} {J : Jn} {c : Int} {G : List Nat} (h : Wj w0 w bw p gs ⟨S, some J, c⟩ G) (x : ActJ) (A : Option Addr) (l cap : Nat) (hon : S.on = true) (hk1 : x.kind ≠ 1) (hk2 : x.kind ≠ 2) (hk3 : x.kind ≠ 3) (hk4 : x.kind ≠ 4) (hk5 : x.kind ≠ 5) (hk6 : x.kind ≠ 6) (hk7 : x.kind ≠ 7) (hk8 : x.kind ≠ 8) (hk9 : x.kind ≠ 9) (_hc : S.count ≤ 800000) :
  Calls Tryd.prog 11 #[.pointer (some ⟨bw, 0, none⟩), .agg (actC x A l cap)] w (WC w0 w bw p gs ⟨S, some J, J.c⟩ G 0) := by
 obtain ⟨hbw0, hbwG, h⟩ := h
 obtain ⟨jp, h, hrow⟩ := h
 have HRA : Hid (Row (w.alloc (.cells (actC x A l cap) 32)) w.heap.size 32 (actC x A l cap).toList) := hid (Row.new _ _ _)
 have HJ : Hid (Jd w0 (w.alloc (.cells (actC x A l cap) 32)) jp p gs S J (w.heap.size :: bw :: G)) := hid (h.alloc _).1
 have HK : Hid (Ek w (w.alloc (.cells (actC x A l cap) 32)) (bw :: G)) := hid (h.alloc _).2
 have HRB : Hid (Row (w.alloc (.cells (actC x A l cap) 32)) bw 37 (wC p (some jp) c)) := hid (HK.out.row hrow (by simp))
 have ca0 : (w.alloc (.cells (actC x A l cap) 32)).cell? ⟨w.heap.size, 0, none⟩ = some (.int .i64 x.kind) := HRA.out.at_ 0 _ rfl
 have cb0 : (w.alloc (.cells (actC x A l cap) 32)).cell? ⟨bw, 0, none⟩ = some (.pointer (some ⟨p, 0, none⟩)) := HRB.out.at_ 0 _ rfl
 have cb1 : (w.alloc (.cells (actC x A l cap) 32)).cell? ⟨bw, 1, none⟩ = some (.pointer (some ⟨jp, 0, none⟩)) := HRB.out.at_ 1 _ rfl
 have HBW := hid hbw0
 have HBG := hid hbwG
 have HNE : Hid (w.heap.size ≠ bw) := hid (by have := hrow.lt; omega)
 have HSUB : Hid (∀ g ∈ bw :: G, g ∈ jp :: w.heap.size :: bw :: G) := hid (by intro g hg; simp only [List.mem_cons] at hg ⊢; exact .inr (.inr hg))
 have HON : Hid (∀ W (X : List Nat), Dd w0 W p gs S X → Calls Tryd.prog 32 #[.pointer (some ⟨p, 0, none⟩)] W fun e w' => e = .returned (.bool true) ∧ W = w') := hid fun W X hW => by
  have := dd_on hW
  rw [hon] at this
  exact this
 have q1 : (x.kind == 1) = false := by simpa using hk1
 have q2 : (x.kind == 2) = false := by simpa using hk2
 have q3 : (x.kind == 3) = false := by simpa using hk3
 have q4 : (x.kind == 4) = false := by simpa using hk4
 have q5 : (x.kind == 5) = false := by simpa using hk5
 have q6 : (x.kind == 6) = false := by simpa using hk6
 have q7 : (x.kind == 7) = false := by simpa using hk7
 have q8 : (x.kind == 8) = false := by simpa using hk8
 have q9 : (x.kind == 9) = false := by simpa using hk9
 clear h hrow hbw0 hbwG _hc hon hk1 hk2 hk3 hk4 hk5 hk6 hk7 hk8 hk9
 have H2 := HJ
 have B2 := HRB
 have E2 := HK
 go_enter Tryd.func11, Tryd.ntmps11
 go_wp2_with (first
  | (go_at_call 22; refine (check_any H2.out).mono ?_; rintro e w9 ⟨rfl, hw9⟩; subst hw9)
  | ((with_reducible show wpList _ _ _ ({ dst := none, op := .store _ (.tmp 135) _, type := _, pos := _, after := _, guard := _ } :: _) _ _); refine wpl_store_c rfl 3 (.tmp 135) (.tmp 133) rfl bw 2 (.int .i64 J.c) rfl rfl B2.out (by kernel_rfl) ?_ (hid (by show 2 < 3; decide)) (hid rfl); intro w10 hr hg; have H10 := hid (H2.out.put (g := bw) (by simp) HBW.out hg); have E10 := hid (E2.out.tail.trans (ek_put hg (fun g hg => H2.out.lt g (by simp [hg])) HBG.out)); have B10 : Hid (Row w10 bw 37 (wC p (some jp) J.c)) := hid hr; have cb0 : w10.cell? ⟨bw, 0, none⟩ = some (.pointer (some ⟨p, 0, none⟩)) := B10.out.at_ 0 _ rfl; clear hr hg)
  | (go_at_call 32; refine (HON.out _ _ H10.out.1).mono ?_; rintro e w11 ⟨rfl, hw11⟩; subst hw11))
 go_ret
 exact ⟨rfl, ⟨HBW.out, HBG.out, jp, H10.out.tail, B10.out⟩, E10.out⟩
set_option maxHeartbeats 4000000 in
theorem does_0noff {w0 w : World} {bw p gs : Nat} {S : Sp} {c : Int} {G : List Nat} (h : Wj w0 w bw p gs ⟨S, none, c⟩ G) (x : ActJ) (A : Option Addr) (l cap : Nat) (hon : S.on = false) (hk1 : x.kind ≠ 1) (hk2 : x.kind ≠ 2) (hk3 : x.kind ≠ 3) (hk4 : x.kind ≠ 4) (hk5 : x.kind ≠ 5) (hk6 : x.kind ≠ 6) (hk7 : x.kind ≠ 7) (hk8 : x.kind ≠ 8) (hk9 : x.kind ≠ 9) (hk60 : ¬ x.kind < 6) (_hc : S.count ≤ 800000) :
  Calls Tryd.prog 11 #[.pointer (some ⟨bw, 0, none⟩), .agg (actC x A l cap)] w (WC w0 w bw p gs ⟨S, none, c⟩ G 0) := by
 obtain ⟨hbw0, hbwG, h⟩ := h
 obtain ⟨h, hrow⟩ := h
 have HRA : Hid (Row (w.alloc (.cells (actC x A l cap) 32)) w.heap.size 32 (actC x A l cap).toList) := hid (Row.new _ _ _)
 have hb0 := (Below.refl w.heap.size w).alloc (Nat.le_refl _) (.cells (actC x A l cap) 32)
 have HJ : Hid (Dd w0 (w.alloc (.cells (actC x A l cap) 32)) p gs S (w.heap.size :: bw :: G)) := hid (h.add hb0 (Nat.le_refl _) (by simp))
 have HK : Hid (Ek w (w.alloc (.cells (actC x A l cap) 32)) (bw :: G)) := hid (h.new hb0).2
 have HRB : Hid (Row (w.alloc (.cells (actC x A l cap) 32)) bw 37 (wC p none c)) := hid (HK.out.row hrow (by simp))
 have ca0 : (w.alloc (.cells (actC x A l cap) 32)).cell? ⟨w.heap.size, 0, none⟩ = some (.int .i64 x.kind) := HRA.out.at_ 0 _ rfl
 have cb0 : (w.alloc (.cells (actC x A l cap) 32)).cell? ⟨bw, 0, none⟩ = some (.pointer (some ⟨p, 0, none⟩)) := HRB.out.at_ 0 _ rfl
 have cb1 : (w.alloc (.cells (actC x A l cap) 32)).cell? ⟨bw, 1, none⟩ = some (.pointer none) := HRB.out.at_ 1 _ rfl
 have HBW := hid hbw0
 have HBG := hid hbwG
 have HNE : Hid (w.heap.size ≠ bw) := hid (by have := hrow.lt; omega)
 have HON : Hid (∀ W (X : List Nat), Dd w0 W p gs S X → Calls Tryd.prog 32 #[.pointer (some ⟨p, 0, none⟩)] W fun e w' => e = .returned (.bool false) ∧ W = w') := hid fun W X hW => by
  have := dd_on hW
  rw [hon] at this
  exact this
 have q1 : (x.kind == 1) = false := by simpa using hk1
 have q2 : (x.kind == 2) = false := by simpa using hk2
 have q3 : (x.kind == 3) = false := by simpa using hk3
 have q4 : (x.kind == 4) = false := by simpa using hk4
 have q5 : (x.kind == 5) = false := by simpa using hk5
 have q6 : (x.kind == 6) = false := by simpa using hk6
 have q7 : (x.kind == 7) = false := by simpa using hk7
 have q8 : (x.kind == 8) = false := by simpa using hk8
 have q9 : (x.kind == 9) = false := by simpa using hk9
 clear h hrow hbw0 hbwG _hc hon hk1 hk2 hk3 hk4 hk5 hk6 hk7 hk8 hk9
 have H2 := HJ
 have B2 := HRB
 have E2 := HK
 go_enter Tryd.func11, Tryd.ntmps11
 go_wp2_with (first
  | (go_at_call 32; refine (HON.out _ _ H2.out).mono ?_; rintro e w11 ⟨rfl, hw11⟩; subst hw11)
  | ((with_reducible show wpList _ _ _ ({ dst := none, op := .store _ (.tmp 144) _, type := _, pos := _, after := _, guard := _ } :: _) _ _); refine wpl_store_c rfl 35 (.tmp 144) (.const (.pointer none)) rfl bw 1 (.pointer none) rfl rfl B2.out (by kernel_rfl) ?_ (hid (by show 1 < 3; decide)) (hid rfl); intro w12 hr hg; have H12 := hid (H2.out.put (g := bw) (by simp) HBW.out hg); have E12 := hid (E2.out.tail.trans (ek_put hg (fun g hg => H2.out.lt g (by simp [hg])) HBG.out)); have B12 : Hid (Row w12 bw 37 (wC p none c)) := hid hr; clear hr hg))
 go_ret
 exact ⟨rfl, ⟨HBW.out, HBG.out, H12.out.tail, B12.out⟩, E12.out⟩
set_option maxHeartbeats 4000000 in
theorem does_idle {w0 w : World} {bw p gs : Nat} {S : Sp} {c : Int} {G : List Nat} (h : Wj w0 w bw p gs ⟨S, none, c⟩ G) (x : ActJ) (A : Option Addr) (l cap : Nat) (hk : x.kind < 6) (_hc : S.count ≤ 800000) :
  Calls Tryd.prog 11 #[.pointer (some ⟨bw, 0, none⟩), .agg (actC x A l cap)] w (WC w0 w bw p gs ⟨S, none, c⟩ G 0) := by
 obtain ⟨hbw0, hbwG, h⟩ := h
 obtain ⟨h, hrow⟩ := h
 have HRA : Hid (Row (w.alloc (.cells (actC x A l cap) 32)) w.heap.size 32 (actC x A l cap).toList) := hid (Row.new _ _ _)
 have hb0 := (Below.refl w.heap.size w).alloc (Nat.le_refl _) (.cells (actC x A l cap) 32)
 have HJ : Hid (Dd w0 (w.alloc (.cells (actC x A l cap) 32)) p gs S (w.heap.size :: bw :: G)) := hid (h.add hb0 (Nat.le_refl _) (by simp))
 have HK : Hid (Ek w (w.alloc (.cells (actC x A l cap) 32)) (bw :: G)) := hid (h.new hb0).2
 have HRB : Hid (Row (w.alloc (.cells (actC x A l cap) 32)) bw 37 (wC p none c)) := hid (HK.out.row hrow (by simp))
 have ca0 : (w.alloc (.cells (actC x A l cap) 32)).cell? ⟨w.heap.size, 0, none⟩ = some (.int .i64 x.kind) := HRA.out.at_ 0 _ rfl
 have cb0 : (w.alloc (.cells (actC x A l cap) 32)).cell? ⟨bw, 0, none⟩ = some (.pointer (some ⟨p, 0, none⟩)) := HRB.out.at_ 0 _ rfl
 have cb1 : (w.alloc (.cells (actC x A l cap) 32)).cell? ⟨bw, 1, none⟩ = some (.pointer none) := HRB.out.at_ 1 _ rfl
 have HBW := hid hbw0
 have HBG := hid hbwG
 have HNE : Hid (w.heap.size ≠ bw) := hid (by have := hrow.lt; omega)
 clear h hrow hbw0 hbwG _hc
 go_enter Tryd.func11, Tryd.ntmps11
 go_wp2_with fail
 go_ret
 exact ⟨rfl, ⟨HBW.out, HBG.out, HJ.out.tail, HRB.out⟩, HK.out.tail⟩
end Go.Proofs.YtafbeepacncooaaDoor
