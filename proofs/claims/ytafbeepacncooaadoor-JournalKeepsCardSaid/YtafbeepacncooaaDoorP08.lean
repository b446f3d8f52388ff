/-
  The walk of package journal's Void.
-/
import Derived.Test.YtafbeepacncooaaDoorP07
namespace Go.Proofs.YtafbeepacncooaaDoor
open Go.RowKit
set_option maxRecDepth 10000

theorem wpl_slice2l {P : Program} {ops : Array Oper} {rest : List Oper} {o : Oper} {a : Act} {w : World} {Q : Exit → Act → World → Prop} (hgd : o.guard = none) (x y : Operand) (ho : o.op = .buildSlice 82 2 #[(0, x), (1, y)]) (c1 c2 c3 c4 : Value) (hx : a.eval x = .agg #[c1, c2]) (hy : a.eval y = .agg #[c3, c4])
  (hu : P.underlying 82 = some (.slice 87)) (ie : TypeInfo) (hie : P.info? 87 = some ie) (hz : ie.zero = some (.agg #[.int .i64 0, .nilFunc])) (hs : ie.size = 2)
  (h : wpList P ops Q rest (a.put o.dst (.slice (some ⟨w.heap.size, 0, none⟩) 2 2)) (w.alloc (.cells #[c1, c2, c3, c4] 87))) : wpList P ops Q (o :: rest) a w :=
 wpList_plain hgd fun _ hK => wpl_slice2 x y ho c1 c2 c3 c4 hx hy hu ie hie hz hs (hK _ _ h)
theorem void_eq {S : Sp} {J : Jn} (hw : JWf J) {n : Int} (hh : J.has n) : voidJ S J n = if (layL S (voidP (J.item n) n)).2 = 0 then ((layL S (voidP (J.item n) n)).1, J.set n it0, 0) else ((layL S (voidP (J.item n) n)).1, J, (layL S (voidP (J.item n) n)).2) := by
 have hi := hw.it _ hh
 unfold voidJ
 rw [if_neg (not_not_intro hh)]
 by_cases h0 : (J.item n).kind = 0
 ·
  rw [if_pos h0]
  have e : J.item n = it0 := by
   rcases hi with e | ⟨y, _, _, _, e⟩ | ⟨s, _, _, _, e⟩ | e
   ·
    exact e
   ·
    rw [e] at h0; cases h0
   ·
    rw [e] at h0; cases h0
   ·
    rw [e] at h0; cases h0
  unfold voidP
  rw [if_pos h0]
  show _ = if (S, (0 : Int)).2 = 0 then (S, J.set n it0, 0) else _
  rw [if_pos rfl, ← e, jset_same hw.len hh]
 ·
  rw [if_neg h0]
set_option maxHeartbeats 4000000 in
theorem void_argj {w0 w : World} {jp p gs : Nat} {S : Sp} {J : Jn} {G : List Nat} (h : Jd w0 w jp p gs S J G) (hw : JWf J) (n : Int) (hh : ¬ J.has n) (_hc : S.count ≤ 900000) :
  Calls Tryd.prog 20 #[.pointer (some ⟨jp, 0, none⟩), .int .i64 n] w (JC w0 w jp p gs S J G (.int .i64 1)) := by
 have HHA : Hid (Calls Tryd.prog 33 #[.pointer (some ⟨jp, 0, none⟩), .int .i64 n] w fun x w' => x = .returned (.bool false) ∧ w = w') := hid (by
  have := has_any13 h hw.c0 hw.c1 n
  rw [decide_eq_false hh] at this
  exact this)
 have HH := hid h
 clear h hw _hc hh
 go_enter Tryd.func20, Tryd.ntmps20
 go_wp2_with (first
  | (go_at_call 33; refine HHA.out.mono ?_; rintro x w3 ⟨rfl, hw3⟩; subst hw3))
 go_ret
 exact ⟨rfl, HH.out, Ek.refl _ _⟩
set_option maxHeartbeats 4000000 in
theorem void_wasok {w0 w : World} {jp p gs : Nat} {S : Sp} {J : Jn} {G : List Nat} (h : Jd w0 w jp p gs S J G) (hw : JWf J) (n : Int) (hh : J.has n) (hk : (J.item n).kind = 1 ∨ (J.item n).kind = 2) (hz0 : (layL S (voidP (J.item n) n)).2 = 0) (hc : S.count ≤ 900000) :
  Calls Tryd.prog 20 #[.pointer (some ⟨jp, 0, none⟩), .int .i64 n] w (JC w0 w jp p gs (layL S (voidP (J.item n) n)).1 (J.set n it0) G (.int .i64 0)) := by
 obtain ⟨i0, hi0, hi1, hi2⟩ := layInfo
 have HHA : Hid (Calls Tryd.prog 33 #[.pointer (some ⟨jp, 0, none⟩), .int .i64 n] w fun x w' => x = .returned (.bool true) ∧ w = w') := hid (by
  have := has_any13 h hw.c0 hw.c1 n
  rw [decide_eq_true hh] at this
  exact this)
 obtain ⟨s, hs, hso⟩ : ∃ s : Nat, s < 8 ∧ n % 8 = s := ⟨(n % 8).toNat, by omega, by omega⟩
 have h0 := hw.c0
 have hslot : slotN J.c s = n := by
  have := slotN_of hh
  rw [show (n % 8).toNat = s by omega] at this
  exact this
 have HSL : Hid (Calls Tryd.prog 34 #[.int .i64 n] w fun x w' => x = .returned (.int .i64 (s : Int)) ∧ w = w') := hid (by
  have := slotOf_any n (by have := hh.1; omega) w
  rw [hso] at this
  exact this)
 have hb : (s : Int) < 8 := by omega
 have hpn : pN n = 4 + s := by unfold pN; omega
 have hhn : hN n = 12 + s := by unfold hN; omega
 have HXR : Hid (w.rangeAt jp (2 + s * 15) (itC (J.item n))) := hid (by
  have := h.range hs
  rw [hslot] at this
  exact this)
 have HPV : Hid (∀ W, Calls Tryd.prog 45 #[.int .i64 (s : Int), .func (.func 44) #[] #[]] W (VE W (.agg #[.int .i64 ((4 + s : Nat) : Int), fvV]))) := hid fun W => prep_v s W hs
 have HHV : Hid (∀ W, Calls Tryd.prog 43 #[.int .i64 (s : Int), .func (.func 44) #[] #[]] W (VE W (.agg #[.int .i64 ((12 + s : Nat) : Int), fvV]))) := hid fun W => head_v s W hs
 have HWS : Hid (∀ W, Calls Tryd.prog 42 #[.agg (J.item n).cells] W fun e w' => e = .returned (.bool (decide ((J.item n).kind = 1 ∨ (J.item n).kind = 2))) ∧ Below W.heap.size W w') := hid fun W => was_any _ W
 have HLY : Hid (∀ W (X : List Nat) A c L, Jd w0 W jp p gs S J X → LyAt W X A L → L.map Ly.lay = voidP (J.item n) n → L.length ≤ 2 → Calls Tryd.prog 40 #[.pointer (some ⟨jp, 0, none⟩), .slice A (List.length L) c] W (JC w0 W jp p gs (layL S (voidP (J.item n) n)).1 J X (.int .i64 (layL S (voidP (J.item n) n)).2))) := hid fun W X A c L hW hA hm hn => by
  have := lay_any13 hW L A c hA (by omega)
  rw [hm] at this
  exact this
 have HL8 := hid hw.len
 have HS8 := hid hs
 have HI := hid h
 have HOI := hid (itC_one (J.item n))
 have hVP : voidP (J.item n) n = if (J.item n).kind = 0 then [] else if (J.item n).kind = 3 then [lV (4 + s), lV (12 + s)] else [lV (12 + s), lV (4 + s)] := by unfold voidP; rw [hpn, hhn]
 have HDD := hid (decide_eq_true hk)
 have HVV : Hid (([.v (12 + s), .v (4 + s)] : List Ly).map Ly.lay = voidP (J.item n) n) := hid (by rw [hVP, if_neg (by rcases hk with q | q <;> rw [q] <;> decide), if_neg (by rcases hk with q | q <;> rw [q] <;> decide)]; rfl)
 rw [HDD.out] at HWS
 generalize layL S (voidP (J.item n) n) = RES at *
 obtain ⟨S1, z⟩ := RES
 generalize J.item n = x at *
 simp only at *
 subst hz0
 have HSLT := hid hslot
 clear h hw hc hh hk hso hslot hpn hhn hVP hs HDD h0
 go_enter Tryd.func20, Tryd.ntmps20
 go_wp2_with (first
  | (go_at_call 33; refine HHA.out.mono ?_; rintro x w3 ⟨rfl, hw3⟩; subst hw3)
  | (go_at_call 34; refine HSL.out.mono ?_; rintro x w4 ⟨rfl, hw4⟩; subst hw4)
  | (refine wpl_load_midw rfl 44 (.tmp 21) rfl jp (2 + s * 15) rfl (itC x) _ HXR.out Tryd.underlying44 rfl itemSize13 ?_)
  | ((with_reducible show wpList _ _ _ ({ dst := none, op := .store _ (.tmp 7) _, type := _, pos := _, after := _, guard := _ } :: _) _ _); refine wpl_store_st rfl (.tmp 7) (.tmp 22) rfl (n := 15) itemSize13 w.heap.size it0.cells x.cells rfl rfl (Row.new _ _ _) ?_ (hid rfl) (hid rfl) HOI; intro w5 hr5 hg5; obtain ⟨q1, q2⟩ := HI.out.one hg5; have H5 := hid q1; have E5 := hid q2; have R5 := hid hr5; have ck : w5.cell? ⟨w.heap.size, 0, none⟩ = some (.int .i64 x.kind) := hr5.at_ 0 _ rfl;  clear q1 q2 hr5 hg5)
  | (refine wpList_load_row rfl 44 (.tmp 7) rfl w.heap.size rfl 44 x.cells (0, 0) _ R5.out.arr Tryd.underlying44 rfl itemSize13 ?_)
  | (go_at_call 42; refine (HWS.out _).mono ?_; rintro y w6 ⟨rfl, hb6⟩; have H6 := hid (H5.out.new hb6).1; have E6 := hid (E5.out.trans (H5.out.new hb6).2.tail); have R6 := hid ((H5.out.new hb6).2.row R5.out (by simp)); have ck : w6.cell? ⟨w.heap.size, 0, none⟩ = some (.int .i64 x.kind) := R6.out.at_ 0 _ rfl;  clear hb6)
  | (go_at_call 43; refine (HHV.out _).mono ?_; rintro y w7 ⟨rfl, hb⟩; have H7 := hid (H6.out.new hb).1; have E7 := hid (E6.out.trans (H6.out.new hb).2.tail); clear hb)
  | (go_at_call 45; refine (HPV.out _).mono ?_; rintro y w8 ⟨rfl, hb⟩; have H8 := hid (H7.out.new hb).1; have E8 := hid (E7.out.trans (H7.out.new hb).2.tail); clear hb)
  | (refine wpl_slice2l rfl (.tmp 27) (.tmp 29) rfl (.int .i64 ((12 + s : Nat) : Int)) fvV (.int .i64 ((4 + s : Nat) : Int)) fvV rfl rfl Tryd.underlying82 i0 hi0 hi1 hi2 ?_; have q := H8.out.alloc (.cells #[.int .i64 ((12 + s : Nat) : Int), fvV, .int .i64 ((4 + s : Nat) : Int), fvV] 87); have H9 := hid q.1; have E9 := hid (E8.out.trans q.2.tail); have A9 : Hid (LyAt _ (w8.heap.size :: w.heap.size :: G) (some ⟨w8.heap.size, 0, none⟩) [.v (12 + s), .v (4 + s)]) := hid (LyAt.two (Row.new w8 87 #[.int .i64 ((12 + s : Nat) : Int), fvV, .int .i64 ((4 + s : Nat) : Int), fvV]) (by simp) trivial trivial); clear q)
  | (go_at_call 40; refine (HLY.out _ _ _ _ [.v (12 + s), .v (4 + s)] H9.out A9.out HVV.out (by simp)).mono ?_; rintro y w10 ⟨rfl, h10, k10⟩; have H10 := hid h10.tail; have E10 := hid (E9.out.trans k10.tail.tail); clear h10 k10)
  | (refine wpList_store_mid rfl 44 (.tmp 51) (.tmp 48) rfl jp (2 + s * 15) it0.cells rfl rfl (H10.out.there HS8.out _) itemSize13 (itC_one _) ?_; have H11 := hid (H10.out.setIt HL8.out HS8.out it0).1; have E11 := hid (E10.out.trans (H10.out.setIt HL8.out HS8.out it0).2.tail)))
 go_ret
 exact ⟨rfl, by rw [← HSLT.out]; exact H11.out.tail, E11.out⟩
set_option maxHeartbeats 4000000 in
theorem void_waser {w0 w : World} {jp p gs : Nat} {S : Sp} {J : Jn} {G : List Nat} (h : Jd w0 w jp p gs S J G) (hw : JWf J) (n : Int) (hh : J.has n) (hk : (J.item n).kind = 1 ∨ (J.item n).kind = 2) (hz0 : (layL S (voidP (J.item n) n)).2 ≠ 0) (hc : S.count ≤ 900000) :
  Calls Tryd.prog 20 #[.pointer (some ⟨jp, 0, none⟩), .int .i64 n] w (JC w0 w jp p gs (layL S (voidP (J.item n) n)).1 J G (.int .i64 (layL S (voidP (J.item n) n)).2)) := by
 obtain ⟨i0, hi0, hi1, hi2⟩ := layInfo
 have HHA : Hid (Calls Tryd.prog 33 #[.pointer (some ⟨jp, 0, none⟩), .int .i64 n] w fun x w' => x = .returned (.bool true) ∧ w = w') := hid (by
  have := has_any13 h hw.c0 hw.c1 n
  rw [decide_eq_true hh] at this
  exact this)
 obtain ⟨s, hs, hso⟩ : ∃ s : Nat, s < 8 ∧ n % 8 = s := ⟨(n % 8).toNat, by omega, by omega⟩
 have h0 := hw.c0
 have hslot : slotN J.c s = n := by
  have := slotN_of hh
  rw [show (n % 8).toNat = s by omega] at this
  exact this
 have HSL : Hid (Calls Tryd.prog 34 #[.int .i64 n] w fun x w' => x = .returned (.int .i64 (s : Int)) ∧ w = w') := hid (by
  have := slotOf_any n (by have := hh.1; omega) w
  rw [hso] at this
  exact this)
 have hb : (s : Int) < 8 := by omega
 have hpn : pN n = 4 + s := by unfold pN; omega
 have hhn : hN n = 12 + s := by unfold hN; omega
 have HXR : Hid (w.rangeAt jp (2 + s * 15) (itC (J.item n))) := hid (by
  have := h.range hs
  rw [hslot] at this
  exact this)
 have HPV : Hid (∀ W, Calls Tryd.prog 45 #[.int .i64 (s : Int), .func (.func 44) #[] #[]] W (VE W (.agg #[.int .i64 ((4 + s : Nat) : Int), fvV]))) := hid fun W => prep_v s W hs
 have HHV : Hid (∀ W, Calls Tryd.prog 43 #[.int .i64 (s : Int), .func (.func 44) #[] #[]] W (VE W (.agg #[.int .i64 ((12 + s : Nat) : Int), fvV]))) := hid fun W => head_v s W hs
 have HWS : Hid (∀ W, Calls Tryd.prog 42 #[.agg (J.item n).cells] W fun e w' => e = .returned (.bool (decide ((J.item n).kind = 1 ∨ (J.item n).kind = 2))) ∧ Below W.heap.size W w') := hid fun W => was_any _ W
 have HLY : Hid (∀ W (X : List Nat) A c L, Jd w0 W jp p gs S J X → LyAt W X A L → L.map Ly.lay = voidP (J.item n) n → L.length ≤ 2 → Calls Tryd.prog 40 #[.pointer (some ⟨jp, 0, none⟩), .slice A (List.length L) c] W (JC w0 W jp p gs (layL S (voidP (J.item n) n)).1 J X (.int .i64 (layL S (voidP (J.item n) n)).2))) := hid fun W X A c L hW hA hm hn => by
  have := lay_any13 hW L A c hA (by omega)
  rw [hm] at this
  exact this
 have HL8 := hid hw.len
 have HS8 := hid hs
 have HI := hid h
 have HOI := hid (itC_one (J.item n))
 have hVP : voidP (J.item n) n = if (J.item n).kind = 0 then [] else if (J.item n).kind = 3 then [lV (4 + s), lV (12 + s)] else [lV (12 + s), lV (4 + s)] := by unfold voidP; rw [hpn, hhn]
 have HDD := hid (decide_eq_true hk)
 have HVV : Hid (([.v (12 + s), .v (4 + s)] : List Ly).map Ly.lay = voidP (J.item n) n) := hid (by rw [hVP, if_neg (by rcases hk with q | q <;> rw [q] <;> decide), if_neg (by rcases hk with q | q <;> rw [q] <;> decide)]; rfl)
 rw [HDD.out] at HWS
 generalize layL S (voidP (J.item n) n) = RES at *
 obtain ⟨S1, z⟩ := RES
 generalize J.item n = x at *
 simp only at *
 have HZ0 := hid (show (z != 0) = true by simpa using hz0)
 have HSLT := hid hslot
 clear h hw hc hh hk hso hslot hpn hhn hVP hs HDD h0 hz0
 have hz0 := HZ0.out
 go_enter Tryd.func20, Tryd.ntmps20
 go_wp2_with (first
  | (go_at_call 33; refine HHA.out.mono ?_; rintro x w3 ⟨rfl, hw3⟩; subst hw3)
  | (go_at_call 34; refine HSL.out.mono ?_; rintro x w4 ⟨rfl, hw4⟩; subst hw4)
  | (refine wpl_load_midw rfl 44 (.tmp 21) rfl jp (2 + s * 15) rfl (itC x) _ HXR.out Tryd.underlying44 rfl itemSize13 ?_)
  | ((with_reducible show wpList _ _ _ ({ dst := none, op := .store _ (.tmp 7) _, type := _, pos := _, after := _, guard := _ } :: _) _ _); refine wpl_store_st rfl (.tmp 7) (.tmp 22) rfl (n := 15) itemSize13 w.heap.size it0.cells x.cells rfl rfl (Row.new _ _ _) ?_ (hid rfl) (hid rfl) HOI; intro w5 hr5 hg5; obtain ⟨q1, q2⟩ := HI.out.one hg5; have H5 := hid q1; have E5 := hid q2; have R5 := hid hr5; have ck : w5.cell? ⟨w.heap.size, 0, none⟩ = some (.int .i64 x.kind) := hr5.at_ 0 _ rfl;  clear q1 q2 hr5 hg5)
  | (refine wpList_load_row rfl 44 (.tmp 7) rfl w.heap.size rfl 44 x.cells (0, 0) _ R5.out.arr Tryd.underlying44 rfl itemSize13 ?_)
  | (go_at_call 42; refine (HWS.out _).mono ?_; rintro y w6 ⟨rfl, hb6⟩; have H6 := hid (H5.out.new hb6).1; have E6 := hid (E5.out.trans (H5.out.new hb6).2.tail); have R6 := hid ((H5.out.new hb6).2.row R5.out (by simp)); have ck : w6.cell? ⟨w.heap.size, 0, none⟩ = some (.int .i64 x.kind) := R6.out.at_ 0 _ rfl;  clear hb6)
  | (go_at_call 43; refine (HHV.out _).mono ?_; rintro y w7 ⟨rfl, hb⟩; have H7 := hid (H6.out.new hb).1; have E7 := hid (E6.out.trans (H6.out.new hb).2.tail); clear hb)
  | (go_at_call 45; refine (HPV.out _).mono ?_; rintro y w8 ⟨rfl, hb⟩; have H8 := hid (H7.out.new hb).1; have E8 := hid (E7.out.trans (H7.out.new hb).2.tail); clear hb)
  | (refine wpl_slice2l rfl (.tmp 27) (.tmp 29) rfl (.int .i64 ((12 + s : Nat) : Int)) fvV (.int .i64 ((4 + s : Nat) : Int)) fvV rfl rfl Tryd.underlying82 i0 hi0 hi1 hi2 ?_; have q := H8.out.alloc (.cells #[.int .i64 ((12 + s : Nat) : Int), fvV, .int .i64 ((4 + s : Nat) : Int), fvV] 87); have H9 := hid q.1; have E9 := hid (E8.out.trans q.2.tail); have A9 : Hid (LyAt _ (w8.heap.size :: w.heap.size :: G) (some ⟨w8.heap.size, 0, none⟩) [.v (12 + s), .v (4 + s)]) := hid (LyAt.two (Row.new w8 87 #[.int .i64 ((12 + s : Nat) : Int), fvV, .int .i64 ((4 + s : Nat) : Int), fvV]) (by simp) trivial trivial); clear q)
  | (go_at_call 40; refine (HLY.out _ _ _ _ [.v (12 + s), .v (4 + s)] H9.out A9.out HVV.out (by simp)).mono ?_; rintro y w10 ⟨rfl, h10, k10⟩; have H10 := hid h10.tail; have E10 := hid (E9.out.trans k10.tail.tail); clear h10 k10))
 go_ret
 exact ⟨rfl, H10.out.tail, E10.out⟩
set_option maxHeartbeats 4000000 in
theorem void_unsok {w0 w : World} {jp p gs : Nat} {S : Sp} {J : Jn} {G : List Nat} (h : Jd w0 w jp p gs S J G) (hw : JWf J) (n : Int) (hh : J.has n) (hk : (J.item n).kind = 3) (hz0 : (layL S (voidP (J.item n) n)).2 = 0) (hc : S.count ≤ 900000) :
  Calls Tryd.prog 20 #[.pointer (some ⟨jp, 0, none⟩), .int .i64 n] w (JC w0 w jp p gs (layL S (voidP (J.item n) n)).1 (J.set n it0) G (.int .i64 0)) := by
 obtain ⟨i0, hi0, hi1, hi2⟩ := layInfo
 have HHA : Hid (Calls Tryd.prog 33 #[.pointer (some ⟨jp, 0, none⟩), .int .i64 n] w fun x w' => x = .returned (.bool true) ∧ w = w') := hid (by
  have := has_any13 h hw.c0 hw.c1 n
  rw [decide_eq_true hh] at this
  exact this)
 obtain ⟨s, hs, hso⟩ : ∃ s : Nat, s < 8 ∧ n % 8 = s := ⟨(n % 8).toNat, by omega, by omega⟩
 have h0 := hw.c0
 have hslot : slotN J.c s = n := by
  have := slotN_of hh
  rw [show (n % 8).toNat = s by omega] at this
  exact this
 have HSL : Hid (Calls Tryd.prog 34 #[.int .i64 n] w fun x w' => x = .returned (.int .i64 (s : Int)) ∧ w = w') := hid (by
  have := slotOf_any n (by have := hh.1; omega) w
  rw [hso] at this
  exact this)
 have hb : (s : Int) < 8 := by omega
 have hpn : pN n = 4 + s := by unfold pN; omega
 have hhn : hN n = 12 + s := by unfold hN; omega
 have HXR : Hid (w.rangeAt jp (2 + s * 15) (itC (J.item n))) := hid (by
  have := h.range hs
  rw [hslot] at this
  exact this)
 have HPV : Hid (∀ W, Calls Tryd.prog 45 #[.int .i64 (s : Int), .func (.func 44) #[] #[]] W (VE W (.agg #[.int .i64 ((4 + s : Nat) : Int), fvV]))) := hid fun W => prep_v s W hs
 have HHV : Hid (∀ W, Calls Tryd.prog 43 #[.int .i64 (s : Int), .func (.func 44) #[] #[]] W (VE W (.agg #[.int .i64 ((12 + s : Nat) : Int), fvV]))) := hid fun W => head_v s W hs
 have HWS : Hid (∀ W, Calls Tryd.prog 42 #[.agg (J.item n).cells] W fun e w' => e = .returned (.bool (decide ((J.item n).kind = 1 ∨ (J.item n).kind = 2))) ∧ Below W.heap.size W w') := hid fun W => was_any _ W
 have HLY : Hid (∀ W (X : List Nat) A c L, Jd w0 W jp p gs S J X → LyAt W X A L → L.map Ly.lay = voidP (J.item n) n → L.length ≤ 2 → Calls Tryd.prog 40 #[.pointer (some ⟨jp, 0, none⟩), .slice A (List.length L) c] W (JC w0 W jp p gs (layL S (voidP (J.item n) n)).1 J X (.int .i64 (layL S (voidP (J.item n) n)).2))) := hid fun W X A c L hW hA hm hn => by
  have := lay_any13 hW L A c hA (by omega)
  rw [hm] at this
  exact this
 have HL8 := hid hw.len
 have HS8 := hid hs
 have HI := hid h
 have HOI := hid (itC_one (J.item n))
 have hVP : voidP (J.item n) n = if (J.item n).kind = 0 then [] else if (J.item n).kind = 3 then [lV (4 + s), lV (12 + s)] else [lV (12 + s), lV (4 + s)] := by unfold voidP; rw [hpn, hhn]
 have HDD : Hid (decide ((J.item n).kind = 1 ∨ (J.item n).kind = 2) = false) := hid (by rw [hk]; rfl)
 have HVV : Hid (([.v (4 + s), .v (12 + s)] : List Ly).map Ly.lay = voidP (J.item n) n) := hid (by rw [hVP, if_neg (by rw [hk]; decide), if_pos hk]; rfl)
 have HKK := hid hk
 rw [HDD.out] at HWS
 generalize layL S (voidP (J.item n) n) = RES at *
 obtain ⟨S1, z⟩ := RES
 generalize J.item n = x at *
 simp only at *
 subst hz0
 have HSLT := hid hslot
 clear h hw hc hh hk hso hslot hpn hhn hVP hs HDD h0
 go_enter Tryd.func20, Tryd.ntmps20
 go_wp2_with (first
  | (go_at_call 33; refine HHA.out.mono ?_; rintro x w3 ⟨rfl, hw3⟩; subst hw3)
  | (go_at_call 34; refine HSL.out.mono ?_; rintro x w4 ⟨rfl, hw4⟩; subst hw4)
  | (refine wpl_load_midw rfl 44 (.tmp 21) rfl jp (2 + s * 15) rfl (itC x) _ HXR.out Tryd.underlying44 rfl itemSize13 ?_)
  | ((with_reducible show wpList _ _ _ ({ dst := none, op := .store _ (.tmp 7) _, type := _, pos := _, after := _, guard := _ } :: _) _ _); refine wpl_store_st rfl (.tmp 7) (.tmp 22) rfl (n := 15) itemSize13 w.heap.size it0.cells x.cells rfl rfl (Row.new _ _ _) ?_ (hid rfl) (hid rfl) HOI; intro w5 hr5 hg5; obtain ⟨q1, q2⟩ := HI.out.one hg5; have H5 := hid q1; have E5 := hid q2; have R5 := hid hr5; have ck : w5.cell? ⟨w.heap.size, 0, none⟩ = some (.int .i64 x.kind) := hr5.at_ 0 _ rfl; rw [HKK.out] at ck; clear q1 q2 hr5 hg5)
  | (refine wpList_load_row rfl 44 (.tmp 7) rfl w.heap.size rfl 44 x.cells (0, 0) _ R5.out.arr Tryd.underlying44 rfl itemSize13 ?_)
  | (go_at_call 42; refine (HWS.out _).mono ?_; rintro y w6 ⟨rfl, hb6⟩; have H6 := hid (H5.out.new hb6).1; have E6 := hid (E5.out.trans (H5.out.new hb6).2.tail); have R6 := hid ((H5.out.new hb6).2.row R5.out (by simp)); have ck : w6.cell? ⟨w.heap.size, 0, none⟩ = some (.int .i64 x.kind) := R6.out.at_ 0 _ rfl; rw [HKK.out] at ck; clear hb6)
  | (go_at_call 45; refine (HPV.out _).mono ?_; rintro y w7 ⟨rfl, hb⟩; have H7 := hid (H6.out.new hb).1; have E7 := hid (E6.out.trans (H6.out.new hb).2.tail); clear hb)
  | (go_at_call 43; refine (HHV.out _).mono ?_; rintro y w8 ⟨rfl, hb⟩; have H8 := hid (H7.out.new hb).1; have E8 := hid (E7.out.trans (H7.out.new hb).2.tail); clear hb)
  | (refine wpl_slice2l rfl (.tmp 36) (.tmp 38) rfl (.int .i64 ((4 + s : Nat) : Int)) fvV (.int .i64 ((12 + s : Nat) : Int)) fvV rfl rfl Tryd.underlying82 i0 hi0 hi1 hi2 ?_; have q := H8.out.alloc (.cells #[.int .i64 ((4 + s : Nat) : Int), fvV, .int .i64 ((12 + s : Nat) : Int), fvV] 87); have H9 := hid q.1; have E9 := hid (E8.out.trans q.2.tail); have A9 : Hid (LyAt _ (w8.heap.size :: w.heap.size :: G) (some ⟨w8.heap.size, 0, none⟩) [.v (4 + s), .v (12 + s)]) := hid (LyAt.two (Row.new w8 87 #[.int .i64 ((4 + s : Nat) : Int), fvV, .int .i64 ((12 + s : Nat) : Int), fvV]) (by simp) trivial trivial); clear q)
  | (go_at_call 40; refine (HLY.out _ _ _ _ [.v (4 + s), .v (12 + s)] H9.out A9.out HVV.out (by simp)).mono ?_; rintro y w10 ⟨rfl, h10, k10⟩; have H10 := hid h10.tail; have E10 := hid (E9.out.trans k10.tail.tail); clear h10 k10)
  | (refine wpList_store_mid rfl 44 (.tmp 51) (.tmp 48) rfl jp (2 + s * 15) it0.cells rfl rfl (H10.out.there HS8.out _) itemSize13 (itC_one _) ?_; have H11 := hid (H10.out.setIt HL8.out HS8.out it0).1; have E11 := hid (E10.out.trans (H10.out.setIt HL8.out HS8.out it0).2.tail)))
 go_ret
 exact ⟨rfl, by rw [← HSLT.out]; exact H11.out.tail, E11.out⟩
set_option maxHeartbeats 4000000 in
theorem void_unser {w0 w : World} {jp p gs : Nat} {S : Sp} {J : Jn} {G : List Nat} (h : Jd w0 w jp p gs S J G) (hw : JWf J) (n : Int) (hh : J.has n) (hk : (J.item n).kind = 3) (hz0 : (layL S (voidP (J.item n) n)).2 ≠ 0) (hc : S.count ≤ 900000) :
  Calls Tryd.prog 20 #[.pointer (some ⟨jp, 0, none⟩), .int .i64 n] w (JC w0 w jp p gs (layL S (voidP (J.item n) n)).1 J G (.int .i64 (layL S (voidP (J.item n) n)).2)) := by
 obtain ⟨i0, hi0, hi1, hi2⟩ := layInfo
 have HHA : Hid (Calls Tryd.prog 33 #[.pointer (some ⟨jp, 0, none⟩), .int .i64 n] w fun x w' => x = .returned (.bool true) ∧ w = w') := hid (by
  have := has_any13 h hw.c0 hw.c1 n
  rw [decide_eq_true hh] at this
  exact this)
 obtain ⟨s, hs, hso⟩ : ∃ s : Nat, s < 8 ∧ n % 8 = s := ⟨(n % 8).toNat, by omega, by omega⟩
 have h0 := hw.c0
 have hslot : slotN J.c s = n := by
  have := slotN_of hh
  rw [show (n % 8).toNat = s by omega] at this
  exact this
 have HSL : Hid (Calls Tryd.prog 34 #[.int .i64 n] w fun x w' => x = .returned (.int .i64 (s : Int)) ∧ w = w') := hid (by
  have := slotOf_any n (by have := hh.1; omega) w
  rw [hso] at this
  exact this)
 have hb : (s : Int) < 8 := by omega
 have hpn : pN n = 4 + s := by unfold pN; omega
 have hhn : hN n = 12 + s := by unfold hN; omega
 have HXR : Hid (w.rangeAt jp (2 + s * 15) (itC (J.item n))) := hid (by
  have := h.range hs
  rw [hslot] at this
  exact this)
 have HPV : Hid (∀ W, Calls Tryd.prog 45 #[.int .i64 (s : Int), .func (.func 44) #[] #[]] W (VE W (.agg #[.int .i64 ((4 + s : Nat) : Int), fvV]))) := hid fun W => prep_v s W hs
 have HHV : Hid (∀ W, Calls Tryd.prog 43 #[.int .i64 (s : Int), .func (.func 44) #[] #[]] W (VE W (.agg #[.int .i64 ((12 + s : Nat) : Int), fvV]))) := hid fun W => head_v s W hs
 have HWS : Hid (∀ W, Calls Tryd.prog 42 #[.agg (J.item n).cells] W fun e w' => e = .returned (.bool (decide ((J.item n).kind = 1 ∨ (J.item n).kind = 2))) ∧ Below W.heap.size W w') := hid fun W => was_any _ W
 have HLY : Hid (∀ W (X : List Nat) A c L, Jd w0 W jp p gs S J X → LyAt W X A L → L.map Ly.lay = voidP (J.item n) n → L.length ≤ 2 → Calls Tryd.prog 40 #[.pointer (some ⟨jp, 0, none⟩), .slice A (List.length L) c] W (JC w0 W jp p gs (layL S (voidP (J.item n) n)).1 J X (.int .i64 (layL S (voidP (J.item n) n)).2))) := hid fun W X A c L hW hA hm hn => by
  have := lay_any13 hW L A c hA (by omega)
  rw [hm] at this
  exact this
 have HL8 := hid hw.len
 have HS8 := hid hs
 have HI := hid h
 have HOI := hid (itC_one (J.item n))
 have hVP : voidP (J.item n) n = if (J.item n).kind = 0 then [] else if (J.item n).kind = 3 then [lV (4 + s), lV (12 + s)] else [lV (12 + s), lV (4 + s)] := by unfold voidP; rw [hpn, hhn]
 have HDD : Hid (decide ((J.item n).kind = 1 ∨ (J.item n).kind = 2) = false) := hid (by rw [hk]; rfl)
 have HVV : Hid (([.v (4 + s), .v (12 + s)] : List Ly).map Ly.lay = voidP (J.item n) n) := hid (by rw [hVP, if_neg (by rw [hk]; decide), if_pos hk]; rfl)
 have HKK := hid hk
 rw [HDD.out] at HWS
 generalize layL S (voidP (J.item n) n) = RES at *
 obtain ⟨S1, z⟩ := RES
 generalize J.item n = x at *
 simp only at *
 have HZ0 := hid (show (z != 0) = true by simpa using hz0)
 have HSLT := hid hslot
 clear h hw hc hh hk hso hslot hpn hhn hVP hs HDD h0 hz0
 have hz0 := HZ0.out
 go_enter Tryd.func20, Tryd.ntmps20
 go_wp2_with (first
  | (go_at_call 33; refine HHA.out.mono ?_; rintro x w3 ⟨rfl, hw3⟩; subst hw3)
  | (go_at_call 34; refine HSL.out.mono ?_; rintro x w4 ⟨rfl, hw4⟩; subst hw4)
  | (refine wpl_load_midw rfl 44 (.tmp 21) rfl jp (2 + s * 15) rfl (itC x) _ HXR.out Tryd.underlying44 rfl itemSize13 ?_)
  | ((with_reducible show wpList _ _ _ ({ dst := none, op := .store _ (.tmp 7) _, type := _, pos := _, after := _, guard := _ } :: _) _ _); refine wpl_store_st rfl (.tmp 7) (.tmp 22) rfl (n := 15) itemSize13 w.heap.size it0.cells x.cells rfl rfl (Row.new _ _ _) ?_ (hid rfl) (hid rfl) HOI; intro w5 hr5 hg5; obtain ⟨q1, q2⟩ := HI.out.one hg5; have H5 := hid q1; have E5 := hid q2; have R5 := hid hr5; have ck : w5.cell? ⟨w.heap.size, 0, none⟩ = some (.int .i64 x.kind) := hr5.at_ 0 _ rfl; rw [HKK.out] at ck; clear q1 q2 hr5 hg5)
  | (refine wpList_load_row rfl 44 (.tmp 7) rfl w.heap.size rfl 44 x.cells (0, 0) _ R5.out.arr Tryd.underlying44 rfl itemSize13 ?_)
  | (go_at_call 42; refine (HWS.out _).mono ?_; rintro y w6 ⟨rfl, hb6⟩; have H6 := hid (H5.out.new hb6).1; have E6 := hid (E5.out.trans (H5.out.new hb6).2.tail); have R6 := hid ((H5.out.new hb6).2.row R5.out (by simp)); have ck : w6.cell? ⟨w.heap.size, 0, none⟩ = some (.int .i64 x.kind) := R6.out.at_ 0 _ rfl; rw [HKK.out] at ck; clear hb6)
  | (go_at_call 45; refine (HPV.out _).mono ?_; rintro y w7 ⟨rfl, hb⟩; have H7 := hid (H6.out.new hb).1; have E7 := hid (E6.out.trans (H6.out.new hb).2.tail); clear hb)
  | (go_at_call 43; refine (HHV.out _).mono ?_; rintro y w8 ⟨rfl, hb⟩; have H8 := hid (H7.out.new hb).1; have E8 := hid (E7.out.trans (H7.out.new hb).2.tail); clear hb)
  | (refine wpl_slice2l rfl (.tmp 36) (.tmp 38) rfl (.int .i64 ((4 + s : Nat) : Int)) fvV (.int .i64 ((12 + s : Nat) : Int)) fvV rfl rfl Tryd.underlying82 i0 hi0 hi1 hi2 ?_; have q := H8.out.alloc (.cells #[.int .i64 ((4 + s : Nat) : Int), fvV, .int .i64 ((12 + s : Nat) : Int), fvV] 87); have H9 := hid q.1; have E9 := hid (E8.out.trans q.2.tail); have A9 : Hid (LyAt _ (w8.heap.size :: w.heap.size :: G) (some ⟨w8.heap.size, 0, none⟩) [.v (4 + s), .v (12 + s)]) := hid (LyAt.two (Row.new w8 87 #[.int .i64 ((4 + s : Nat) : Int), fvV, .int .i64 ((12 + s : Nat) : Int), fvV]) (by simp) trivial trivial); clear q)
  | (go_at_call 40; refine (HLY.out _ _ _ _ [.v (4 + s), .v (12 + s)] H9.out A9.out HVV.out (by simp)).mono ?_; rintro y w10 ⟨rfl, h10, k10⟩; have H10 := hid h10.tail; have E10 := hid (E9.out.trans k10.tail.tail); clear h10 k10))
 go_ret
 exact ⟨rfl, H10.out.tail, E10.out⟩
set_option maxHeartbeats 4000000 in
theorem void_lacok {w0 w : World} {jp p gs : Nat} {S : Sp} {J : Jn} {G : List Nat} (h : Jd w0 w jp p gs S J G) (hw : JWf J) (n : Int) (hh : J.has n) (hk : (J.item n).kind = 0) (hz0 : (layL S (voidP (J.item n) n)).2 = 0) (hc : S.count ≤ 900000) :
  Calls Tryd.prog 20 #[.pointer (some ⟨jp, 0, none⟩), .int .i64 n] w (JC w0 w jp p gs (layL S (voidP (J.item n) n)).1 (J.set n it0) G (.int .i64 0)) := by
 obtain ⟨i0, hi0, hi1, hi2⟩ := layInfo
 have HHA : Hid (Calls Tryd.prog 33 #[.pointer (some ⟨jp, 0, none⟩), .int .i64 n] w fun x w' => x = .returned (.bool true) ∧ w = w') := hid (by
  have := has_any13 h hw.c0 hw.c1 n
  rw [decide_eq_true hh] at this
  exact this)
 obtain ⟨s, hs, hso⟩ : ∃ s : Nat, s < 8 ∧ n % 8 = s := ⟨(n % 8).toNat, by omega, by omega⟩
 have h0 := hw.c0
 have hslot : slotN J.c s = n := by
  have := slotN_of hh
  rw [show (n % 8).toNat = s by omega] at this
  exact this
 have HSL : Hid (Calls Tryd.prog 34 #[.int .i64 n] w fun x w' => x = .returned (.int .i64 (s : Int)) ∧ w = w') := hid (by
  have := slotOf_any n (by have := hh.1; omega) w
  rw [hso] at this
  exact this)
 have hb : (s : Int) < 8 := by omega
 have hpn : pN n = 4 + s := by unfold pN; omega
 have hhn : hN n = 12 + s := by unfold hN; omega
 have HXR : Hid (w.rangeAt jp (2 + s * 15) (itC (J.item n))) := hid (by
  have := h.range hs
  rw [hslot] at this
  exact this)
 have HPV : Hid (∀ W, Calls Tryd.prog 45 #[.int .i64 (s : Int), .func (.func 44) #[] #[]] W (VE W (.agg #[.int .i64 ((4 + s : Nat) : Int), fvV]))) := hid fun W => prep_v s W hs
 have HHV : Hid (∀ W, Calls Tryd.prog 43 #[.int .i64 (s : Int), .func (.func 44) #[] #[]] W (VE W (.agg #[.int .i64 ((12 + s : Nat) : Int), fvV]))) := hid fun W => head_v s W hs
 have HWS : Hid (∀ W, Calls Tryd.prog 42 #[.agg (J.item n).cells] W fun e w' => e = .returned (.bool (decide ((J.item n).kind = 1 ∨ (J.item n).kind = 2))) ∧ Below W.heap.size W w') := hid fun W => was_any _ W
 have HLY : Hid (∀ W (X : List Nat) A c L, Jd w0 W jp p gs S J X → LyAt W X A L → L.map Ly.lay = voidP (J.item n) n → L.length ≤ 2 → Calls Tryd.prog 40 #[.pointer (some ⟨jp, 0, none⟩), .slice A (List.length L) c] W (JC w0 W jp p gs (layL S (voidP (J.item n) n)).1 J X (.int .i64 (layL S (voidP (J.item n) n)).2))) := hid fun W X A c L hW hA hm hn => by
  have := lay_any13 hW L A c hA (by omega)
  rw [hm] at this
  exact this
 have HL8 := hid hw.len
 have HS8 := hid hs
 have HI := hid h
 have HOI := hid (itC_one (J.item n))
 have hVP : voidP (J.item n) n = if (J.item n).kind = 0 then [] else if (J.item n).kind = 3 then [lV (4 + s), lV (12 + s)] else [lV (12 + s), lV (4 + s)] := by unfold voidP; rw [hpn, hhn]
 have HDD : Hid (decide ((J.item n).kind = 1 ∨ (J.item n).kind = 2) = false) := hid (by rw [hk]; rfl)
 have HVV : Hid (([] : List Ly).map Ly.lay = voidP (J.item n) n) := hid (by rw [hVP, if_pos hk]; rfl)
 have HKK := hid hk
 rw [HDD.out] at HWS
 generalize layL S (voidP (J.item n) n) = RES at *
 obtain ⟨S1, z⟩ := RES
 generalize J.item n = x at *
 simp only at *
 subst hz0
 have HSLT := hid hslot
 clear h hw hc hh hk hso hslot hpn hhn hVP hs HDD h0
 go_enter Tryd.func20, Tryd.ntmps20
 go_wp2_with (first
  | (go_at_call 33; refine HHA.out.mono ?_; rintro x w3 ⟨rfl, hw3⟩; subst hw3)
  | (go_at_call 34; refine HSL.out.mono ?_; rintro x w4 ⟨rfl, hw4⟩; subst hw4)
  | (refine wpl_load_midw rfl 44 (.tmp 21) rfl jp (2 + s * 15) rfl (itC x) _ HXR.out Tryd.underlying44 rfl itemSize13 ?_)
  | ((with_reducible show wpList _ _ _ ({ dst := none, op := .store _ (.tmp 7) _, type := _, pos := _, after := _, guard := _ } :: _) _ _); refine wpl_store_st rfl (.tmp 7) (.tmp 22) rfl (n := 15) itemSize13 w.heap.size it0.cells x.cells rfl rfl (Row.new _ _ _) ?_ (hid rfl) (hid rfl) HOI; intro w5 hr5 hg5; obtain ⟨q1, q2⟩ := HI.out.one hg5; have H5 := hid q1; have E5 := hid q2; have R5 := hid hr5; have ck : w5.cell? ⟨w.heap.size, 0, none⟩ = some (.int .i64 x.kind) := hr5.at_ 0 _ rfl; rw [HKK.out] at ck; clear q1 q2 hr5 hg5)
  | (refine wpList_load_row rfl 44 (.tmp 7) rfl w.heap.size rfl 44 x.cells (0, 0) _ R5.out.arr Tryd.underlying44 rfl itemSize13 ?_)
  | (go_at_call 42; refine (HWS.out _).mono ?_; rintro y w6 ⟨rfl, hb6⟩; have H6 := hid (H5.out.new hb6).1; have E6 := hid (E5.out.trans (H5.out.new hb6).2.tail); have R6 := hid ((H5.out.new hb6).2.row R5.out (by simp)); have ck : w6.cell? ⟨w.heap.size, 0, none⟩ = some (.int .i64 x.kind) := R6.out.at_ 0 _ rfl; rw [HKK.out] at ck; clear hb6)
  | (go_at_call 40; refine (HLY.out _ _ none 0 [] H6.out ⟨by simp, by simp⟩ HVV.out (by simp)).mono ?_; rintro y w10 ⟨rfl, h10, k10⟩; have H10 := hid h10; have E10 := hid (E6.out.trans k10.tail); clear h10 k10)
  | (refine wpList_store_mid rfl 44 (.tmp 51) (.tmp 48) rfl jp (2 + s * 15) it0.cells rfl rfl (H10.out.there HS8.out _) itemSize13 (itC_one _) ?_; have H11 := hid (H10.out.setIt HL8.out HS8.out it0).1; have E11 := hid (E10.out.trans (H10.out.setIt HL8.out HS8.out it0).2.tail)))
 go_ret
 exact ⟨rfl, by rw [← HSLT.out]; exact H11.out.tail, E11.out⟩
theorem void_any13 {w0 w : World} {jp p gs : Nat} {S : Sp} {J : Jn} {G : List Nat} (h : Jd w0 w jp p gs S J G) (hw : JWf J) (n : Int) (hc : S.count ≤ 900000) :
  Calls Tryd.prog 20 #[.pointer (some ⟨jp, 0, none⟩), .int .i64 n] w (JC w0 w jp p gs (voidJ S J n).1 (voidJ S J n).2.1 G (.int .i64 (voidJ S J n).2.2)) := by
 by_cases hh : J.has n
 ·
  rw [void_eq hw hh]
  have hk : ((J.item n).kind = 1 ∨ (J.item n).kind = 2) ∨ (J.item n).kind = 3 ∨ (J.item n).kind = 0 := by
   rcases hw.it _ hh with e | ⟨y, _, _, _, e⟩ | ⟨s, _, _, _, e⟩ | e <;> rw [e]
   ·
    exact .inr (.inr rfl)
   ·
    exact .inl (.inl rfl)
   ·
    exact .inl (.inr rfl)
   ·
    exact .inr (.inl rfl)
  by_cases hz : (layL S (voidP (J.item n) n)).2 = 0
  ·
   rw [if_pos hz]
   rcases hk with hk | hk | hk
   ·
    exact void_wasok h hw n hh hk hz hc
   ·
    exact void_unsok h hw n hh hk hz hc
   ·
    exact void_lacok h hw n hh hk hz hc
  ·
   rw [if_neg hz]
   rcases hk with hk | hk | hk
   ·
    exact void_waser h hw n hh hk hz hc
   ·
    exact void_unser h hw n hh hk hz hc
   ·
    exact absurd (by unfold voidP; rw [if_pos hk]; rfl) hz
 ·
  have e1 : voidJ S J n = (S, J, 1) := by unfold voidJ; rw [if_pos hh]
  rw [e1]
  exact void_argj h hw n hh hc
end Go.Proofs.YtafbeepacncooaaDoor
/-
  The walk of package journal's Shift.
-/
namespace Go.Proofs.YtafbeepacncooaaDoor
open Go.RowKit
set_option maxRecDepth 10000

/-- slots are let go, from an operation on -/
def clrJ (J : Jn) (lo : Int) : Nat → Jn
 | 0 => J
 | k + 1 => (clrJ J lo k).set (slotN J.c ((lo + (k : Int)) % 8).toNat) it0
theorem clr_c (J : Jn) (lo : Int) : ∀ k, (clrJ J lo k).c = J.c
 | 0 => rfl
 | k + 1 => clr_c J lo k
theorem clr_len (J : Jn) (hl : J.x.length = 8) (lo : Int) : ∀ k, (clrJ J lo k).x.length = 8
 | 0 => hl
 | k + 1 => by
  have := clr_len J hl lo k
  simpa [clrJ, Jn.set] using this
theorem clr_item (J : Jn) (hl : J.x.length = 8) (lo : Int) {s : Nat} (hs : s < 8) : ∀ k, (clrJ J lo k).item (slotN J.c s) = if ∃ j, j < k ∧ ((lo + ((j : Nat) : Int)) % 8).toNat = s then it0 else J.item (slotN J.c s)
 | 0 => by simp [clrJ]
 | k + 1 => by
  have ih := clr_item J hl lo hs k
  have h8 : ((lo + (k : Int)) % 8).toNat < 8 := by omega
  rw [clrJ, set_item (clr_len J hl lo k) _ (by unfold Jn.has; rw [clr_c]; exact slotN_in J.c _)]
  by_cases e : ((lo + (k : Int)) % 8).toNat = s
  ·
   rw [if_pos (by rw [e]), if_pos ⟨k, by omega, e⟩]
  ·
   rw [if_neg, ih]
   ·
    congr 1
    apply propext
    constructor
    ·
     rintro ⟨j, h1, h2⟩
     exact ⟨j, by omega, h2⟩
    ·
     rintro ⟨j, h1, h2⟩
     refine ⟨j, ?_, h2⟩
     have : j ≠ k := fun q => e (by rw [← q]; exact h2)
     omega
   ·
    intro q
    have m1 := slotN_mod J.c s hs
    have m2 := slotN_mod J.c _ h8
    rw [q] at m1
    omega
/-- the journal behind a shift -/
def shiftJ' (J : Jn) (c : Int) : Jn := ⟨c, (List.range 8).map fun (k : Nat) => J.item (c + 1 + (k : Int))⟩
theorem shift_slots {J : Jn} (hw : JWf J) {c : Int} (h1 : J.c ≤ c) (lo : Int) (hlo : lo = (if J.c + 8 ≤ c then c else J.c + 8) + 1) {k : Nat} (hk : lo + (k : Int) = c + 9 ∨ (k = 0 ∧ c + 9 ≤ lo)) :
  (clrJ J lo k).slots = (shiftJ' J c).slots := by
 have h0 := hw.c0
 have hx : ∀ n, c < n → n ≤ c + 8 → (shiftJ' J c).item n = J.item n := fun n n1 n2 => by
  unfold Jn.item shiftJ'
  rw [if_pos (show Jn.has ⟨c, _⟩ n from ⟨n1, n2⟩)]
  show (List.map _ _).getD (n - c - 1).toNat it0 = _
  have hlt : (n - c - 1).toNat < 8 := by omega
  rw [List.getD_eq_getElem?_getD, List.getElem?_map, List.getElem?_range hlt]
  show J.item (c + 1 + (((n - c - 1).toNat : Nat) : Int)) = _
  rw [show c + 1 + (((n - c - 1).toNat : Nat) : Int) = n by omega]
  rfl
 apply List.ext_getElem?
 intro i
 by_cases hi : i < 8
 ·
  rw [Jn.slots_get _ hi, Jn.slots_get _ hi, clr_c, clr_item J hw.len lo hi k]
  have hc : (shiftJ' J c).c = c := rfl
  rw [hc, hx _ (slotN_in c i).1 (slotN_in c i).2]
  have m1 := slotN_mod J.c i hi
  have m2 := slotN_mod c i hi
  obtain ⟨a1, a2⟩ := slotN_in J.c i
  obtain ⟨b1, b2⟩ := slotN_in c i
  by_cases hin : slotN c i ≤ J.c + 8
  ·
   rw [if_neg, show slotN c i = slotN J.c i by omega]
   rintro ⟨j, j1, j2⟩
   split at hlo <;> omega
  ·
   rw [if_pos]
   ·
    unfold Jn.item
    rw [if_neg (fun q => hin q.2)]
   ·
    refine ⟨(slotN c i - lo).toNat, ?_, ?_⟩ <;> split at hlo <;> omega
 ·
  rw [List.getElem?_eq_none (by rw [Jn.slots_len]; omega), List.getElem?_eq_none (by rw [Jn.slots_len]; omega)]
set_option maxHeartbeats 4000000 in
theorem shift_low {w0 w : World} {jp p gs : Nat} {S : Sp} {J : Jn} {G : List Nat} (h : Jd w0 w jp p gs S J G) (_hw : JWf J) (c : Int) (hc : c < J.c) :
  Calls Tryd.prog 21 #[.pointer (some ⟨jp, 0, none⟩), .int .i64 c] w (JC w0 w jp p gs S J G (.int .i64 1)) := by
 have c1 := h.c1
 have HH := hid h
 clear h _hw
 go_enter Tryd.func21, Tryd.ntmps21
 go_wp2_with fail
 go_ret
 exact ⟨rfl, HH.out, Ek.refl _ _⟩
set_option maxHeartbeats 4000000 in
theorem shift_high {w0 w : World} {jp p gs : Nat} {S : Sp} {J : Jn} {G : List Nat} (h : Jd w0 w jp p gs S J G) (_hw : JWf J) (c : Int) (hc : J.c ≤ c) (hc2 : 72057594037927927 < c) :
  Calls Tryd.prog 21 #[.pointer (some ⟨jp, 0, none⟩), .int .i64 c] w (JC w0 w jp p gs S J G (.int .i64 1)) := by
 have c1 := h.c1
 have HH := hid h
 clear h _hw
 have hc3 : ¬ c < J.c := by omega
 go_enter Tryd.func21, Tryd.ntmps21
 go_wp2_with fail
 go_ret
 exact ⟨rfl, HH.out, Ek.refl _ _⟩
set_option maxHeartbeats 4000000 in
theorem shift_okj {w0 w : World} {jp p gs : Nat} {S : Sp} {J : Jn} {G : List Nat} (h : Jd w0 w jp p gs S J G) (hw : JWf J) (c : Int) (hc : J.c ≤ c) (hc2 : c ≤ 72057594037927927) :
  Calls Tryd.prog 21 #[.pointer (some ⟨jp, 0, none⟩), .int .i64 c] w (JC w0 w jp p gs S (shiftJ' J c) G (.int .i64 0)) := by
 have h0 := hw.c0
 have h1 := hw.c1
 have c1 := h.c1
 have hn1 : ¬ c < J.c := by omega
 have hn2 : ¬ 72057594037927927 < c := by omega
 have e8 : IntKind.i64.wrap (J.c + 8) = J.c + 8 := w64 (by omega) (by omega)
 have e9 : IntKind.i64.wrap (c + 8) = c + 8 := w64 (by omega) (by omega)
 obtain ⟨lo, hlo⟩ : ∃ lo, lo = (if J.c + 8 ≤ c then c else J.c + 8) + 1 := ⟨_, rfl⟩
 have hlb : c < lo ∧ lo ≤ c + 9 ∧ J.c + 8 < lo := by split at hlo <;> omega
 have hmx : IntKind.i64.wrap (max c (J.c + 8) + 1) = lo := by rw [w64 (by omega) (by omega)]; split at hlo <;> omega
 have hmx2 : max c (J.c + 8) + 1 = lo := by split at hlo <;> omega
 have HSS : Hid (∀ k : Nat, (lo + (k : Int) = c + 9 ∨ (k = 0 ∧ c + 9 ≤ lo)) → (clrJ J lo k).slots = (shiftJ' J c).slots) := hid fun k hk => shift_slots hw hc lo hlo hk
 have HL := hid (fun k => clr_len J hw.len lo k)
 have HC := hid (fun k => clr_c J lo k)
 have HB := hid hlb
 have HB2 := hid (show 0 ≤ J.c ∧ c ≤ 72057594037927927 ∧ J.c ≤ c from ⟨h0, hc2, hc⟩)
 have HW6 : Hid (wrap64 lo = lo) := hid (by have := w64 (x := lo) (by omega) (by omega); simpa [IntKind.wrap_i64, wrap64] using this)
 have HH := hid h
 clear h hw hc hc2 h0 h1 hlo hlb
 go_enter Tryd.func21, Tryd.ntmps21
 go_wp2_with fail
 go_loopw [5] (fun i wr => ∃ k : Nat, (k = 0 ∨ lo + (k : Int) ≤ c + 9) ∧ i = .int .i64 (lo + (k : Int)) ∧ Jd w0 wr jp p gs S (clrJ J lo k) G ∧ Ek w wr G) (fun i _ => (c + 9 - intOf i).toNat)
 case atStart => exact ⟨0, .inl rfl, by rw [HW6.out]; simp, HH.out, Ek.refl _ _⟩
 case round =>
  obtain ⟨k, hk, rfl, hj, hek⟩ := hrel
  have HJ := hid hj
  have HEK := hid hek
  obtain ⟨b1, b2, b3⟩ := HB.out
  obtain ⟨d1, d2, d3⟩ := HB2.out
  by_cases hlt : lo + (k : Int) ≤ c + 8
  ·
   obtain ⟨s, hs, hso⟩ : ∃ s : Nat, s < 8 ∧ (lo + (k : Int)) % 8 = s := ⟨((lo + (k : Int)) % 8).toNat, by omega, by omega⟩
   have hb : (s : Int) < 8 := by omega
   have HSL : Hid (∀ W, Calls Tryd.prog 34 #[.int .i64 (lo + (k : Int))] W fun x w' => x = .returned (.int .i64 (s : Int)) ∧ W = w') := hid fun W => by
    have := slotOf_any (lo + (k : Int)) (by omega) W
    rw [hso] at this
    exact this
   have HS8 := hid hs
   have HL8 := hid (HL.out k)
   have HNX : Hid ((clrJ J lo k).set (slotN (clrJ J lo k).c s) it0 = clrJ J lo (k + 1)) := hid (by rw [clrJ, HC.out, show ((lo + (k : Int)) % 8).toNat = s by omega])
   have e1 : IntKind.i64.wrap (lo + (k : Int) + 1) = lo + (k : Int) + 1 := w64 (by omega) (by omega)
   clear hj hek HSS HL HC hs hk hmx hmx2
   go_wp2_with fail
   try simp only [Act.put, U1,U2,U3,U4,U5,U6]
   refine wp_region_held_drew (S := fun W => (∃ J, Jd w0 W jp p gs S J G) ∧ Ek wr W G) (by kernel_rfl) (⟨⟨_, HJ.out.drew⟩, fun _ _ => rfl⟩) (fun hH => ?_)
   refine tk_ (i := 0) (v := .pointer (some ⟨jp, 0, none⟩)) rfl (Or.inl ⟨by kernel_rfl, fun w' _ => by kernel_rfl⟩) hH ?_
   simp only [Act.put, U1, U3, U4, U5, U6]
   refine tk_ (i := 1) (v := .int .i64 (lo + (k : Int))) rfl (Or.inl ⟨by kernel_rfl, fun w' _ => by kernel_rfl⟩) hH ?_
   simp only [Act.put, U1,U2,U3,U4,U5,U6]
   refine tk_ (i := 3) (v := .agg it0.cells) rfl (Or.inl ⟨by kernel_rfl, fun w' _ => by kernel_rfl⟩) hH ?_
   simp only [Act.put, U1,U2,U3,U4,U5,U6]
   refine tk_ (i := 4) (v := .pointer (some ⟨jp, 0, none⟩)) rfl (Or.inl ⟨by rfl, fun w' hw' => by clear hw'; go_simp⟩) hH ?_
   simp only [Act.put, U1,U2,U3,U4,U5,U6]
   refine tk_ (i := 5) (v := .pointer (some ⟨jp, 2, none⟩)) rfl (Or.inl ⟨by rfl, fun w' hw' => by clear hw'; go_simp⟩) hH ?_
   simp only [Act.put, U1,U2,U3,U4,U5,U6]
   refine wpAnyH_ready (rs := [2]) (by kernel_rfl) (by simp) ?_
   refine AllReadyH.cons rfl (fun K hK => ?_) AllReadyH.nil
   go_simp
   go_at_call 34
   refine (HSL.out _).mono ?_
   rintro y w2 ⟨rfl, hw2⟩
   go_wp2_with fail
   have H2 : Hid (Jd w0 w2 jp p gs S (clrJ J lo k) G) := hid (hw2 ▸ HJ.out.drew)
   have K2 : Hid (Ek wr w2 G) := hid (hw2 ▸ fun _ _ => rfl)
   clear hw2
   refine hK.out _ _ (⟨⟨_, H2.out⟩, K2.out⟩) (fun hH => ?_)
   clear hK K
   try simp only [Act.put, U1,U2,U3,U4,U5,U6]
   refine tk_ (i := 6) (v := .pointer (some ⟨jp, 2 + s * 15, none⟩)) rfl (Or.inl ⟨by rfl, fun w' hw' => by clear hw'; go_simp⟩) hH ?_
   simp only [Act.put, U1,U2,U3,U4,U5,U6]
   refine wpAnyH_ready (rs := [7]) (by kernel_rfl) (by simp) ?_
   refine AllReadyH.cons rfl (fun K hK => ?_) AllReadyH.nil
   rw [if_pos (by kernel_rfl)]
   refine wp_store_mid 44 (.tmp 38) (.tmp 35) rfl jp (2 + s * 15) it0.cells rfl rfl (H2.out.there HS8.out _) itemSize13 (itC_one _) ?_
   refine hK.out _ _ (⟨⟨_, (H2.out.setIt HL8.out HS8.out _).1⟩, K2.out.trans (H2.out.setIt HL8.out HS8.out _).2⟩) (fun hH => ?_)
   clear hK K
   try simp only [Act.put, U1, U2, U3]
   refine wpAnyH_done (by kernel_rfl) ?_ _
   try simp only [Act.put, U1,U2,U3,U4,U5,U6]
   have H3 := hid (H2.out.setIt HL8.out HS8.out it0).1
   have E3 := hid (HEK.out.trans (K2.out.trans (H2.out.setIt HL8.out HS8.out it0).2))
   clear hH
   generalize World.setCells _ jp (2 + s * 15) _ = w3 at *
   rw [HNX.out] at H3
   go_wp2_with fail
   go_roundw
   case rel => exact ⟨k + 1, .inr (by push_cast; omega), by first | rfl | (congr 1; push_cast; omega) | go_num, H3.out, E3.out⟩
   case measure => simp [intOf]; omega
  ·
   have H1 := hid (HSS.out k (by rcases hk with rfl | q <;> omega))
   have c01 : wr.cell? ⟨jp, 1, none⟩ = some (.int .i64 (clrJ J lo k).c) := hj.c1
   have f01 := hj.f 1
   clear HSS HL HC hj hek hmx hmx2 hk
   go_wp2_with fail
   go_ret
   have hg := gset13 wr jp 1 (.int .i64 c)
   have hrow : Row (wr.setCell ⟨jp, 1, none⟩ (.int .i64 c)) jp 69 (jC p (shiftJ' J c).c (shiftJ' J c).slots) := by
    rw [← H1.out]
    exact HJ.out.row.set_ 1 (.int .i64 c)
   obtain ⟨q1, q2⟩ := HJ.out.turn (J' := shiftJ' J c) hg hrow
   exact ⟨rfl, q1, HEK.out.trans q2⟩
theorem shift_any13 {w0 w : World} {jp p gs : Nat} {S : Sp} {J : Jn} {G : List Nat} (h : Jd w0 w jp p gs S J G) (hw : JWf J) (c : Int) :
  Calls Tryd.prog 21 #[.pointer (some ⟨jp, 0, none⟩), .int .i64 c] w (JC w0 w jp p gs S (shiftJ J c).1 G (.int .i64 (shiftJ J c).2)) := by
 by_cases hc : c < J.c
 ·
  have e : shiftJ J c = (J, 1) := by unfold shiftJ; rw [if_pos (.inl hc)]
  rw [e]
  exact shift_low h hw c hc
 ·
  by_cases hc2 : 72057594037927927 < c
  ·
   have e : shiftJ J c = (J, 1) := by unfold shiftJ; rw [if_pos (.inr hc2)]
   rw [e]
   exact shift_high h hw c (by omega) hc2
  ·
   have e : shiftJ J c = (shiftJ' J c, 0) := by unfold shiftJ; rw [if_neg (by omega)]; rfl
   rw [e]
   exact shift_okj h hw c (by omega) (by omega)
end Go.Proofs.YtafbeepacncooaaDoor
/-
  The walks of package journal's Read, Item, Head.
-/
namespace Go.Proofs.YtafbeepacncooaaDoor
open Go.RowKit
set_option maxRecDepth 10000

set_option maxHeartbeats 4000000 in
theorem rdj_argj {w0 w : World} {jp p gs : Nat} {S : Sp} {J : Jn} {G : List Nat} (h : Jd w0 w jp p gs S J G) (hw : JWf J) (n : Int) (hh : ¬ J.has n) (_hc : S.count ≤ 900000) :
  Calls Tryd.prog 14 #[.pointer (some ⟨jp, 0, none⟩), .int .i64 n] w (JC w0 w jp p gs S J G (.tuple #[.agg en0.cells, .int .i64 1])) := by
 have HZE := hid esize
 have HSE : Hid (∀ t : En, t.cells.size = 9) := hid fun t => rfl
 have HOE : Hid (∀ t : En, t.cells.all (·.oneCell') = true) := hid ecells_one
 have HA := hid (h.alloc (.cells en0.cells 28)).1
 have HK := hid (h.alloc (.cells en0.cells 28)).2
 have HRA : Hid (Row (w.alloc (.cells en0.cells 28)) w.heap.size 28 en0.cells.toList) := hid (Row.new _ _ _)
 have HSZ0 := hid h.size
 have HNG : Hid (w.heap.size ∉ G) := hid fun hn => Nat.lt_irrefl _ (h.lt _ hn)
 have HHA : Hid (Calls Tryd.prog 33 #[.pointer (some ⟨jp, 0, none⟩), .int .i64 n] (w.alloc (.cells en0.cells 28)) fun x w' => x = .returned (.bool false) ∧ w.alloc (.cells en0.cells 28) = w') := hid (by
  have := has_any13 HA.out hw.c0 hw.c1 n
  rw [decide_eq_false hh] at this
  exact this)
 clear h hw _hc hh
 go_enter Tryd.func14, Tryd.ntmps14
 go_wp2_with (first
  | (go_at_call 33; refine HHA.out.mono ?_; rintro x w3 ⟨rfl, hw3⟩; subst hw3)
  | ((with_reducible show wpList _ _ _ ({ dst := none, op := .store _ (.tmp 4) (.tmp 18), type := _, pos := _, after := _, guard := _ } :: _) _ _); refine wpl_store_st rfl (.tmp 4) (.tmp 18) rfl (n := 9) HZE.out w.heap.size en0.cells en0.cells rfl rfl HRA.out ?_ (hid rfl) (hid (HSE.out _)) (hid (HOE.out _)); intro w9 hr9 hg9; have H9 := hid (HA.out.put (g := w.heap.size) (by simp) HSZ0.out hg9); have E9 := hid (HK.out.trans (ek_put hg9 (fun g hg => HA.out.lt g (by simp [hg])) HNG.out)); have R9 := hid hr9; clear hr9 hg9))
 exact bodyPost_ret (v := .tuple #[.agg en0.cells, .int .i64 1]) (results_cell1 rfl _ _ w.heap.size 28 en0.cells (0, 0) _ (.int .i64 1) rfl rfl R9.out.arr Tryd.underlying28 rfl (by rw [HSE.out]; exact HZE.out)) rfl ⟨rfl, H9.out.tail, E9.out⟩
set_option maxHeartbeats 4000000 in
theorem rdj_lac {w0 w : World} {jp p gs : Nat} {S : Sp} {J : Jn} {G : List Nat} (h : Jd w0 w jp p gs S J G) (hw : JWf J) (n : Int) (hh : J.has n) (hk : (J.item n).kind = 0) (_hc : S.count ≤ 900000) :
  Calls Tryd.prog 14 #[.pointer (some ⟨jp, 0, none⟩), .int .i64 n] w (JC w0 w jp p gs S J G (.tuple #[.agg en0.cells, .int .i64 8])) := by
 have HZE := hid esize
 have HSE : Hid (∀ t : En, t.cells.size = 9) := hid fun t => rfl
 have HOE : Hid (∀ t : En, t.cells.all (·.oneCell') = true) := hid ecells_one
 have HA := hid (h.alloc (.cells en0.cells 28)).1
 have HK := hid (h.alloc (.cells en0.cells 28)).2
 have HRA : Hid (Row (w.alloc (.cells en0.cells 28)) w.heap.size 28 en0.cells.toList) := hid (Row.new _ _ _)
 have HSZ0 := hid h.size
 have HNG : Hid (w.heap.size ∉ G) := hid fun hn => Nat.lt_irrefl _ (h.lt _ hn)
 have HHA : Hid (Calls Tryd.prog 33 #[.pointer (some ⟨jp, 0, none⟩), .int .i64 n] (w.alloc (.cells en0.cells 28)) fun x w' => x = .returned (.bool true) ∧ w.alloc (.cells en0.cells 28) = w') := hid (by
  have := has_any13 HA.out hw.c0 hw.c1 n
  rw [decide_eq_true hh] at this
  exact this)
 obtain ⟨s, hs, hso⟩ : ∃ s : Nat, s < 8 ∧ n % 8 = s := ⟨(n % 8).toNat, by omega, by omega⟩
 have h0 := hw.c0
 have hslot : slotN J.c s = n := by
  have := slotN_of hh
  rw [show (n % 8).toNat = s by omega] at this
  exact this
 have HSL : Hid (Calls Tryd.prog 34 #[.int .i64 n] (w.alloc (.cells en0.cells 28)) fun x w' => x = .returned (.int .i64 (s : Int)) ∧ w.alloc (.cells en0.cells 28) = w') := hid (by
  have := slotOf_any n (by have := hh.1; omega) (w.alloc (.cells en0.cells 28))
  rw [hso] at this
  exact this)
 have hb : (s : Int) < 8 := by omega
 have ck : (w.alloc (.cells en0.cells 28)).cell? ⟨jp, 2 + s * 15, none⟩ = some (.int .i64 (J.item n).kind) := by
  have := HA.out.kind hs
  rw [hslot] at this
  exact this
 have e4 : IntKind.i64.wrap (4 + (s : Int)) = ((4 + s : Nat) : Int) := by rw [w64 (by omega) (by omega)]; omega
 have hpn : pN n = 4 + s := by unfold pN; omega
 have c0 := HA.out.c0
 rw [hk] at ck
 clear h hw _hc hh hk hso hslot h0 hs e4 hpn c0
 go_enter Tryd.func14, Tryd.ntmps14
 go_wp2_with (first
  | (go_at_call 33; refine HHA.out.mono ?_; rintro x w3 ⟨rfl, hw3⟩; subst hw3)
  | (go_at_call 34; refine HSL.out.mono ?_; rintro x w4 ⟨rfl, hw4⟩; subst hw4)
  | ((with_reducible show wpList _ _ _ ({ dst := none, op := .store _ (.tmp 4) (.tmp 30), type := _, pos := _, after := _, guard := _ } :: _) _ _); refine wpl_store_st rfl (.tmp 4) (.tmp 30) rfl (n := 9) HZE.out w.heap.size en0.cells en0.cells rfl rfl HRA.out ?_ (hid rfl) (hid (HSE.out _)) (hid (HOE.out _)); intro w9 hr9 hg9; have H9 := hid (HA.out.put (g := w.heap.size) (by simp) HSZ0.out hg9); have E9 := hid (HK.out.trans (ek_put hg9 (fun g hg => HA.out.lt g (by simp [hg])) HNG.out)); have R9 := hid hr9; clear hr9 hg9))
 exact bodyPost_ret (v := .tuple #[.agg en0.cells, .int .i64 8]) (results_cell1 rfl _ _ w.heap.size 28 en0.cells (0, 0) _ (.int .i64 8) rfl rfl R9.out.arr Tryd.underlying28 rfl (by rw [HSE.out]; exact HZE.out)) rfl ⟨rfl, H9.out.tail, E9.out⟩
set_option maxHeartbeats 4000000 in
theorem rdj_fau {w0 w : World} {jp p gs : Nat} {S : Sp} {J : Jn} {G : List Nat} (h : Jd w0 w jp p gs S J G) (hw : JWf J) (n : Int) (hh : J.has n) (hk : (J.item n).kind = 2) (_hc : S.count ≤ 900000) :
  Calls Tryd.prog 14 #[.pointer (some ⟨jp, 0, none⟩), .int .i64 n] w (JC w0 w jp p gs S J G (.tuple #[.agg en0.cells, .int .i64 11])) := by
 have HZE := hid esize
 have HSE : Hid (∀ t : En, t.cells.size = 9) := hid fun t => rfl
 have HOE : Hid (∀ t : En, t.cells.all (·.oneCell') = true) := hid ecells_one
 have HA := hid (h.alloc (.cells en0.cells 28)).1
 have HK := hid (h.alloc (.cells en0.cells 28)).2
 have HRA : Hid (Row (w.alloc (.cells en0.cells 28)) w.heap.size 28 en0.cells.toList) := hid (Row.new _ _ _)
 have HSZ0 := hid h.size
 have HNG : Hid (w.heap.size ∉ G) := hid fun hn => Nat.lt_irrefl _ (h.lt _ hn)
 have HHA : Hid (Calls Tryd.prog 33 #[.pointer (some ⟨jp, 0, none⟩), .int .i64 n] (w.alloc (.cells en0.cells 28)) fun x w' => x = .returned (.bool true) ∧ w.alloc (.cells en0.cells 28) = w') := hid (by
  have := has_any13 HA.out hw.c0 hw.c1 n
  rw [decide_eq_true hh] at this
  exact this)
 obtain ⟨s, hs, hso⟩ : ∃ s : Nat, s < 8 ∧ n % 8 = s := ⟨(n % 8).toNat, by omega, by omega⟩
 have h0 := hw.c0
 have hslot : slotN J.c s = n := by
  have := slotN_of hh
  rw [show (n % 8).toNat = s by omega] at this
  exact this
 have HSL : Hid (Calls Tryd.prog 34 #[.int .i64 n] (w.alloc (.cells en0.cells 28)) fun x w' => x = .returned (.int .i64 (s : Int)) ∧ w.alloc (.cells en0.cells 28) = w') := hid (by
  have := slotOf_any n (by have := hh.1; omega) (w.alloc (.cells en0.cells 28))
  rw [hso] at this
  exact this)
 have hb : (s : Int) < 8 := by omega
 have ck : (w.alloc (.cells en0.cells 28)).cell? ⟨jp, 2 + s * 15, none⟩ = some (.int .i64 (J.item n).kind) := by
  have := HA.out.kind hs
  rw [hslot] at this
  exact this
 have e4 : IntKind.i64.wrap (4 + (s : Int)) = ((4 + s : Nat) : Int) := by rw [w64 (by omega) (by omega)]; omega
 have hpn : pN n = 4 + s := by unfold pN; omega
 have c0 := HA.out.c0
 rw [hk] at ck
 clear h hw _hc hh hk hso hslot h0 hs e4 hpn c0
 go_enter Tryd.func14, Tryd.ntmps14
 go_wp2_with (first
  | (go_at_call 33; refine HHA.out.mono ?_; rintro x w3 ⟨rfl, hw3⟩; subst hw3)
  | (go_at_call 34; refine HSL.out.mono ?_; rintro x w4 ⟨rfl, hw4⟩; subst hw4)
  | ((with_reducible show wpList _ _ _ ({ dst := none, op := .store _ (.tmp 4) (.tmp 34), type := _, pos := _, after := _, guard := _ } :: _) _ _); refine wpl_store_st rfl (.tmp 4) (.tmp 34) rfl (n := 9) HZE.out w.heap.size en0.cells en0.cells rfl rfl HRA.out ?_ (hid rfl) (hid (HSE.out _)) (hid (HOE.out _)); intro w9 hr9 hg9; have H9 := hid (HA.out.put (g := w.heap.size) (by simp) HSZ0.out hg9); have E9 := hid (HK.out.trans (ek_put hg9 (fun g hg => HA.out.lt g (by simp [hg])) HNG.out)); have R9 := hid hr9; clear hr9 hg9))
 exact bodyPost_ret (v := .tuple #[.agg en0.cells, .int .i64 11]) (results_cell1 rfl _ _ w.heap.size 28 en0.cells (0, 0) _ (.int .i64 11) rfl rfl R9.out.arr Tryd.underlying28 rfl (by rw [HSE.out]; exact HZE.out)) rfl ⟨rfl, H9.out.tail, E9.out⟩
set_option maxHeartbeats 4000000 in
theorem rdj_uns {w0 w : World} {jp p gs : Nat} {S : Sp} {J : Jn} {G : List Nat} (h : Jd w0 w jp p gs S J G) (hw : JWf J) (n : Int) (hh : J.has n) (hk : (J.item n).kind = 3) (_hc : S.count ≤ 900000) :
  Calls Tryd.prog 14 #[.pointer (some ⟨jp, 0, none⟩), .int .i64 n] w (JC w0 w jp p gs S J G (.tuple #[.agg en0.cells, .int .i64 11])) := by
 have HZE := hid esize
 have HSE : Hid (∀ t : En, t.cells.size = 9) := hid fun t => rfl
 have HOE : Hid (∀ t : En, t.cells.all (·.oneCell') = true) := hid ecells_one
 have HA := hid (h.alloc (.cells en0.cells 28)).1
 have HK := hid (h.alloc (.cells en0.cells 28)).2
 have HRA : Hid (Row (w.alloc (.cells en0.cells 28)) w.heap.size 28 en0.cells.toList) := hid (Row.new _ _ _)
 have HSZ0 := hid h.size
 have HNG : Hid (w.heap.size ∉ G) := hid fun hn => Nat.lt_irrefl _ (h.lt _ hn)
 have HHA : Hid (Calls Tryd.prog 33 #[.pointer (some ⟨jp, 0, none⟩), .int .i64 n] (w.alloc (.cells en0.cells 28)) fun x w' => x = .returned (.bool true) ∧ w.alloc (.cells en0.cells 28) = w') := hid (by
  have := has_any13 HA.out hw.c0 hw.c1 n
  rw [decide_eq_true hh] at this
  exact this)
 obtain ⟨s, hs, hso⟩ : ∃ s : Nat, s < 8 ∧ n % 8 = s := ⟨(n % 8).toNat, by omega, by omega⟩
 have h0 := hw.c0
 have hslot : slotN J.c s = n := by
  have := slotN_of hh
  rw [show (n % 8).toNat = s by omega] at this
  exact this
 have HSL : Hid (Calls Tryd.prog 34 #[.int .i64 n] (w.alloc (.cells en0.cells 28)) fun x w' => x = .returned (.int .i64 (s : Int)) ∧ w.alloc (.cells en0.cells 28) = w') := hid (by
  have := slotOf_any n (by have := hh.1; omega) (w.alloc (.cells en0.cells 28))
  rw [hso] at this
  exact this)
 have hb : (s : Int) < 8 := by omega
 have ck : (w.alloc (.cells en0.cells 28)).cell? ⟨jp, 2 + s * 15, none⟩ = some (.int .i64 (J.item n).kind) := by
  have := HA.out.kind hs
  rw [hslot] at this
  exact this
 have e4 : IntKind.i64.wrap (4 + (s : Int)) = ((4 + s : Nat) : Int) := by rw [w64 (by omega) (by omega)]; omega
 have hpn : pN n = 4 + s := by unfold pN; omega
 have c0 := HA.out.c0
 rw [hk] at ck
 clear h hw _hc hh hk hso hslot h0 hs e4 hpn c0
 go_enter Tryd.func14, Tryd.ntmps14
 go_wp2_with (first
  | (go_at_call 33; refine HHA.out.mono ?_; rintro x w3 ⟨rfl, hw3⟩; subst hw3)
  | (go_at_call 34; refine HSL.out.mono ?_; rintro x w4 ⟨rfl, hw4⟩; subst hw4)
  | ((with_reducible show wpList _ _ _ ({ dst := none, op := .store _ (.tmp 4) (.tmp 34), type := _, pos := _, after := _, guard := _ } :: _) _ _); refine wpl_store_st rfl (.tmp 4) (.tmp 34) rfl (n := 9) HZE.out w.heap.size en0.cells en0.cells rfl rfl HRA.out ?_ (hid rfl) (hid (HSE.out _)) (hid (HOE.out _)); intro w9 hr9 hg9; have H9 := hid (HA.out.put (g := w.heap.size) (by simp) HSZ0.out hg9); have E9 := hid (HK.out.trans (ek_put hg9 (fun g hg => HA.out.lt g (by simp [hg])) HNG.out)); have R9 := hid hr9; clear hr9 hg9))
 exact bodyPost_ret (v := .tuple #[.agg en0.cells, .int .i64 11]) (results_cell1 rfl _ _ w.heap.size 28 en0.cells (0, 0) _ (.int .i64 11) rfl rfl R9.out.arr Tryd.underlying28 rfl (by rw [HSE.out]; exact HZE.out)) rfl ⟨rfl, H9.out.tail, E9.out⟩
set_option maxHeartbeats 4000000 in
theorem rdj_err {w0 w : World} {jp p gs : Nat} {S : Sp} {J : Jn} {G : List Nat} (h : Jd w0 w jp p gs S J G) (hw : JWf J) (n : Int) (hh : J.has n) (hk : (J.item n).kind = 1) (hz : (S.read (pN n)).2 ≠ 0) (hc : S.count ≤ 900000) :
  Calls Tryd.prog 14 #[.pointer (some ⟨jp, 0, none⟩), .int .i64 n] w (JC w0 w jp p gs S J G (.tuple #[.agg en0.cells, .int .i64 (S.read (pN n)).2])) := by
 have HZE := hid esize
 have HSE : Hid (∀ t : En, t.cells.size = 9) := hid fun t => rfl
 have HOE : Hid (∀ t : En, t.cells.all (·.oneCell') = true) := hid ecells_one
 have HA := hid (h.alloc (.cells en0.cells 28)).1
 have HK := hid (h.alloc (.cells en0.cells 28)).2
 have HRA : Hid (Row (w.alloc (.cells en0.cells 28)) w.heap.size 28 en0.cells.toList) := hid (Row.new _ _ _)
 have HSZ0 := hid h.size
 have HNG : Hid (w.heap.size ∉ G) := hid fun hn => Nat.lt_irrefl _ (h.lt _ hn)
 have HHA : Hid (Calls Tryd.prog 33 #[.pointer (some ⟨jp, 0, none⟩), .int .i64 n] (w.alloc (.cells en0.cells 28)) fun x w' => x = .returned (.bool true) ∧ w.alloc (.cells en0.cells 28) = w') := hid (by
  have := has_any13 HA.out hw.c0 hw.c1 n
  rw [decide_eq_true hh] at this
  exact this)
 obtain ⟨s, hs, hso⟩ : ∃ s : Nat, s < 8 ∧ n % 8 = s := ⟨(n % 8).toNat, by omega, by omega⟩
 have h0 := hw.c0
 have hslot : slotN J.c s = n := by
  have := slotN_of hh
  rw [show (n % 8).toNat = s by omega] at this
  exact this
 have HSL : Hid (Calls Tryd.prog 34 #[.int .i64 n] (w.alloc (.cells en0.cells 28)) fun x w' => x = .returned (.int .i64 (s : Int)) ∧ w.alloc (.cells en0.cells 28) = w') := hid (by
  have := slotOf_any n (by have := hh.1; omega) (w.alloc (.cells en0.cells 28))
  rw [hso] at this
  exact this)
 have hb : (s : Int) < 8 := by omega
 have ck : (w.alloc (.cells en0.cells 28)).cell? ⟨jp, 2 + s * 15, none⟩ = some (.int .i64 (J.item n).kind) := by
  have := HA.out.kind hs
  rw [hslot] at this
  exact this
 have e4 : IntKind.i64.wrap (4 + (s : Int)) = ((4 + s : Nat) : Int) := by rw [w64 (by omega) (by omega)]; omega
 have hpn : pN n = 4 + s := by unfold pN; omega
 have c0 := HA.out.c0
 rw [hk] at ck
 have HRD : Hid (Calls Tryd.prog 26 #[.pointer (some ⟨p, 0, none⟩), .int .i64 ((4 + s : Nat) : Int)] (w.alloc (.cells en0.cells 28)) (JC w0 (w.alloc (.cells en0.cells 28)) jp p gs S J (w.heap.size :: G) (.tuple #[.string ⟨(S.read (pN n)).1.toArray⟩, .int .i64 (S.read (pN n)).2]))) := hid (HA.out.callD fun hD => dd_read hD (by omega) _ (by rw [hpn]))
 generalize S.read (pN n) = R at *
 obtain ⟨l, z⟩ := R
 simp only at *
 generalize ((4 + s : Nat) : Int) = a at *
 have hz0 : (z != 0) = true := by simpa using hz
 clear h hw hc hh hk hso hslot h0 hs hpn hz
 go_enter Tryd.func14, Tryd.ntmps14
 go_wp2_with (first
  | (go_at_call 33; refine HHA.out.mono ?_; rintro x w3 ⟨rfl, hw3⟩; subst hw3)
  | (go_at_call 34; refine HSL.out.mono ?_; rintro x w4 ⟨rfl, hw4⟩; subst hw4)
  | (go_at_call 26; refine HRD.out.mono ?_; rintro y w5 ⟨rfl, h5, k5⟩; have H5 := hid h5; have R5 := hid (k5.row HRA.out (by simp)); have E5 := hid (HK.out.trans k5.tail); clear h5 k5)
  | ((with_reducible show wpList _ _ _ ({ dst := none, op := .store _ (.tmp 4) (.tmp 47), type := _, pos := _, after := _, guard := _ } :: _) _ _); refine wpl_store_st rfl (.tmp 4) (.tmp 47) rfl (n := 9) HZE.out w.heap.size en0.cells en0.cells rfl rfl R5.out ?_ (hid rfl) (hid (HSE.out _)) (hid (HOE.out _)); intro w9 hr9 hg9; have H9 := hid (H5.out.put (g := w.heap.size) (by simp) HSZ0.out hg9); have E9 := hid (E5.out.trans (ek_put hg9 (fun g hg => H5.out.lt g (by simp [hg])) HNG.out)); have R9 := hid hr9; clear hr9 hg9))
 exact bodyPost_ret (v := .tuple #[.agg en0.cells, .int .i64 z]) (results_cell1 rfl _ _ w.heap.size 28 en0.cells (0, 0) _ (.int .i64 z) rfl rfl R9.out.arr Tryd.underlying28 rfl (by rw [HSE.out]; exact HZE.out)) rfl ⟨rfl, H9.out.tail, E9.out⟩
set_option maxHeartbeats 4000000 in
theorem rdj_yes {w0 w : World} {jp p gs : Nat} {S : Sp} {J : Jn} {G : List Nat} (h : Jd w0 w jp p gs S J G) (hw : JWf J) (n : Int) (hh : J.has n) (hk : (J.item n).kind = 1) (hz : (S.read (pN n)).2 = 0) (hy : stubS (entryS (S.read (pN n)).1).1 = (J.item n).stub) (hc : S.count ≤ 900000) :
  Calls Tryd.prog 14 #[.pointer (some ⟨jp, 0, none⟩), .int .i64 n] w (JC w0 w jp p gs S J G (.tuple #[.agg (entryS (S.read (pN n)).1).1.cells, .int .i64 0])) := by
 have HZE := hid esize
 have HSE : Hid (∀ t : En, t.cells.size = 9) := hid fun t => rfl
 have HOE : Hid (∀ t : En, t.cells.all (·.oneCell') = true) := hid ecells_one
 have HA := hid (h.alloc (.cells en0.cells 28)).1
 have HK := hid (h.alloc (.cells en0.cells 28)).2
 have HRA : Hid (Row (w.alloc (.cells en0.cells 28)) w.heap.size 28 en0.cells.toList) := hid (Row.new _ _ _)
 have HSZ0 := hid h.size
 have HNG : Hid (w.heap.size ∉ G) := hid fun hn => Nat.lt_irrefl _ (h.lt _ hn)
 have HHA : Hid (Calls Tryd.prog 33 #[.pointer (some ⟨jp, 0, none⟩), .int .i64 n] (w.alloc (.cells en0.cells 28)) fun x w' => x = .returned (.bool true) ∧ w.alloc (.cells en0.cells 28) = w') := hid (by
  have := has_any13 HA.out hw.c0 hw.c1 n
  rw [decide_eq_true hh] at this
  exact this)
 obtain ⟨s, hs, hso⟩ : ∃ s : Nat, s < 8 ∧ n % 8 = s := ⟨(n % 8).toNat, by omega, by omega⟩
 have h0 := hw.c0
 have hslot : slotN J.c s = n := by
  have := slotN_of hh
  rw [show (n % 8).toNat = s by omega] at this
  exact this
 have HSL : Hid (Calls Tryd.prog 34 #[.int .i64 n] (w.alloc (.cells en0.cells 28)) fun x w' => x = .returned (.int .i64 (s : Int)) ∧ w.alloc (.cells en0.cells 28) = w') := hid (by
  have := slotOf_any n (by have := hh.1; omega) (w.alloc (.cells en0.cells 28))
  rw [hso] at this
  exact this)
 have hb : (s : Int) < 8 := by omega
 have ck : (w.alloc (.cells en0.cells 28)).cell? ⟨jp, 2 + s * 15, none⟩ = some (.int .i64 (J.item n).kind) := by
  have := HA.out.kind hs
  rw [hslot] at this
  exact this
 have e4 : IntKind.i64.wrap (4 + (s : Int)) = ((4 + s : Nat) : Int) := by rw [w64 (by omega) (by omega)]; omega
 have hpn : pN n = 4 + s := by unfold pN; omega
 have c0 := HA.out.c0
 rw [hk] at ck
 have HRD : Hid (Calls Tryd.prog 26 #[.pointer (some ⟨p, 0, none⟩), .int .i64 ((4 + s : Nat) : Int)] (w.alloc (.cells en0.cells 28)) (JC w0 (w.alloc (.cells en0.cells 28)) jp p gs S J (w.heap.size :: G) (.tuple #[.string ⟨(S.read (pN n)).1.toArray⟩, .int .i64 (S.read (pN n)).2]))) := hid (HA.out.callD fun hD => dd_read hD (by omega) _ (by rw [hpn]))
 have HFD : Hid (∀ W, Jd w0 W jp p gs S J (w.heap.size :: G) → Calls Tryd.prog 37 #[.pointer (some ⟨jp, 0, none⟩), .int .i64 (s : Int), .string ⟨(S.read (pN n)).1.toArray⟩] W (JC w0 W jp p gs S J (w.heap.size :: G) (.tuple #[.agg (entryS (S.read (pN n)).1).1.cells, .bool true]))) := hid fun W hW => by
  have := find_yes hW s hs ⟨(S.read (pN n)).1.toArray⟩ (by rw [sb_mk, hslot]; exact hy)
  rw [sb_mk] at this
  exact this
 rw [hz] at HRD
 generalize (S.read (pN n)).1 = l at *
 generalize (entryS l).1 = ex at *
 generalize ((4 + s : Nat) : Int) = a at *
 clear h hw hc hh hk hso hslot h0 hs hpn hz hy
 go_enter Tryd.func14, Tryd.ntmps14
 go_wp2_with (first
  | (go_at_call 33; refine HHA.out.mono ?_; rintro x w3 ⟨rfl, hw3⟩; subst hw3)
  | (go_at_call 34; refine HSL.out.mono ?_; rintro x w4 ⟨rfl, hw4⟩; subst hw4)
  | (go_at_call 26; refine HRD.out.mono ?_; rintro y w5 ⟨rfl, h5, k5⟩; have H5 := hid h5; have R5 := hid (k5.row HRA.out (by simp)); have E5 := hid (HK.out.trans k5.tail); clear h5 k5)
  | (go_at_call 37; refine (HFD.out _ H5.out).mono ?_; rintro y w6 ⟨rfl, h6, k6⟩; have H6 := hid h6; have R6 := hid (k6.row R5.out (by simp)); have E6 := hid (E5.out.trans k6.tail); clear h6 k6)
  | ((with_reducible show wpList _ _ _ ({ dst := none, op := .store _ (.tmp 9) _, type := _, pos := _, after := _, guard := _ } :: _) _ _); refine wpl_store_st rfl (.tmp 9) (.tmp 54) rfl (n := 9) HZE.out w6.heap.size en0.cells ex.cells rfl rfl (Row.new _ _ _) ?_ (hid rfl) (hid (HSE.out _)) (hid (HOE.out _)); intro w7 hr7 hg7; obtain ⟨q1, q2⟩ := H6.out.one hg7; have H7 := hid q1; have R7 := hid (q2.row R6.out (by simp)); have E7 := hid (E6.out.trans q2.tail); have X7 := hid hr7; clear q1 q2 hr7 hg7)
  | (refine wpList_load_row rfl 28 (.tmp 9) rfl w6.heap.size rfl 28 ex.cells (0, 0) _ X7.out.arr Tryd.underlying28 rfl (by rw [HSE.out]; exact HZE.out) ?_)
  | ((with_reducible show wpList _ _ _ ({ dst := none, op := .store _ (.tmp 4) (.tmp 59), type := _, pos := _, after := _, guard := _ } :: _) _ _); refine wpl_store_st rfl (.tmp 4) (.tmp 59) rfl (n := 9) HZE.out w.heap.size en0.cells ex.cells rfl rfl R7.out ?_ (hid rfl) (hid (HSE.out _)) (hid (HOE.out _)); intro w9 hr9 hg9; have H9 := hid (H7.out.put (g := w.heap.size) (by simp) HSZ0.out hg9); have E9 := hid (E7.out.trans (ek_put hg9 (fun g hg => H7.out.lt g (by simp [hg])) HNG.out)); have R9 := hid hr9; clear hr9 hg9))
 exact bodyPost_ret (v := .tuple #[.agg ex.cells, .int .i64 0]) (results_cell1 rfl _ _ w.heap.size 28 ex.cells (0, 0) _ (.int .i64 0) rfl rfl R9.out.arr Tryd.underlying28 rfl (by rw [HSE.out]; exact HZE.out)) rfl ⟨rfl, H9.out.tail.tail, E9.out⟩
set_option maxHeartbeats 4000000 in
theorem rdj_no {w0 w : World} {jp p gs : Nat} {S : Sp} {J : Jn} {G : List Nat} (h : Jd w0 w jp p gs S J G) (hw : JWf J) (n : Int) (hh : J.has n) (hk : (J.item n).kind = 1) (hz : (S.read (pN n)).2 = 0) (hy : stubS (entryS (S.read (pN n)).1).1 ≠ (J.item n).stub) (hc : S.count ≤ 900000) :
  Calls Tryd.prog 14 #[.pointer (some ⟨jp, 0, none⟩), .int .i64 n] w (JC w0 w jp p gs S (J.set n ⟨2, (J.item n).stub, en0⟩) G (.tuple #[.agg en0.cells, .int .i64 11])) := by
 have HZE := hid esize
 have HSE : Hid (∀ t : En, t.cells.size = 9) := hid fun t => rfl
 have HOE : Hid (∀ t : En, t.cells.all (·.oneCell') = true) := hid ecells_one
 have HA := hid (h.alloc (.cells en0.cells 28)).1
 have HK := hid (h.alloc (.cells en0.cells 28)).2
 have HRA : Hid (Row (w.alloc (.cells en0.cells 28)) w.heap.size 28 en0.cells.toList) := hid (Row.new _ _ _)
 have HSZ0 := hid h.size
 have HNG : Hid (w.heap.size ∉ G) := hid fun hn => Nat.lt_irrefl _ (h.lt _ hn)
 have HHA : Hid (Calls Tryd.prog 33 #[.pointer (some ⟨jp, 0, none⟩), .int .i64 n] (w.alloc (.cells en0.cells 28)) fun x w' => x = .returned (.bool true) ∧ w.alloc (.cells en0.cells 28) = w') := hid (by
  have := has_any13 HA.out hw.c0 hw.c1 n
  rw [decide_eq_true hh] at this
  exact this)
 obtain ⟨s, hs, hso⟩ : ∃ s : Nat, s < 8 ∧ n % 8 = s := ⟨(n % 8).toNat, by omega, by omega⟩
 have h0 := hw.c0
 have hslot : slotN J.c s = n := by
  have := slotN_of hh
  rw [show (n % 8).toNat = s by omega] at this
  exact this
 have HSL : Hid (Calls Tryd.prog 34 #[.int .i64 n] (w.alloc (.cells en0.cells 28)) fun x w' => x = .returned (.int .i64 (s : Int)) ∧ w.alloc (.cells en0.cells 28) = w') := hid (by
  have := slotOf_any n (by have := hh.1; omega) (w.alloc (.cells en0.cells 28))
  rw [hso] at this
  exact this)
 have hb : (s : Int) < 8 := by omega
 have ck : (w.alloc (.cells en0.cells 28)).cell? ⟨jp, 2 + s * 15, none⟩ = some (.int .i64 (J.item n).kind) := by
  have := HA.out.kind hs
  rw [hslot] at this
  exact this
 have e4 : IntKind.i64.wrap (4 + (s : Int)) = ((4 + s : Nat) : Int) := by rw [w64 (by omega) (by omega)]; omega
 have hpn : pN n = 4 + s := by unfold pN; omega
 have c0 := HA.out.c0
 rw [hk] at ck
 have HRD : Hid (Calls Tryd.prog 26 #[.pointer (some ⟨p, 0, none⟩), .int .i64 ((4 + s : Nat) : Int)] (w.alloc (.cells en0.cells 28)) (JC w0 (w.alloc (.cells en0.cells 28)) jp p gs S J (w.heap.size :: G) (.tuple #[.string ⟨(S.read (pN n)).1.toArray⟩, .int .i64 (S.read (pN n)).2]))) := hid (HA.out.callD fun hD => dd_read hD (by omega) _ (by rw [hpn]))
 have HFD : Hid (∀ W, Jd w0 W jp p gs S J (w.heap.size :: G) → Calls Tryd.prog 37 #[.pointer (some ⟨jp, 0, none⟩), .int .i64 (s : Int), .string ⟨(S.read (pN n)).1.toArray⟩] W (JC w0 W jp p gs S (J.set n ⟨2, (J.item n).stub, en0⟩) (w.heap.size :: G) (.tuple #[.agg en0.cells, .bool false]))) := hid fun W hW => by
  have := find_no hW hw.len s hs ⟨(S.read (pN n)).1.toArray⟩ (by rw [sb_mk, hslot]; exact hy)
  rw [hslot] at this
  exact this
 rw [hz] at HRD
 generalize (S.read (pN n)).1 = l at *
 generalize J.set n ⟨2, (J.item n).stub, en0⟩ = J2 at *
 obtain ⟨ex, hex⟩ : ∃ ex, ex = en0 := ⟨_, rfl⟩
 rw [← hex] at HFD
 generalize ((4 + s : Nat) : Int) = a at *
 clear hex
 clear h hw hc hh hk hso hslot h0 hs hpn hz hy
 go_enter Tryd.func14, Tryd.ntmps14
 go_wp2_with (first
  | (go_at_call 33; refine HHA.out.mono ?_; rintro x w3 ⟨rfl, hw3⟩; subst hw3)
  | (go_at_call 34; refine HSL.out.mono ?_; rintro x w4 ⟨rfl, hw4⟩; subst hw4)
  | (go_at_call 26; refine HRD.out.mono ?_; rintro y w5 ⟨rfl, h5, k5⟩; have H5 := hid h5; have R5 := hid (k5.row HRA.out (by simp)); have E5 := hid (HK.out.trans k5.tail); clear h5 k5)
  | (go_at_call 37; refine (HFD.out _ H5.out).mono ?_; rintro y w6 ⟨rfl, h6, k6⟩; have H6 := hid h6; have R6 := hid (k6.row R5.out (by simp)); have E6 := hid (E5.out.trans k6.tail); clear h6 k6)
  | ((with_reducible show wpList _ _ _ ({ dst := none, op := .store _ (.tmp 9) _, type := _, pos := _, after := _, guard := _ } :: _) _ _); refine wpl_store_st rfl (.tmp 9) (.tmp 54) rfl (n := 9) HZE.out w6.heap.size en0.cells ex.cells rfl rfl (Row.new _ _ _) ?_ (hid rfl) (hid (HSE.out _)) (hid (HOE.out _)); intro w7 hr7 hg7; obtain ⟨q1, q2⟩ := H6.out.one hg7; have H7 := hid q1; have R7 := hid (q2.row R6.out (by simp)); have E7 := hid (E6.out.trans q2.tail); have X7 := hid hr7; clear q1 q2 hr7 hg7)
  | ((with_reducible show wpList _ _ _ ({ dst := none, op := .store _ (.tmp 4) (.tmp 58), type := _, pos := _, after := _, guard := _ } :: _) _ _); refine wpl_store_st rfl (.tmp 4) (.tmp 58) rfl (n := 9) HZE.out w.heap.size en0.cells en0.cells rfl rfl R7.out ?_ (hid rfl) (hid (HSE.out _)) (hid (HOE.out _)); intro w9 hr9 hg9; have H9 := hid (H7.out.put (g := w.heap.size) (by simp) HSZ0.out hg9); have E9 := hid (E7.out.trans (ek_put hg9 (fun g hg => H7.out.lt g (by simp [hg])) HNG.out)); have R9 := hid hr9; clear hr9 hg9))
 exact bodyPost_ret (v := .tuple #[.agg en0.cells, .int .i64 11]) (results_cell1 rfl _ _ w.heap.size 28 en0.cells (0, 0) _ (.int .i64 11) rfl rfl R9.out.arr Tryd.underlying28 rfl (by rw [HSE.out]; exact HZE.out)) rfl ⟨rfl, H9.out.tail.tail, E9.out⟩
theorem read_any13 {w0 w : World} {jp p gs : Nat} {S : Sp} {J : Jn} {G : List Nat} (h : Jd w0 w jp p gs S J G) (hw : JWf J) (n : Int) (hc : S.count ≤ 900000) :
  Calls Tryd.prog 14 #[.pointer (some ⟨jp, 0, none⟩), .int .i64 n] w (JC w0 w jp p gs S (readJn S J n).1 G (.tuple #[.agg (readJn S J n).2.1.cells, .int .i64 (readJn S J n).2.2])) := by
 unfold readJn
 by_cases hh : J.has n
 ·
  have hi := hw.it _ hh
  rw [if_neg (not_not_intro hh)]
  by_cases k0 : (J.item n).kind = 0
  ·
   rw [if_pos k0]
   exact rdj_lac h hw n hh k0 hc
  ·
   rw [if_neg k0]
   by_cases k1 : (J.item n).kind = 1
   ·
    rw [if_neg (not_not_intro k1)]
    have hs := (wf_stub hi (.inl k1)).2
    by_cases hz : (S.read (pN n)).2 = 0
    ·
     rw [if_neg (not_not_intro hz)]
     by_cases hy : stubS (entryS (S.read (pN n)).1).1 = (J.item n).stub
     ·
      rw [if_neg (by rw [stubs_ne hs]; exact fun q => q hy)]
      exact rdj_yes h hw n hh k1 hz hy hc
     ·
      rw [if_pos (.inr hy)]
      exact rdj_no h hw n hh k1 hz hy hc
    ·
     rw [if_pos hz]
     exact rdj_err h hw n hh k1 hz hc
   ·
    rw [if_pos k1]
    have hk : (J.item n).kind = 2 ∨ (J.item n).kind = 3 := by
     rcases hi with e | ⟨y, _, _, _, e⟩ | ⟨s, _, _, _, e⟩ | e <;> rw [e] at k0 k1 ⊢
     ·
      exact absurd rfl k0
     ·
      exact absurd rfl k1
     ·
      exact .inl rfl
     ·
      exact .inr rfl
    rcases hk with hk | hk
    ·
     exact rdj_fau h hw n hh hk hc
    ·
     exact rdj_uns h hw n hh hk hc
 ·
  rw [if_pos hh]
  exact rdj_argj h hw n hh hc
end Go.Proofs.YtafbeepacncooaaDoor
/-
  The walks of package journal's Item, Head.
-/
namespace Go.Proofs.YtafbeepacncooaaDoor
open Go.RowKit
set_option maxRecDepth 10000

theorem it0_one : it0.cells.all (·.oneCell') = true := itC_one it0
set_option maxHeartbeats 4000000 in
theorem item_no {w0 w : World} {jp p gs : Nat} {S : Sp} {J : Jn} {G : List Nat} (h : Jd w0 w jp p gs S J G) (hw : JWf J) (n : Int) (hh : ¬ J.has n) :
  Calls Tryd.prog 12 #[.pointer (some ⟨jp, 0, none⟩), .int .i64 n] w (VE w (.agg it0.cells)) := by
 have HA := hid (h.alloc (.cells it0.cells 44)).1
 have HHA : Hid (Calls Tryd.prog 33 #[.pointer (some ⟨jp, 0, none⟩), .int .i64 n] (w.alloc (.cells it0.cells 44)) fun x w' => x = .returned (.bool false) ∧ w.alloc (.cells it0.cells 44) = w') := hid (by
  have := has_any13 HA.out hw.c0 hw.c1 n
  rw [decide_eq_false hh] at this
  exact this)
 have HRA : Hid (Row (w.alloc (.cells it0.cells 44)) w.heap.size 44 it0.cells.toList) := hid (Row.new _ _ _)
 clear h hw hh
 go_enter Tryd.func12, Tryd.ntmps12
 go_wp2_with (first
  | (go_at_call 33; refine HHA.out.mono ?_; rintro x w3 ⟨rfl, hw3⟩; subst hw3)
  | (refine wpl_store_st rfl (.tmp 4) (.tmp 10) rfl (n := 15) itemSize13 w.heap.size it0.cells it0.cells rfl rfl HRA.out ?_ (hid rfl) (hid rfl) (hid it0_one); intro w9 hr9 hg9; have R9 := hid hr9; have B9 := hid (((Below.refl w.heap.size w).alloc (Nat.le_refl _) (.cells it0.cells 44)).trans (below_grown hg9 (Nat.le_refl _) (by simp))); clear hr9 hg9))
 exact bodyPost_ret (v := .agg it0.cells) (results_cell_row rfl _ _ w.heap.size 44 it0.cells (0, 0) _ rfl R9.out.arr Tryd.underlying44 rfl itemSize13) rfl ⟨rfl, B9.out⟩
set_option maxHeartbeats 4000000 in
theorem item_yes {w0 w : World} {jp p gs : Nat} {S : Sp} {J : Jn} {G : List Nat} (h : Jd w0 w jp p gs S J G) (hw : JWf J) (n : Int) (hh : J.has n) :
  Calls Tryd.prog 12 #[.pointer (some ⟨jp, 0, none⟩), .int .i64 n] w (VE w (.agg (J.item n).cells)) := by
 have HA := hid (h.alloc (.cells it0.cells 44)).1
 have HHA : Hid (Calls Tryd.prog 33 #[.pointer (some ⟨jp, 0, none⟩), .int .i64 n] (w.alloc (.cells it0.cells 44)) fun x w' => x = .returned (.bool true) ∧ w.alloc (.cells it0.cells 44) = w') := hid (by
  have := has_any13 HA.out hw.c0 hw.c1 n
  rw [decide_eq_true hh] at this
  exact this)
 have HRA : Hid (Row (w.alloc (.cells it0.cells 44)) w.heap.size 44 it0.cells.toList) := hid (Row.new _ _ _)
 obtain ⟨s, hs, hso⟩ : ∃ s : Nat, s < 8 ∧ n % 8 = s := ⟨(n % 8).toNat, by omega, by omega⟩
 have h0 := hw.c0
 have hslot : slotN J.c s = n := by
  have := slotN_of hh
  rw [show (n % 8).toNat = s by omega] at this
  exact this
 have HSL : Hid (∀ W, Calls Tryd.prog 34 #[.int .i64 n] W fun x w' => x = .returned (.int .i64 (s : Int)) ∧ W = w') := hid fun W => by
  have := slotOf_any n (by have := hh.1; omega) W
  rw [hso] at this
  exact this
 have hb : (s : Int) < 8 := by omega
 have hxw := hw.it _ hh
 have HXR : Hid (∀ W {X : List Nat}, Jd w0 W jp p gs S J X → W.rangeAt jp (2 + s * 15) (itC (J.item n))) := hid fun W X hW => by
  have := hW.range hs
  rw [hslot] at this
  exact this
 have HBD : Hid ((J.item n).entry.body.size ≤ 281474976710656) := hid (by
  rcases hxw with e | ⟨y, _, r, _, e⟩ | ⟨y, _, _, _, e⟩ | e <;> rw [e]
  ·
   decide
  ·
   have := rt_body r
   show y.body.size ≤ _
   omega
  ·
   show en0.body.size ≤ _
   decide
  ·
   show en0.body.size ≤ _
   decide)
 have HCL : Hid (∀ W, Calls Tryd.prog 35 #[.string (J.item n).entry.body] W fun x w' => x = .returned (.string (J.item n).entry.body) ∧ Below W.heap.size W w') := hid fun W => clone_any _ W HBD.out
 have HOI := hid (itC_one (J.item n))
 have HSZ1 : Hid (w0.heap.size ≤ w.heap.size + 1) := hid (by have := h.size; omega)
 generalize J.item n = x at *
 clear h hw hh hs hso h0 hslot hxw
 go_enter Tryd.func12, Tryd.ntmps12
 go_wp2_with (go_at_call 33; refine HHA.out.mono ?_; rintro x w3 ⟨rfl, hw3⟩; subst hw3)
 try simp only [Act.put, U1,U2,U3,U4,U5,U6]
 refine wp_region_held_drew (S := fun W => Jd w0 W jp p gs S J (w.heap.size :: G) ∧ Row W w.heap.size 44 it0.cells.toList ∧ Below w.heap.size w W) (by kernel_rfl) (⟨HA.out.drew, HRA.out, (((Below.refl w.heap.size w).alloc (Nat.le_refl _) _)).drew⟩) (fun hH => ?_)
 refine tk_ (i := 0) (v := .pointer (some ⟨jp, 0, none⟩)) rfl (Or.inl ⟨by kernel_rfl, fun w' _ => by kernel_rfl⟩) hH ?_
 simp only [Act.put, U1, U3, U4, U5, U6]
 refine tk_ (i := 1) (v := .int .i64 n) rfl (Or.inl ⟨by kernel_rfl, fun w' _ => by kernel_rfl⟩) hH ?_
 simp only [Act.put, U1,U2,U3,U4,U5,U6]
 refine tk_ (i := 3) (v := .pointer (some ⟨jp, 0, none⟩)) rfl (Or.inl ⟨by rfl, fun w' hw' => by clear hw'; go_simp⟩) hH ?_
 simp only [Act.put, U1,U2,U3,U4,U5,U6]
 refine tk_ (i := 4) (v := .pointer (some ⟨jp, 2, none⟩)) rfl (Or.inl ⟨by rfl, fun w' hw' => by clear hw'; go_simp⟩) hH ?_
 simp only [Act.put, U1,U2,U3,U4,U5,U6]
 have H5 : Hid (Jd w0 (World.alloc (w.alloc (.cells it0.cells 44)).drew (.cells it0.cells 44)) jp p gs S J ((w.heap.size + 1) :: w.heap.size :: G)) := hid (by have q := (HA.out.drew.alloc (.cells it0.cells 44)).1; rw [show (w.alloc (.cells it0.cells 44)).drew.heap.size = w.heap.size + 1 by show (w.alloc _).heap.size = _; simp] at q; exact q)
 have HR5 : Hid (Row (World.alloc (w.alloc (.cells it0.cells 44)).drew (.cells it0.cells 44)) (w.heap.size + 1) 44 it0.cells.toList) := hid (by have q := Row.new (w.alloc (.cells it0.cells 44)).drew 44 it0.cells; rw [show (w.alloc (.cells it0.cells 44)).drew.heap.size = w.heap.size + 1 by show (w.alloc _).heap.size = _; simp] at q; exact q)
 have HA5 : Hid (Row (World.alloc (w.alloc (.cells it0.cells 44)).drew (.cells it0.cells 44)) w.heap.size 44 it0.cells.toList) := hid ((show Row (w.alloc _).drew _ _ _ from HRA.out).alloc _)
 have HB5 : Hid (Below w.heap.size w (World.alloc (w.alloc (.cells it0.cells 44)).drew (.cells it0.cells 44))) := hid ((((Below.refl w.heap.size w).alloc (Nat.le_refl _) _).drew).alloc (by simp) _)
 refine wpAnyH_ready (rs := [2, 7]) (by kernel_rfl) (by simp) ?_
 refine AllReadyH.cons rfl (fun K hK => ?_) (AllReadyH.cons rfl (fun K hK => ?_) AllReadyH.nil)
 ·
  go_simp
  go_at_call 34
  refine (HSL.out _).mono ?_
  rintro y w2 ⟨rfl, hw2⟩
  subst hw2
  go_wp2_with fail
  refine hK.out _ _ hH (fun hH => ?_)
  clear hK K
  try simp only [Act.put, U1,U2,U3,U4,U5,U6]
  refine tk_ (i := 5) (v := .pointer (some ⟨jp, 2 + s * 15, none⟩)) rfl (Or.inl ⟨by rfl, fun w' hw' => by clear hw'; go_simp⟩) hH ?_
  simp only [Act.put, U1,U2,U3,U4,U5,U6]
  refine tk_ (i := 6) (v := .agg x.cells) rfl ?_ hH ?_
  ·
   refine yieldsIf_load_mid ?_ 44 (.tmp 16) ?_ jp (2 + s * 15) ?_ (itC x) _ (fun W hW => HXR.out W hW.1) Tryd.underlying44 rfl itemSize13
   all_goals kernel_rfl
  simp only [Act.put, U1,U2,U3,U4,U5,U6]
  refine wpAnyH_ready (rs := [7]) (by kernel_rfl) (by simp) ?_
  refine AllReadyH.cons rfl (fun K hK => ?_) AllReadyH.nil
  go_simp
  refine hK.out _ _ (⟨(hH.1.new ((Below.refl _ _).alloc (Nat.le_refl _) _)).1, hH.2.1.alloc _, hH.2.2.alloc (Below.size hH.2.2) _⟩) (fun hH => ?_)
  clear hK K
  try simp only [Act.put, U1,U2,U3,U4,U5,U6]
  refine wpAnyH_ready (rs := [8]) (by kernel_rfl) (by simp) ?_
  refine AllReadyH.cons rfl (fun K hK => ?_) AllReadyH.nil
  rw [if_pos (by kernel_rfl)]
  refine wp_store_st (.tmp 5) (.tmp 17) rfl itemSize13 (w.heap.size + 1) it0.cells x.cells (by kernel_rfl) (by kernel_rfl) HR5.out rfl rfl HOI.out (fun w6 hr6 hg6 => ?_)
  have q1 := H5.out.put (g := w.heap.size + 1) (by simp) HSZ1.out hg6
  have H6 := hid q1.tail
  have R6 := hid hr6
  have A6 := hid (HA5.out.grown hg6 (by simp))
  have B6 := hid (HB5.out.trans (below_grown hg6 (by omega) HB5.out.size))
  clear q1 hr6 hg6
  refine hK.out _ _ (⟨H6.out, A6.out, B6.out⟩) (fun hH => ?_)
  clear hK K
  try simp only [Act.put, U1, U2, U3]
  refine wpAnyH_done (by kernel_rfl) ?_ _
  try simp only [Act.put, U1,U2,U3,U4,U5,U6]
  clear hH
  have c14 : w6.cell? ⟨w.heap.size + 1, 14, none⟩ = some (.string x.entry.body) := R6.out.at_ 14 _ rfl
  go_wp2_with (first
   | (go_at_call 35; refine (HCL.out _).mono ?_; rintro y w7 ⟨rfl, hb7⟩; have R7 := hid (R6.out.below hb7 R6.out.lt); have A7 := hid (A6.out.below hb7 A6.out.lt); have B7 := hid (B6.out.trans (hb7.mono B6.out.size)); clear hb7)
   | (refine wpl_store_c rfl 9 (.tmp 23) (.tmp 21) rfl (w.heap.size + 1) 14 (.string x.entry.body) rfl rfl R7.out (by kernel_rfl) ?_ (hid (by show 14 < 15; decide)) (hid rfl); intro w8 hr8 hg8; have R8 : Hid (Row w8 (w.heap.size + 1) 44 x.cells.toList) := hid hr8; have A8 := hid (A7.out.grown hg8 (by simp)); have B8 := hid (B7.out.trans (below_grown hg8 (by omega) B7.out.size)); clear hr8 hg8)
   | (refine wpList_load_row rfl 44 (.tmp 5) rfl (w.heap.size + 1) rfl 44 x.cells (0, 0) _ R8.out.arr Tryd.underlying44 rfl itemSize13 ?_)
   | (refine wpl_store_st rfl (.tmp 4) (.tmp 24) rfl (n := 15) itemSize13 w.heap.size it0.cells x.cells rfl rfl A8.out ?_ (hid rfl) (hid rfl) HOI; intro w9 hr9 hg9; have R9 := hid hr9; have B9 := hid (B8.out.trans (below_grown hg9 (Nat.le_refl _) B8.out.size)); clear hr9 hg9))
  exact bodyPost_ret (v := .agg x.cells) (results_cell_row rfl _ _ w.heap.size 44 x.cells (0, 0) _ rfl R9.out.arr Tryd.underlying44 rfl itemSize13) rfl ⟨rfl, B9.out⟩
 ·
  go_simp
  refine hK.out _ _ (⟨(hH.1.new ((Below.refl _ _).alloc (Nat.le_refl _) _)).1, hH.2.1.alloc _, hH.2.2.alloc (Below.size hH.2.2) _⟩) (fun hH => ?_)
  clear hK K
  try simp only [Act.put, U1,U2,U3,U4,U5,U6]
  refine wpAnyH_ready (rs := [2]) (by kernel_rfl) (by simp) ?_
  refine AllReadyH.cons rfl (fun K hK => ?_) AllReadyH.nil
  go_simp
  go_at_call 34
  refine (HSL.out _).mono ?_
  rintro y w2 ⟨rfl, hw2⟩
  subst hw2
  go_wp2_with fail
  refine hK.out _ _ (hH) (fun hH => ?_)
  clear hK K
  try simp only [Act.put, U1,U2,U3,U4,U5,U6]
  refine tk_ (i := 5) (v := .pointer (some ⟨jp, 2 + s * 15, none⟩)) rfl (Or.inl ⟨by rfl, fun w' hw' => by clear hw'; go_simp⟩) hH ?_
  simp only [Act.put, U1,U2,U3,U4,U5,U6]
  refine tk_ (i := 6) (v := .agg x.cells) rfl ?_ hH ?_
  ·
   refine yieldsIf_load_mid ?_ 44 (.tmp 16) ?_ jp (2 + s * 15) ?_ (itC x) _ (fun W hW => HXR.out W hW.1) Tryd.underlying44 rfl itemSize13
   all_goals kernel_rfl
  simp only [Act.put, U1,U2,U3,U4,U5,U6]
  refine wpAnyH_ready (rs := [8]) (by kernel_rfl) (by simp) ?_
  refine AllReadyH.cons rfl (fun K hK => ?_) AllReadyH.nil
  rw [if_pos (by kernel_rfl)]
  refine wp_store_st (.tmp 5) (.tmp 17) rfl itemSize13 (w.heap.size + 1) it0.cells x.cells (by kernel_rfl) (by kernel_rfl) HR5.out rfl rfl HOI.out (fun w6 hr6 hg6 => ?_)
  have q1 := H5.out.put (g := w.heap.size + 1) (by simp) HSZ1.out hg6
  have H6 := hid q1.tail
  have R6 := hid hr6
  have A6 := hid (HA5.out.grown hg6 (by simp))
  have B6 := hid (HB5.out.trans (below_grown hg6 (by omega) HB5.out.size))
  clear q1 hr6 hg6
  refine hK.out _ _ (⟨H6.out, A6.out, B6.out⟩) (fun hH => ?_)
  clear hK K
  try simp only [Act.put, U1, U2, U3]
  refine wpAnyH_done (by kernel_rfl) ?_ _
  try simp only [Act.put, U1,U2,U3,U4,U5,U6]
  clear hH
  have c14 : w6.cell? ⟨w.heap.size + 1, 14, none⟩ = some (.string x.entry.body) := R6.out.at_ 14 _ rfl
  go_wp2_with (first
   | (go_at_call 35; refine (HCL.out _).mono ?_; rintro y w7 ⟨rfl, hb7⟩; have R7 := hid (R6.out.below hb7 R6.out.lt); have A7 := hid (A6.out.below hb7 A6.out.lt); have B7 := hid (B6.out.trans (hb7.mono B6.out.size)); clear hb7)
   | (refine wpl_store_c rfl 9 (.tmp 23) (.tmp 21) rfl (w.heap.size + 1) 14 (.string x.entry.body) rfl rfl R7.out (by kernel_rfl) ?_ (hid (by show 14 < 15; decide)) (hid rfl); intro w8 hr8 hg8; have R8 : Hid (Row w8 (w.heap.size + 1) 44 x.cells.toList) := hid hr8; have A8 := hid (A7.out.grown hg8 (by simp)); have B8 := hid (B7.out.trans (below_grown hg8 (by omega) B7.out.size)); clear hr8 hg8)
   | (refine wpList_load_row rfl 44 (.tmp 5) rfl (w.heap.size + 1) rfl 44 x.cells (0, 0) _ R8.out.arr Tryd.underlying44 rfl itemSize13 ?_)
   | (refine wpl_store_st rfl (.tmp 4) (.tmp 24) rfl (n := 15) itemSize13 w.heap.size it0.cells x.cells rfl rfl A8.out ?_ (hid rfl) (hid rfl) HOI; intro w9 hr9 hg9; have R9 := hid hr9; have B9 := hid (B8.out.trans (below_grown hg9 (Nat.le_refl _) B8.out.size)); clear hr9 hg9))
  exact bodyPost_ret (v := .agg x.cells) (results_cell_row rfl _ _ w.heap.size 44 x.cells (0, 0) _ rfl R9.out.arr Tryd.underlying44 rfl itemSize13) rfl ⟨rfl, B9.out⟩
theorem item_any13 {w0 w : World} {jp p gs : Nat} {S : Sp} {J : Jn} {G : List Nat} (h : Jd w0 w jp p gs S J G) (hw : JWf J) (n : Int) :
  Calls Tryd.prog 12 #[.pointer (some ⟨jp, 0, none⟩), .int .i64 n] w (VE w (.agg (J.item n).cells)) := by
 by_cases hh : J.has n
 ·
  exact item_yes h hw n hh
 ·
  rw [show J.item n = it0 by unfold Jn.item; rw [if_neg hh]]
  exact item_no h hw n hh
end Go.Proofs.YtafbeepacncooaaDoor
