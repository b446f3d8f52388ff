/-
  The walk of the document's Unpack.
-/
import Derived.Test.YtogchfpecbmocaaM18
import Derived.Test.YtogchfpecbmocaaM19
namespace Go.Proofs.Ytogchfpecbmocaa
open Go.RowKit
set_option maxRecDepth 10000

/-- cells 10 to 15, one by one -/
def LSix (L : List Value) (V : Nat → Value) : Nat → List Value
  | 0 => L
  | k + 1 => (LSix L V k).set (10 + k) (V k)
theorem LSix_len (L : List Value) (V : Nat → Value) : ∀ k, (LSix L V k).length = L.length
  | 0 => rfl
  | k + 1 => by rw [LSix, List.length_set, LSix_len L V k]
set_option maxHeartbeats 4000000 in
theorem runpack_len (s : ByteArray) (n0 n1 n2 n3 n4 n5 n6 n7 n8 n9 n16 : Nat) (V : Nat → Nat) (S : Su) (PB : ByteArray) (PE : Int) (R : Su) (x : Int) (w : World) (hl : s.size = 136)
    (HA0 : Hid (∀ W, Calls Try.prog 45 #[.string s, .int .i64 0] W (VE W (.int .u64 (n0 : Int)))))
    (HA1 : Hid (∀ W, Calls Try.prog 45 #[.string s, .int .i64 8] W (VE W (.int .u64 (n1 : Int)))))
    (HA2 : Hid (∀ W, Calls Try.prog 45 #[.string s, .int .i64 16] W (VE W (.int .u64 (n2 : Int)))))
    (HA3 : Hid (∀ W, Calls Try.prog 45 #[.string s, .int .i64 24] W (VE W (.int .u64 (n3 : Int)))))
    (HA4 : Hid (∀ W, Calls Try.prog 45 #[.string s, .int .i64 32] W (VE W (.int .u64 (n4 : Int)))))
    (HA5 : Hid (∀ W, Calls Try.prog 45 #[.string s, .int .i64 40] W (VE W (.int .u64 (n5 : Int)))))
    (HA6 : Hid (∀ W, Calls Try.prog 45 #[.string s, .int .i64 48] W (VE W (.int .u64 (n6 : Int)))))
    (HA7 : Hid (∀ W, Calls Try.prog 45 #[.string s, .int .i64 56] W (VE W (.int .u64 (n7 : Int)))))
    (HA8 : Hid (∀ W, Calls Try.prog 45 #[.string s, .int .i64 64] W (VE W (.int .u64 (n8 : Int)))))
    (HA9 : Hid (∀ W, Calls Try.prog 45 #[.string s, .int .i64 72] W (VE W (.int .u64 (n9 : Int)))))
    (HA16 : Hid (∀ W, Calls Try.prog 45 #[.string s, .int .i64 128] W (VE W (.int .u64 (n16 : Int)))))
    (HAK : Hid (∀ k : Nat, k < 6 → ∀ W, Calls Try.prog 45 #[.string s, .int .i64 (80 + 8 * (k : Int))] W (VE W (.int .u64 (V k : Int)))))
    (HS : Hid ((LSix ((((((((((su0.cells.toList.set 0 (.int .i64 (wrap64 (n0 : Int)))).set 1 (.int .i64 (wrap64 (n1 : Int)))).set 2 (.int .i64 (wrap64 (n2 : Int)))).set 3 (.int .i64 (wrap64 (n3 : Int)))).set 4 (.int .i64 (wrap64 (n4 : Int)))).set 5 (.int .i64 (wrap64 (n5 : Int)))).set 6 (.int .i64 (wrap64 (n6 : Int)))).set 7 (.int .u64 (n7 : Int))).set 8 (.int .i64 (wrap64 (n8 : Int)))).set 9 (.int .i64 (wrap64 (n9 : Int)))) (fun k => .int .u64 (V k : Int)) 6).set 16 (.int .u64 (n16 : Int)) = S.cells.toList))
    (HPK : Hid (∀ W, Calls Try.prog 10 #[.agg S.cells] W fun e w' => e = .returned (.tuple #[.string PB, .int .i64 PE]) ∧ Below W.heap.size W w'))
    (HRES : Hid ((PE = 0 ∧ PB = s ∧ R = S ∧ x = 0) ∨ (PE = 4 ∧ R = su0 ∧ x = 4))) :
    Calls Try.prog 16 #[.string s] w (UE w (R, x)) := by
  have HZS := hid superSize
  have HR0 : Hid (Row ((w.alloc (.cells su0.cells 27)).alloc (.cells su0.cells 27)) (w.heap.size + 1) 27 su0.cells.toList) := hid (alloc2_new _ _ _)
  have HRR : Hid (Row ((w.alloc (.cells su0.cells 27)).alloc (.cells su0.cells 27)) w.heap.size 27 su0.cells.toList) := hid ((Row.new _ _ _).alloc _)
  have HB0 : Hid (Below w.heap.size w ((w.alloc (.cells su0.cells 27)).alloc (.cells su0.cells 27))) := hid (((Below.refl _ _).alloc (Nat.le_refl _) _).alloc (by simp) _)
  have hne : (((s.size : Nat) : Int) != 136) = false := by simp; omega
  clear hl
  go_enter Try.func16, Try.ntmps16
  go_wp2_with (first
    | (go_at_call_of 45 (Value.int IntKind.i64 0); refine (HA0.out _).mono ?_; rintro e wx ⟨rfl, hbx⟩; have hrow := HR0.out.below hbx (by simp); have hrr := HRR.out.below hbx (by simp; omega); have hbe := HB0.out.trans (hbx.mono (by simp; omega)); clear hbx)
    | ((with_reducible show wpList _ _ _ ({ dst := none, op := .store _ (.tmp 16) _, type := _, pos := _, after := _, guard := _ } :: _) _ _); (refine wpl_store_c rfl 3 (.tmp 16) (.tmp 15) rfl (w.heap.size + 1) 0 (.int .i64 (wrap64 (n0 : Int))) rfl rfl hrow sizeInt ?_ (hid (by first | (simp only [List.length_set]; show _ < 17; omega) | (show _ < 17; omega))) (hid rfl); intro wy hry hgy; replace hrr := hrr.grown hgy (by simp); replace hbe := hbe.trans (below_grown hgy (by omega) hbe.size); clear hrow; have hrow := hry; clear hry hgy))
    | (go_at_call_of 45 (Value.int IntKind.i64 8); refine (HA1.out _).mono ?_; rintro e wx ⟨rfl, hbx⟩; replace hrow := hrow.below hbx hrow.lt; replace hrr := hrr.below hbx hrr.lt; replace hbe := hbe.trans (hbx.mono hbe.size); clear hbx)
    | ((with_reducible show wpList _ _ _ ({ dst := none, op := .store _ (.tmp 20) _, type := _, pos := _, after := _, guard := _ } :: _) _ _); (refine wpl_store_c rfl 3 (.tmp 20) (.tmp 19) rfl (w.heap.size + 1) 1 (.int .i64 (wrap64 (n1 : Int))) rfl rfl hrow sizeInt ?_ (hid (by first | (simp only [List.length_set]; show _ < 17; omega) | (show _ < 17; omega))) (hid rfl); intro wy hry hgy; replace hrr := hrr.grown hgy (by simp); replace hbe := hbe.trans (below_grown hgy (by omega) hbe.size); clear hrow; have hrow := hry; clear hry hgy))
    | (go_at_call_of 45 (Value.int IntKind.i64 16); refine (HA2.out _).mono ?_; rintro e wx ⟨rfl, hbx⟩; replace hrow := hrow.below hbx hrow.lt; replace hrr := hrr.below hbx hrr.lt; replace hbe := hbe.trans (hbx.mono hbe.size); clear hbx)
    | ((with_reducible show wpList _ _ _ ({ dst := none, op := .store _ (.tmp 24) _, type := _, pos := _, after := _, guard := _ } :: _) _ _); (refine wpl_store_c rfl 3 (.tmp 24) (.tmp 23) rfl (w.heap.size + 1) 2 (.int .i64 (wrap64 (n2 : Int))) rfl rfl hrow sizeInt ?_ (hid (by first | (simp only [List.length_set]; show _ < 17; omega) | (show _ < 17; omega))) (hid rfl); intro wy hry hgy; replace hrr := hrr.grown hgy (by simp); replace hbe := hbe.trans (below_grown hgy (by omega) hbe.size); clear hrow; have hrow := hry; clear hry hgy))
    | (go_at_call_of 45 (Value.int IntKind.i64 24); refine (HA3.out _).mono ?_; rintro e wx ⟨rfl, hbx⟩; replace hrow := hrow.below hbx hrow.lt; replace hrr := hrr.below hbx hrr.lt; replace hbe := hbe.trans (hbx.mono hbe.size); clear hbx)
    | ((with_reducible show wpList _ _ _ ({ dst := none, op := .store _ (.tmp 28) _, type := _, pos := _, after := _, guard := _ } :: _) _ _); (refine wpl_store_c rfl 3 (.tmp 28) (.tmp 27) rfl (w.heap.size + 1) 3 (.int .i64 (wrap64 (n3 : Int))) rfl rfl hrow sizeInt ?_ (hid (by first | (simp only [List.length_set]; show _ < 17; omega) | (show _ < 17; omega))) (hid rfl); intro wy hry hgy; replace hrr := hrr.grown hgy (by simp); replace hbe := hbe.trans (below_grown hgy (by omega) hbe.size); clear hrow; have hrow := hry; clear hry hgy))
    | (go_at_call_of 45 (Value.int IntKind.i64 32); refine (HA4.out _).mono ?_; rintro e wx ⟨rfl, hbx⟩; replace hrow := hrow.below hbx hrow.lt; replace hrr := hrr.below hbx hrr.lt; replace hbe := hbe.trans (hbx.mono hbe.size); clear hbx)
    | ((with_reducible show wpList _ _ _ ({ dst := none, op := .store _ (.tmp 32) _, type := _, pos := _, after := _, guard := _ } :: _) _ _); (refine wpl_store_c rfl 3 (.tmp 32) (.tmp 31) rfl (w.heap.size + 1) 4 (.int .i64 (wrap64 (n4 : Int))) rfl rfl hrow sizeInt ?_ (hid (by first | (simp only [List.length_set]; show _ < 17; omega) | (show _ < 17; omega))) (hid rfl); intro wy hry hgy; replace hrr := hrr.grown hgy (by simp); replace hbe := hbe.trans (below_grown hgy (by omega) hbe.size); clear hrow; have hrow := hry; clear hry hgy))
    | (go_at_call_of 45 (Value.int IntKind.i64 40); refine (HA5.out _).mono ?_; rintro e wx ⟨rfl, hbx⟩; replace hrow := hrow.below hbx hrow.lt; replace hrr := hrr.below hbx hrr.lt; replace hbe := hbe.trans (hbx.mono hbe.size); clear hbx)
    | ((with_reducible show wpList _ _ _ ({ dst := none, op := .store _ (.tmp 37) _, type := _, pos := _, after := _, guard := _ } :: _) _ _); (refine wpl_store_c rfl 3 (.tmp 37) (.tmp 35) rfl (w.heap.size + 1) 5 (.int .i64 (wrap64 (n5 : Int))) rfl rfl hrow sizeInt ?_ (hid (by first | (simp only [List.length_set]; show _ < 17; omega) | (show _ < 17; omega))) (hid rfl); intro wy hry hgy; replace hrr := hrr.grown hgy (by simp); replace hbe := hbe.trans (below_grown hgy (by omega) hbe.size); clear hrow; have hrow := hry; clear hry hgy))
    | (go_at_call_of 45 (Value.int IntKind.i64 48); refine (HA6.out _).mono ?_; rintro e wx ⟨rfl, hbx⟩; replace hrow := hrow.below hbx hrow.lt; replace hrr := hrr.below hbx hrr.lt; replace hbe := hbe.trans (hbx.mono hbe.size); clear hbx)
    | ((with_reducible show wpList _ _ _ ({ dst := none, op := .store _ (.tmp 42) _, type := _, pos := _, after := _, guard := _ } :: _) _ _); (refine wpl_store_c rfl 3 (.tmp 42) (.tmp 40) rfl (w.heap.size + 1) 6 (.int .i64 (wrap64 (n6 : Int))) rfl rfl hrow sizeInt ?_ (hid (by first | (simp only [List.length_set]; show _ < 17; omega) | (show _ < 17; omega))) (hid rfl); intro wy hry hgy; replace hrr := hrr.grown hgy (by simp); replace hbe := hbe.trans (below_grown hgy (by omega) hbe.size); clear hrow; have hrow := hry; clear hry hgy))
    | (go_at_call_of 45 (Value.int IntKind.i64 56); refine (HA7.out _).mono ?_; rintro e wx ⟨rfl, hbx⟩; replace hrow := hrow.below hbx hrow.lt; replace hrr := hrr.below hbx hrr.lt; replace hbe := hbe.trans (hbx.mono hbe.size); clear hbx)
    | ((with_reducible show wpList _ _ _ ({ dst := none, op := .store _ (.tmp 46) _, type := _, pos := _, after := _, guard := _ } :: _) _ _); (refine wpl_store_c rfl 22 (.tmp 46) (.tmp 44) rfl (w.heap.size + 1) 7 (.int .u64 (n7 : Int)) rfl rfl hrow sizeU64 ?_ (hid (by first | (simp only [List.length_set]; show _ < 17; omega) | (show _ < 17; omega))) (hid rfl); intro wy hry hgy; replace hrr := hrr.grown hgy (by simp); replace hbe := hbe.trans (below_grown hgy (by omega) hbe.size); clear hrow; have hrow := hry; clear hry hgy))
    | (go_at_call_of 45 (Value.int IntKind.i64 64); refine (HA8.out _).mono ?_; rintro e wx ⟨rfl, hbx⟩; replace hrow := hrow.below hbx hrow.lt; replace hrr := hrr.below hbx hrr.lt; replace hbe := hbe.trans (hbx.mono hbe.size); clear hbx)
    | ((with_reducible show wpList _ _ _ ({ dst := none, op := .store _ (.tmp 50) _, type := _, pos := _, after := _, guard := _ } :: _) _ _); (refine wpl_store_c rfl 3 (.tmp 50) (.tmp 49) rfl (w.heap.size + 1) 8 (.int .i64 (wrap64 (n8 : Int))) rfl rfl hrow sizeInt ?_ (hid (by first | (simp only [List.length_set]; show _ < 17; omega) | (show _ < 17; omega))) (hid rfl); intro wy hry hgy; replace hrr := hrr.grown hgy (by simp); replace hbe := hbe.trans (below_grown hgy (by omega) hbe.size); clear hrow; have hrow := hry; clear hry hgy))
    | (go_at_call_of 45 (Value.int IntKind.i64 72); refine (HA9.out _).mono ?_; rintro e wx ⟨rfl, hbx⟩; replace hrow := hrow.below hbx hrow.lt; replace hrr := hrr.below hbx hrr.lt; replace hbe := hbe.trans (hbx.mono hbe.size); clear hbx)
    | ((with_reducible show wpList _ _ _ ({ dst := none, op := .store _ (.tmp 54) _, type := _, pos := _, after := _, guard := _ } :: _) _ _); (refine wpl_store_c rfl 3 (.tmp 54) (.tmp 53) rfl (w.heap.size + 1) 9 (.int .i64 (wrap64 (n9 : Int))) rfl rfl hrow sizeInt ?_ (hid (by first | (simp only [List.length_set]; show _ < 17; omega) | (show _ < 17; omega))) (hid rfl); intro wy hry hgy; replace hrr := hrr.grown hgy (by simp); replace hbe := hbe.trans (below_grown hgy (by omega) hbe.size); clear hrow; have hrow := hry; clear hry hgy)))
  clear hne
  have HRW := hid hrow
  have HRT := hid hrr
  have HBE := hid hbe
  clear hrow hrr hbe
  generalize hL : ((((((((((su0.cells.toList.set 0 (.int .i64 (wrap64 (n0 : Int)))).set 1 (.int .i64 (wrap64 (n1 : Int)))).set 2 (.int .i64 (wrap64 (n2 : Int)))).set 3 (.int .i64 (wrap64 (n3 : Int)))).set 4 (.int .i64 (wrap64 (n4 : Int)))).set 5 (.int .i64 (wrap64 (n5 : Int)))).set 6 (.int .i64 (wrap64 (n6 : Int)))).set 7 (.int .u64 (n7 : Int))).set 8 (.int .i64 (wrap64 (n8 : Int)))).set 9 (.int .i64 (wrap64 (n9 : Int)))) = L at *
  have hlen : L.length = 17 := by rw [← hL]; simp only [List.length_set]; rfl
  clear hL
  have HLL := hid hlen
  clear hlen
  go_loopw [5] (fun i wr => ∃ k : Nat, k ≤ 6 ∧ i = .int .i64 k ∧ Row wr (w.heap.size + 1) 27 (LSix L (fun k => .int .u64 (V k : Int)) k) ∧ Row wr w.heap.size 27 su0.cells.toList ∧ Below w.heap.size w wr) (fun i _ => 6 - (intOf i).toNat)
  case atStart => exact ⟨0, by omega, rfl, HRW.out, HRT.out, HBE.out⟩
  case round =>
    obtain ⟨k, hk, rfl, h1, h2, h3⟩ := hrel
    have R1 := hid h1
    have R2 := hid h2
    have B3 := hid h3
    have hsz := h1.lt
    clear h1 h2 h3
    by_cases hlt : k < 6
    · have HC := hid (HAK.out k hlt)
      have HLE : Hid (10 + k < (LSix L (fun k => .int .u64 (V k : Int)) k).length) := hid (by rw [LSix_len, HLL.out]; omega)
      have hLK : LSix L (fun k => .int .u64 (V k : Int)) (k + 1) = (LSix L (fun k => .int .u64 (V k : Int)) k).set (10 + k) (.int .u64 (V k : Int)) := rfl
      have HLK := hid hLK
      generalize LSix L (fun k => .int .u64 (V k : Int)) k = Lk at *
      generalize V k = vk at *
      clear hLK
      go_wp2_with (first
        | (go_at_call 45; refine (HC.out _).mono ?_; rintro e wx ⟨rfl, hbx⟩; have q1 := R1.out.below hbx hsz; have q2 := R2.out.below hbx (by omega); have q3 := B3.out.trans (hbx.mono B3.out.size); clear hbx)
        | (refine wpl_store_c rfl 22 (.tmp 66) (.tmp 64) rfl (w.heap.size + 1) (10 + k) (.int .u64 (vk : Int)) rfl rfl q1 sizeU64 ?_ HLE (hid rfl); intro wy hry hgy; have q2' := q2.grown hgy (by simp); have q3' := q3.trans (below_grown hgy (by omega) q3.size)))
      exact ⟨⟨k + 1, by omega, by go_num, by rw [HLK.out]; exact hry, q2', q3'⟩, by simp [intOf]; omega⟩
    · obtain rfl : k = 6 := by omega
      have HLE : Hid (16 < (LSix L (fun k => .int .u64 (V k : Int)) 6).length) := hid (by rw [LSix_len, HLL.out]; omega)
      generalize LSix L (fun k => .int .u64 (V k : Int)) 6 = L6 at *
      have HSS := hid (cells_size S)
      have HSO := hid (cells_one S)
      have hres : ∀ (q : Su) (z : Int) (e : Ending) (w' : World), q = R → z = x → e = .returned (.tuple #[.agg q.cells, .int .i64 z]) → Below w.heap.size w w' → UE w (R, x) e w' := fun q z e w' h1 h2 h3 h4 => by subst h1; subst h2; exact ⟨h3, h4⟩
      have HF := hid hres
      clear hres
      rcases HRES.out with ⟨e1, e2, e3, e4⟩ | ⟨e1, e3, e4⟩
      · subst e1 e2
        have H3 := hid e3.symm
        have H4 := hid e4.symm
        have HFS := hid (HF.out S)
        clear e3 e4 HRES HF
        generalize S.cells = C at *
        go_wp2_with (first
          | (go_at_call 45; refine (HA16.out _).mono ?_; rintro e wx ⟨rfl, hbx⟩; have q1 := R1.out.below hbx hsz; have q2 := R2.out.below hbx (by omega); have q3 := B3.out.trans (hbx.mono B3.out.size); clear hbx)
          | (refine wpl_store_c rfl 22 (.tmp 69) (.tmp 68) rfl (w.heap.size + 1) 16 (.int .u64 (n16 : Int)) rfl rfl q1 sizeU64 ?_ HLE (hid rfl); intro wy hry hgy; rw [HS.out] at hry; replace q2 := q2.grown hgy (by simp); replace q3 := q3.trans (below_grown hgy (by omega) q3.size); clear hgy)
          | (refine wpList_load_row rfl 27 (.tmp 4) rfl (w.heap.size + 1) rfl 27 C (0, 0) _ hrp.arr Try.underlying27 rfl (by rw [HSS.out]; exact HZS.out) ?_)
          | (refine wpList_load_row rfl 27 (.tmp 4) rfl (w.heap.size + 1) rfl 27 C (0, 0) _ hry.arr Try.underlying27 rfl (by rw [HSS.out]; exact HZS.out) ?_)
          | (go_at_call 10; refine (HPK.out _).mono ?_; rintro e wp ⟨rfl, hbp⟩; have hrp := hry.below hbp hry.lt; replace q2 := q2.below hbp q2.lt; replace q3 := q3.trans (hbp.mono q3.size); clear hbp)
          | (refine wpl_store_st rfl (.tmp 2) (.tmp 83) rfl (n := 17) HZS.out w.heap.size su0.cells C rfl rfl q2 ?_ (hid rfl) HSS HSO; intro wz HRZ HBZ))
        exact bodyPost_ret (v := .tuple #[.agg C, .int .i64 0]) (results_cell1 rfl _ _ w.heap.size 27 C (0, 0) _ (.int .i64 0) rfl rfl HRZ.arr Try.underlying27 rfl (by rw [HSS.out]; exact HZS.out)) rfl
          (HFS.out _ _ _ H3.out H4.out rfl (q3.trans (below_grown HBZ (Nat.le_refl _) q3.size)))
      · subst e1
        have H3 := hid e3.symm
        have H4 := hid e4.symm
        have HFS := hid (HF.out su0)
        clear e3 e4 HRES HF
        generalize S.cells = C at *
        go_wp2_with (first
          | (go_at_call 45; refine (HA16.out _).mono ?_; rintro e wx ⟨rfl, hbx⟩; have q1 := R1.out.below hbx hsz; have q2 := R2.out.below hbx (by omega); have q3 := B3.out.trans (hbx.mono B3.out.size); clear hbx)
          | (refine wpl_store_c rfl 22 (.tmp 69) (.tmp 68) rfl (w.heap.size + 1) 16 (.int .u64 (n16 : Int)) rfl rfl q1 sizeU64 ?_ HLE (hid rfl); intro wy hry hgy; rw [HS.out] at hry; replace q2 := q2.grown hgy (by simp); replace q3 := q3.trans (below_grown hgy (by omega) q3.size); clear hgy)
          | (refine wpList_load_row rfl 27 (.tmp 4) rfl (w.heap.size + 1) rfl 27 C (0, 0) _ hrp.arr Try.underlying27 rfl (by rw [HSS.out]; exact HZS.out) ?_)
          | (refine wpList_load_row rfl 27 (.tmp 4) rfl (w.heap.size + 1) rfl 27 C (0, 0) _ hry.arr Try.underlying27 rfl (by rw [HSS.out]; exact HZS.out) ?_)
          | (go_at_call 10; refine (HPK.out _).mono ?_; rintro e wp ⟨rfl, hbp⟩; have hrp := hry.below hbp hry.lt; replace q2 := q2.below hbp q2.lt; replace q3 := q3.trans (hbp.mono q3.size); clear hbp)
          | (refine wpl_store_st rfl (.tmp 2) (.tmp 82) rfl (n := 17) HZS.out w.heap.size su0.cells su0.cells rfl rfl q2 ?_ (hid rfl) (hid rfl) (cells_one _); intro wz HRZ HBZ))
        exact bodyPost_ret (v := .tuple #[.agg su0.cells, .int .i64 4]) (results_cell1 rfl _ _ w.heap.size 27 su0.cells (0, 0) _ (.int .i64 4) rfl rfl HRZ.arr Try.underlying27 rfl HZS.out) rfl
          (HFS.out _ _ _ H3.out H4.out rfl (q3.trans (below_grown HBZ (Nat.le_refl _) q3.size)))
theorem runpack_any (s : ByteArray) (hs : s.size ≤ 140737488355328) (w : World) : Calls Try.prog 16 #[.string s] w (UE w (unpackU (sb s))) := by
  have hsl := sb_len s
  by_cases hl : s.size = 136
  · have hl2 : (sb s).length = 136 := by omega
    have HA : ∀ i : Nat, i + 8 ≤ 136 → ∀ y : Int, (i : Int) = y → ∀ W, Calls Try.prog 45 #[.string s, .int .i64 y] W (VE W (.int .u64 (at8 (sb s) i : Int))) := fun i hi y hy W => by
      subst hy
      exact at_any s i W (by omega) hs
    have e0 : unpackU (sb s) = ((unpackU (sb s)).1, (unpackU (sb s)).2) := rfl
    rw [e0]
    have hg : ∀ k m, k < 17 → m = 8 * k → (takeU (sb s)).getD k 0 = at8 (sb s) m := fun k m hk hm => by
      subst hm
      rw [takeU, List.getD_eq_getElem?_getD, List.getElem?_map, List.getElem?_range hk]
      rfl
    have hS : suOf (takeU (sb s)) = ⟨sg (at8 (sb s) 0), sg (at8 (sb s) 8), sg (at8 (sb s) 16), sg (at8 (sb s) 24), sg (at8 (sb s) 32), sg (at8 (sb s) 40), sg (at8 (sb s) 48), at8 (sb s) 56, sg (at8 (sb s) 64), sg (at8 (sb s) 72), at8 (sb s) 80, at8 (sb s) 88, at8 (sb s) 96, at8 (sb s) 104, at8 (sb s) 112, at8 (sb s) 120, at8 (sb s) 128⟩ := by
      unfold suOf
      rw [hg 0 0 (by omega) (by omega), hg 1 8 (by omega) (by omega), hg 2 16 (by omega) (by omega), hg 3 24 (by omega) (by omega), hg 4 32 (by omega) (by omega), hg 5 40 (by omega) (by omega), hg 6 48 (by omega) (by omega), hg 7 56 (by omega) (by omega), hg 8 64 (by omega) (by omega), hg 9 72 (by omega) (by omega), hg 10 80 (by omega) (by omega), hg 11 88 (by omega) (by omega), hg 12 96 (by omega) (by omega), hg 13 104 (by omega) (by omega), hg 14 112 (by omega) (by omega), hg 15 120 (by omega) (by omega), hg 16 128 (by omega) (by omega)]
    have hcl : (LSix ((((((((((su0.cells.toList.set 0 (.int .i64 (wrap64 (at8 (sb s) 0 : Int)))).set 1 (.int .i64 (wrap64 (at8 (sb s) 8 : Int)))).set 2 (.int .i64 (wrap64 (at8 (sb s) 16 : Int)))).set 3 (.int .i64 (wrap64 (at8 (sb s) 24 : Int)))).set 4 (.int .i64 (wrap64 (at8 (sb s) 32 : Int)))).set 5 (.int .i64 (wrap64 (at8 (sb s) 40 : Int)))).set 6 (.int .i64 (wrap64 (at8 (sb s) 48 : Int)))).set 7 (.int .u64 (at8 (sb s) 56 : Int))).set 8 (.int .i64 (wrap64 (at8 (sb s) 64 : Int)))).set 9 (.int .i64 (wrap64 (at8 (sb s) 72 : Int)))) (fun k => .int .u64 ((at8 (sb s) (80 + 8 * k) : Nat) : Int)) 6).set 16 (.int .u64 (at8 (sb s) 128 : Int)) = (suOf (takeU (sb s))).cells.toList := by
      rw [hS]
      generalize sb s = b
      rfl
    have hfit := suOf_fits _ (takeU_len (sb s)) (takeU_lt (sb s))
    refine runpack_len s (at8 (sb s) 0) (at8 (sb s) 8) (at8 (sb s) 16) (at8 (sb s) 24) (at8 (sb s) 32) (at8 (sb s) 40) (at8 (sb s) 48) (at8 (sb s) 56) (at8 (sb s) 64) (at8 (sb s) 72) (at8 (sb s) 128) (fun k => at8 (sb s) (80 + 8 * k)) (suOf (takeU (sb s))) ⟨(packU (suOf (takeU (sb s)))).1.toArray⟩ (packU (suOf (takeU (sb s)))).2 _ _ w hl
      (hid (HA 0 (by omega) 0 rfl))
      (hid (HA 8 (by omega) 8 rfl))
      (hid (HA 16 (by omega) 16 rfl))
      (hid (HA 24 (by omega) 24 rfl))
      (hid (HA 32 (by omega) 32 rfl))
      (hid (HA 40 (by omega) 40 rfl))
      (hid (HA 48 (by omega) 48 rfl))
      (hid (HA 56 (by omega) 56 rfl))
      (hid (HA 64 (by omega) 64 rfl))
      (hid (HA 72 (by omega) 72 rfl))
      (hid (HA 128 (by omega) 128 rfl)) (hid fun k hk => HA (80 + 8 * k) (by omega) _ (by omega)) (hid hcl) (hid fun W => rpack_any _ hfit W) (hid ?_)
    unfold unpackU packU
    by_cases h : SR (suOf (takeU (sb s)))
    · rw [if_pos h, if_pos ⟨hl2, h⟩]
      exact .inl ⟨rfl, by rw [bytes_of _ hl2, mk_sb], rfl, rfl⟩
    · rw [if_neg h, if_neg (fun h' => h h'.2)]
      exact .inr ⟨rfl, rfl, rfl⟩
  · have e0 : unpackU (sb s) = (su0, 4) := by
      unfold unpackU
      rw [if_neg (by intro h; omega)]
    rw [e0]
    have h1 : (((s.size : Nat) : Int) != 136) = true := by simp; omega
    clear e0 hsl
    go_enter Try.func16, Try.ntmps16
    go_wp2_with fail
    exact bodyPost_ret (v := .tuple #[.agg su0.cells, .int .i64 4]) (results_cell1 rfl _ _ w.heap.size 27 su0.cells (0, 0) _ (.int .i64 4) rfl rfl (heap_alloc_new _ _) Try.underlying27 rfl (by kernel_rfl)) rfl
      ⟨rfl, (Below.refl _ _).alloc (Nat.le_refl _) _⟩
end Go.Proofs.Ytogchfpecbmocaa
