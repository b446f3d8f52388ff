/-
  The walk of package super's superOf.
-/
import Derived.Test.YtogchfpecbmocaaM16
import Derived.Test.YtogchfpecbmocaaM05
namespace Go.Proofs.Ytogchfpecbmocaa
open Go.RowKit
set_option maxRecDepth 10000

set_option maxHeartbeats 2000000 in
theorem superof_any (l : List Nat) (hl : l.length = 17) (w : World) : Calls Try.prog 43 #[.agg (av l).toArray] w (VE w (suOf l).val) := by
  obtain ⟨n0, n1, n2, n3, n4, n5, n6, n7, n8, n9, n10, n11, n12, n13, n14, n15, n16, rfl⟩ := list17 l hl
  show Calls Try.prog 43 #[.agg #[.int .u64 (n0 : Int), .int .u64 (n1 : Int), .int .u64 (n2 : Int), .int .u64 (n3 : Int), .int .u64 (n4 : Int), .int .u64 (n5 : Int), .int .u64 (n6 : Int), .int .u64 (n7 : Int), .int .u64 (n8 : Int), .int .u64 (n9 : Int), .int .u64 (n10 : Int), .int .u64 (n11 : Int), .int .u64 (n12 : Int), .int .u64 (n13 : Int), .int .u64 (n14 : Int), .int .u64 (n15 : Int), .int .u64 (n16 : Int)]] w (VE w (.agg (Array.mk [.int .i64 (wrap64 (n0 : Int)), .int .i64 (wrap64 (n1 : Int)), .int .i64 (wrap64 (n2 : Int)), .int .i64 (wrap64 (n3 : Int)), .int .i64 (wrap64 (n4 : Int)), .int .i64 (wrap64 (n5 : Int)), .int .i64 (wrap64 (n6 : Int)), .int .u64 (n7 : Int), .int .i64 (wrap64 (n8 : Int)), .int .i64 (wrap64 (n9 : Int)), .int .u64 (n10 : Int), .int .u64 (n11 : Int), .int .u64 (n12 : Int), .int .u64 (n13 : Int), .int .u64 (n14 : Int), .int .u64 (n15 : Int), .int .u64 (n16 : Int)])))
  obtain ⟨C, hC⟩ : ∃ C : List Value, C = [.int .i64 (wrap64 (n0 : Int)), .int .i64 (wrap64 (n1 : Int)), .int .i64 (wrap64 (n2 : Int)), .int .i64 (wrap64 (n3 : Int)), .int .i64 (wrap64 (n4 : Int)), .int .i64 (wrap64 (n5 : Int)), .int .i64 (wrap64 (n6 : Int)), .int .u64 (n7 : Int), .int .i64 (wrap64 (n8 : Int)), .int .i64 (wrap64 (n9 : Int)), .int .u64 (n10 : Int), .int .u64 (n11 : Int), .int .u64 (n12 : Int), .int .u64 (n13 : Int), .int .u64 (n14 : Int), .int .u64 (n15 : Int), .int .u64 (n16 : Int)] := ⟨_, rfl⟩
  rw [← hC]
  have HE := hid hC
  clear hC hl
  go_enter Try.func43, Try.ntmps43
  go_wp2_with fail
  refine name_wp (fun w3 hw3 => ?_)
  have r0 : Row w3 w.heap.size 70 [.int .u64 (n0 : Int), .int .u64 (n1 : Int), .int .u64 (n2 : Int), .int .u64 (n3 : Int), .int .u64 (n4 : Int), .int .u64 (n5 : Int), .int .u64 (n6 : Int), .int .u64 (n7 : Int), .int .u64 (n8 : Int), .int .u64 (n9 : Int), .int .u64 (n10 : Int), .int .u64 (n11 : Int), .int .u64 (n12 : Int), .int .u64 (n13 : Int), .int .u64 (n14 : Int), .int .u64 (n15 : Int), .int .u64 (n16 : Int)] := by rw [hw3]; exact alloc3_old _ _ _ _
  have r1 : Row w3 (w.heap.size + 1) 27 [.int .i64 0, .int .i64 0, .int .i64 0, .int .i64 0, .int .i64 0, .int .i64 0, .int .i64 0, .int .u64 0, .int .i64 0, .int .i64 0, .int .u64 0, .int .u64 0, .int .u64 0, .int .u64 0, .int .u64 0, .int .u64 0, .int .u64 0] := by rw [hw3]; exact alloc3_mid _ _ _ _
  have r2 : Row w3 (w.heap.size + 1 + 1) 27 [.int .i64 (wrap64 (n0 : Int)), .int .i64 (wrap64 (n1 : Int)), .int .i64 (wrap64 (n2 : Int)), .int .i64 (wrap64 (n3 : Int)), .int .i64 (wrap64 (n4 : Int)), .int .i64 (wrap64 (n5 : Int)), .int .i64 (wrap64 (n6 : Int)), .int .u64 (n7 : Int), .int .i64 (wrap64 (n8 : Int)), .int .i64 (wrap64 (n9 : Int)), .int .u64 0, .int .u64 0, .int .u64 0, .int .u64 0, .int .u64 0, .int .u64 0, .int .u64 (n16 : Int)] := by rw [hw3]; exact alloc3_new _ _ _ _
  have hb : Below w.heap.size w w3 := by rw [hw3]; exact (((Below.refl _ _).alloc (Nat.le_refl _) _).alloc (by simp) _).alloc (by simp; omega) _
  clear hw3
  have hz := r2.lt
  have H1 := hid r1
  have HB := hid hb
  have f1 : Hid (Rd w3.drew w3.heap.size (some ⟨w.heap.size, 10, none⟩) [.int .u64 (n10 : Int), .int .u64 (n11 : Int), .int .u64 (n12 : Int), .int .u64 (n13 : Int), .int .u64 (n14 : Int), .int .u64 (n15 : Int)]) := hid ((r0.rdCut (B := w3.heap.size) r0.lt 10 6).drew)
  have f2 : Hid (([.int .u64 (n10 : Int), .int .u64 (n11 : Int), .int .u64 (n12 : Int), .int .u64 (n13 : Int), .int .u64 (n14 : Int), .int .u64 (n15 : Int)] : List Value).length = Nat.min 6 6) := hid rfl
  have f3 : Hid (0 < ([.int .u64 (n10 : Int), .int .u64 (n11 : Int), .int .u64 (n12 : Int), .int .u64 (n13 : Int), .int .u64 (n14 : Int), .int .u64 (n15 : Int)] : List Value).length → (some (⟨w.heap.size + 1 + 1, 10, none⟩ : Addr)) = some ⟨w.heap.size + 1 + 1, 10, none⟩) := hid (fun _ => rfl)
  have f5 : Hid (∀ v ∈ ([.int .u64 (n10 : Int), .int .u64 (n11 : Int), .int .u64 (n12 : Int), .int .u64 (n13 : Int), .int .u64 (n14 : Int), .int .u64 (n15 : Int)] : List Value), v.oneCell' = true) := hid (by simp [Value.oneCell'])
  clear r0 r1 hb
  go_region_law (refine step_of_wpo rfl (wpo_copy (.tmp 38) (.tmp 39) 105 105 rfl 22 Try.underlying105 (by kernel_rfl) (some ⟨w.heap.size + 1 + 1, 10, none⟩) (some ⟨w.heap.size, 10, none⟩) 6 6 6 7 (by simp [Act.eval, Act.put]) (by simp [Act.eval, Act.put]) (w.heap.size + 1 + 1) 10 _ 27 r2 _ _ (fun w4 HR4 HB4 => ?_) f1 f2 f3 (hid (by simp)) f5))
  simp only [splice, List.take, List.drop, List.cons_append, List.nil_append, List.length_cons, List.length_nil, Nat.reduceAdd] at HR4
  rw [← HE.out] at HR4
  have H4 := hid HR4
  have H1' := hid ((H1.out.drew).grown HB4 (by simp))
  have HB5 := hid (HB.out.drew.trans (below_grown (B := w.heap.size) HB4 (by omega) (by show w.heap.size ≤ w3.heap.size; omega)))
  have HS : Hid (C.toArray.size = 17) := hid (by rw [HE.out]; rfl)
  have HO : Hid (C.toArray.all (·.oneCell') = true) := hid (by rw [HE.out]; simp [Value.oneCell'])
  clear HR4 HB4 f1 f2 f3 f5 r2 H1 HB HE
  go_wp2_with (first
    | (refine wpList_load_row rfl 27 (.tmp 3) rfl (w.heap.size + 1 + 1) rfl 27 C.toArray (0, 0) _ H4.out Try.underlying27 rfl (by rw [HS.out]; kernel_rfl) ?_)
    | (refine wpl_store_st rfl (.tmp 2) (.tmp 41) rfl (n := 17) (by kernel_rfl) (w.heap.size + 1) ([.int .i64 0, .int .i64 0, .int .i64 0, .int .i64 0, .int .i64 0, .int .i64 0, .int .i64 0, .int .u64 0, .int .i64 0, .int .i64 0, .int .u64 0, .int .u64 0, .int .u64 0, .int .u64 0, .int .u64 0, .int .u64 0, .int .u64 0] : List Value).toArray C.toArray rfl rfl H1'.out ?_ (hid rfl) HS HO; intro w5 HR5 HB6))
  exact bodyPost_ret (v := .agg C.toArray) (results_cell_row rfl _ _ (w.heap.size + 1) 27 C.toArray (0, 0) _ rfl HR5 Try.underlying27 rfl (by rw [HS.out]; kernel_rfl)) rfl
    ⟨rfl, HB5.out.trans (below_grown HB6 (by omega) (HB5.out.size))⟩
end Go.Proofs.Ytogchfpecbmocaa
/-
  The walk of package super's Unpack.
-/
namespace Go.Proofs.Ytogchfpecbmocaa
open Go.RowKit
set_option maxRecDepth 10000

/-- a superblock and an error's number -/
def UE (w : World) (r : Su × Int) (e : Ending) (w' : World) : Prop := e = .returned (.tuple #[r.1.val, .int .i64 r.2]) ∧ Below w.heap.size w w'
theorem cells_size (s : Su) : s.cells.size = 17 := rfl
theorem cells_one (s : Su) : s.cells.all (·.oneCell') = true := by simp [Su.cells, Value.oneCell']
theorem su0_cells : su0.cells = #[.int .i64 0, .int .i64 0, .int .i64 0, .int .i64 0, .int .i64 0, .int .i64 0, .int .i64 0, .int .u64 0, .int .i64 0, .int .i64 0, .int .u64 0, .int .u64 0, .int .u64 0, .int .u64 0, .int .u64 0, .int .u64 0, .int .u64 0] := rfl
set_option maxHeartbeats 1000000 in
theorem sunpack_any (s : ByteArray) (w : World) : Calls Try.prog 15 #[.string s] w (UE w (unpackU (sb s))) := by
  have hsl := sb_len s
  have HZS : Hid ((Try.prog.info? 27).map (·.size) = some 17) := hid (by kernel_rfl)
  by_cases hl : s.size = 136
  · have hl2 : (sb s).length = 136 := by omega
    have HT := hid (fun A c B W h1 h2 h3 => stake_any A (sb s) 136 c B W h1 hl2.symm hl2 h2 h3)
    have HO : Hid (∀ W, Calls Try.prog 43 #[.agg (av (takeU (sb s))).toArray] W (VE W (.agg (suOf (takeU (sb s))).cells))) := hid (fun W => superof_any _ (takeU_len _) W)
    have HR : Hid (∀ W, Calls Try.prog 11 #[.agg (suOf (takeU (sb s))).cells] W (VE W (.bool (decide (SR (suOf (takeU (sb s)))))))) := hid (fun W => right_any _ W)
    have e0 : unpackU (sb s) = if SR (suOf (takeU (sb s))) then (suOf (takeU (sb s)), 0) else (su0, 4) := by
      unfold unpackU
      simp only [hl2, true_and]
    rw [e0]
    have HSZ := hid (cells_size (suOf (takeU (sb s))))
    have HSO := hid (cells_one (suOf (takeU (sb s))))
    generalize suOf (takeU (sb s)) = S at *
    generalize (av (takeU (sb s))).toArray = L at *
    have hfin : ∀ (x : Int) (e : Ending) (w' : World), e = .returned (.tuple #[.agg S.cells, .int .i64 x]) → Below w.heap.size w w' → UE w (S, x) e w' := fun _ _ _ h1 h2 => ⟨h1, h2⟩
    have HF := hid hfin
    have HLN := hid hl
    have HSL := hid (sb_len s)
    clear e0 hfin hsl hl2
    by_cases h : SR S
    · rw [if_pos h]
      rw [decide_eq_true h] at HR
      generalize S.cells = C at *
      clear h
      go_enter Try.func15, Try.ntmps15
      go_wp2_with (first
        | (with_reducible refine wpl_bytes rfl _ _ _ rfl 5 Try.underlying9 Try.underlying69 Try.underlying5 s rfl ?_; intro g c k0 w1 HG HC HRW HB; rw [HLN.out])
        | (go_at_call 44; refine (HT.out _ _ (g + 1) _ (bytes_rd HRW) (by rw [← HLN.out]; exact HC.out) HRW.lt).mono ?_; rintro e w2 ⟨rfl, hb2⟩)
        | (go_at_call 43; refine (HO.out _).mono ?_; rintro e w3 ⟨rfl, hb3⟩)
        | (refine wpl_store_st rfl (.tmp 4) (.tmp 12) rfl (n := 17) HZS.out w3.heap.size #[.int .i64 0, .int .i64 0, .int .i64 0, .int .i64 0, .int .i64 0, .int .i64 0, .int .i64 0, .int .u64 0, .int .i64 0, .int .i64 0, .int .u64 0, .int .u64 0, .int .u64 0, .int .u64 0, .int .u64 0, .int .u64 0, .int .u64 0] C rfl rfl (Row.new _ _ _) ?_ (hid rfl) HSZ HSO; intro w4 HR4 HB4)
        | (refine wpList_load_row rfl 27 (.tmp 4) rfl w3.heap.size rfl 27 C (0, 0) _ hrow5 Try.underlying27 rfl (by rw [HSZ.out]; exact HZS.out) ?_)
        | (refine wpList_load_row rfl 27 (.tmp 4) rfl w3.heap.size rfl 27 C (0, 0) _ HR4.arr Try.underlying27 rfl (by rw [HSZ.out]; exact HZS.out) ?_)
        | (go_at_call 11; refine (HR.out _).mono ?_; rintro e w5 ⟨rfl, hb5⟩; have hrow5 := (HR4.below hb5 HR4.lt).arr; go_loud (
          have hrow0 : Row w5 w.heap.size 27 (Array.toList #[.int .i64 0, .int .i64 0, .int .i64 0, .int .i64 0, .int .i64 0, .int .i64 0, .int .i64 0, .int .u64 0, .int .i64 0, .int .i64 0, .int .u64 0, .int .u64 0, .int .u64 0, .int .u64 0, .int .u64 0, .int .u64 0, .int .u64 0]) := by
            have hg := HB.size
            have h1 := HRW.lt
            have h2 := hb2.size
            have h3 := hb3.size
            simp only [World.size_alloc] at hg
            exact ((((((Row.new w 27 #[.int .i64 0, .int .i64 0, .int .i64 0, .int .i64 0, .int .i64 0, .int .i64 0, .int .i64 0, .int .u64 0, .int .i64 0, .int .i64 0, .int .u64 0, .int .u64 0, .int .u64 0, .int .u64 0, .int .u64 0, .int .u64 0, .int .u64 0]).below HB (by simp)).below hb2 (by omega)).below hb3 (by omega)).alloc (.cells #[.int .i64 0, .int .i64 0, .int .i64 0, .int .i64 0, .int .i64 0, .int .i64 0, .int .i64 0, .int .u64 0, .int .i64 0, .int .i64 0, .int .u64 0, .int .u64 0, .int .u64 0, .int .u64 0, .int .u64 0, .int .u64 0, .int .u64 0] 27)).grown HB4 (by simp; omega)).below hb5 (by have h4 := HB4.size; simp only [World.size_alloc] at h4; omega)
          have hbe : Below w.heap.size w w5 := by
            have hg := HB.size
            have h1 := HRW.lt
            have h2 := hb2.size
            have h3 := hb3.size
            have h4 := HB4.size
            simp only [World.size_alloc] at hg h4
            exact ((((((Below.refl _ _).alloc (Nat.le_refl _) _).trans (HB.mono (by simp))).trans (hb2.mono (by omega))).trans (hb3.mono (by omega))).trans (((Below.refl _ _).alloc (by omega) _).trans (below_grown HB4 (by omega) (by simp; omega)))).trans (hb5.mono (by omega))))
        | (refine wpl_store_st rfl (.tmp 2) (.tmp 17) rfl (n := 17) HZS.out w.heap.size #[.int .i64 0, .int .i64 0, .int .i64 0, .int .i64 0, .int .i64 0, .int .i64 0, .int .i64 0, .int .u64 0, .int .i64 0, .int .i64 0, .int .u64 0, .int .u64 0, .int .u64 0, .int .u64 0, .int .u64 0, .int .u64 0, .int .u64 0] C rfl rfl hrow0 ?_ (hid rfl) HSZ HSO; intro w6 HR6 HB6))
      exact bodyPost_ret (v := .tuple #[.agg C, .int .i64 0]) (results_cell1 rfl _ _ w.heap.size 27 C (0, 0) _ (.int .i64 0) rfl rfl HR6 Try.underlying27 rfl (by rw [HSZ.out]; exact HZS.out)) rfl
        (HF.out _ _ _ rfl (hbe.trans (below_grown HB6 (Nat.le_refl _) hbe.size)))
    · rw [if_neg h]
      rw [decide_eq_false h] at HR
      generalize S.cells = C at *
      clear h
      go_enter Try.func15, Try.ntmps15
      go_wp2_with (first
        | (with_reducible refine wpl_bytes rfl _ _ _ rfl 5 Try.underlying9 Try.underlying69 Try.underlying5 s rfl ?_; intro g c k0 w1 HG HC HRW HB; rw [HLN.out])
        | (go_at_call 44; refine (HT.out _ _ (g + 1) _ (bytes_rd HRW) (by rw [← HLN.out]; exact HC.out) HRW.lt).mono ?_; rintro e w2 ⟨rfl, hb2⟩)
        | (go_at_call 43; refine (HO.out _).mono ?_; rintro e w3 ⟨rfl, hb3⟩)
        | (refine wpl_store_st rfl (.tmp 4) (.tmp 12) rfl (n := 17) HZS.out w3.heap.size #[.int .i64 0, .int .i64 0, .int .i64 0, .int .i64 0, .int .i64 0, .int .i64 0, .int .i64 0, .int .u64 0, .int .i64 0, .int .i64 0, .int .u64 0, .int .u64 0, .int .u64 0, .int .u64 0, .int .u64 0, .int .u64 0, .int .u64 0] C rfl rfl (Row.new _ _ _) ?_ (hid rfl) HSZ HSO; intro w4 HR4 HB4)
        | (refine wpList_load_row rfl 27 (.tmp 4) rfl w3.heap.size rfl 27 C (0, 0) _ hrow5 Try.underlying27 rfl (by rw [HSZ.out]; exact HZS.out) ?_)
        | (refine wpList_load_row rfl 27 (.tmp 4) rfl w3.heap.size rfl 27 C (0, 0) _ HR4.arr Try.underlying27 rfl (by rw [HSZ.out]; exact HZS.out) ?_)
        | (go_at_call 11; refine (HR.out _).mono ?_; rintro e w5 ⟨rfl, hb5⟩; have hrow5 := (HR4.below hb5 HR4.lt).arr; go_loud (
          have hrow0 : Row w5 w.heap.size 27 (Array.toList #[.int .i64 0, .int .i64 0, .int .i64 0, .int .i64 0, .int .i64 0, .int .i64 0, .int .i64 0, .int .u64 0, .int .i64 0, .int .i64 0, .int .u64 0, .int .u64 0, .int .u64 0, .int .u64 0, .int .u64 0, .int .u64 0, .int .u64 0]) := by
            have hg := HB.size
            have h1 := HRW.lt
            have h2 := hb2.size
            have h3 := hb3.size
            simp only [World.size_alloc] at hg
            exact ((((((Row.new w 27 #[.int .i64 0, .int .i64 0, .int .i64 0, .int .i64 0, .int .i64 0, .int .i64 0, .int .i64 0, .int .u64 0, .int .i64 0, .int .i64 0, .int .u64 0, .int .u64 0, .int .u64 0, .int .u64 0, .int .u64 0, .int .u64 0, .int .u64 0]).below HB (by simp)).below hb2 (by omega)).below hb3 (by omega)).alloc (.cells #[.int .i64 0, .int .i64 0, .int .i64 0, .int .i64 0, .int .i64 0, .int .i64 0, .int .i64 0, .int .u64 0, .int .i64 0, .int .i64 0, .int .u64 0, .int .u64 0, .int .u64 0, .int .u64 0, .int .u64 0, .int .u64 0, .int .u64 0] 27)).grown HB4 (by simp; omega)).below hb5 (by have h4 := HB4.size; simp only [World.size_alloc] at h4; omega)
          have hbe : Below w.heap.size w w5 := by
            have hg := HB.size
            have h1 := HRW.lt
            have h2 := hb2.size
            have h3 := hb3.size
            have h4 := HB4.size
            simp only [World.size_alloc] at hg h4
            exact ((((((Below.refl _ _).alloc (Nat.le_refl _) _).trans (HB.mono (by simp))).trans (hb2.mono (by omega))).trans (hb3.mono (by omega))).trans (((Below.refl _ _).alloc (by omega) _).trans (below_grown HB4 (by omega) (by simp; omega)))).trans (hb5.mono (by omega))))
        | (refine wpl_store_st rfl (.tmp 2) (.tmp 16) rfl (n := 17) HZS.out w.heap.size #[.int .i64 0, .int .i64 0, .int .i64 0, .int .i64 0, .int .i64 0, .int .i64 0, .int .i64 0, .int .u64 0, .int .i64 0, .int .i64 0, .int .u64 0, .int .u64 0, .int .u64 0, .int .u64 0, .int .u64 0, .int .u64 0, .int .u64 0] #[.int .i64 0, .int .i64 0, .int .i64 0, .int .i64 0, .int .i64 0, .int .i64 0, .int .i64 0, .int .u64 0, .int .i64 0, .int .i64 0, .int .u64 0, .int .u64 0, .int .u64 0, .int .u64 0, .int .u64 0, .int .u64 0, .int .u64 0] rfl rfl hrow0 ?_ (hid rfl) (hid rfl) (cells_one su0); intro w6 HR6 HB6))
      exact bodyPost_ret (v := .tuple #[.agg #[.int .i64 0, .int .i64 0, .int .i64 0, .int .i64 0, .int .i64 0, .int .i64 0, .int .i64 0, .int .u64 0, .int .i64 0, .int .i64 0, .int .u64 0, .int .u64 0, .int .u64 0, .int .u64 0, .int .u64 0, .int .u64 0, .int .u64 0], .int .i64 4]) (results_cell1 rfl _ _ w.heap.size 27 #[.int .i64 0, .int .i64 0, .int .i64 0, .int .i64 0, .int .i64 0, .int .i64 0, .int .i64 0, .int .u64 0, .int .i64 0, .int .i64 0, .int .u64 0, .int .u64 0, .int .u64 0, .int .u64 0, .int .u64 0, .int .u64 0, .int .u64 0] (0, 0) _ (.int .i64 4) rfl rfl HR6 Try.underlying27 rfl (by exact HZS.out)) rfl
        ⟨rfl, hbe.trans (below_grown HB6 (Nat.le_refl _) hbe.size)⟩
  · have e0 : unpackU (sb s) = (su0, 4) := by
      unfold unpackU
      rw [if_neg (by intro h; omega)]
    rw [e0]
    have h1 : (((s.size : Nat) : Int) != 136) = true := by simp; omega
    clear e0 hsl
    go_enter Try.func15, Try.ntmps15
    go_wp2_with fail
    exact bodyPost_ret (v := .tuple #[.agg #[.int .i64 0, .int .i64 0, .int .i64 0, .int .i64 0, .int .i64 0, .int .i64 0, .int .i64 0, .int .u64 0, .int .i64 0, .int .i64 0, .int .u64 0, .int .u64 0, .int .u64 0, .int .u64 0, .int .u64 0, .int .u64 0, .int .u64 0], .int .i64 4]) (results_cell1 rfl _ _ w.heap.size 27 #[.int .i64 0, .int .i64 0, .int .i64 0, .int .i64 0, .int .i64 0, .int .i64 0, .int .i64 0, .int .u64 0, .int .i64 0, .int .i64 0, .int .u64 0, .int .u64 0, .int .u64 0, .int .u64 0, .int .u64 0, .int .u64 0, .int .u64 0] (0, 0) _ (.int .i64 4) rfl rfl (heap_alloc_new _ _) Try.underlying27 rfl (by kernel_rfl)) rfl
      ⟨rfl, (Below.refl _ _).alloc (Nat.le_refl _) _⟩
end Go.Proofs.Ytogchfpecbmocaa
/-
  The walk of package super's Next.
-/
namespace Go.Proofs.Ytogchfpecbmocaa
open Go.RowKit
set_option maxRecDepth 10000

theorem chain_of (b : List UInt8) (hb : b.length = 136) (W : World) : Calls Try.prog 41 #[.int .u64 0, .string ⟨b.toArray⟩] W fun e w' => e = .returned (.int .u64 ((chainOf 0#64 b).toNat : Int)) ∧ Below W.heap.size W w' := by
  have h := chain_calls 0#64 ⟨b.toArray⟩ W (by rw [← sb_len, sb_mk]; omega)
  rw [sb_mk] at h
  exact h
theorem nextU_cells (s : Su) (h : SR s) (h2 : s.seq ≠ 72057594037927935) : (nextU s).cells.toList = (s.cells.toList.set 0 (.int .i64 (s.seq + 1))).set 16 (.int .u64 ((chainOf 0#64 s.bytes).toNat : Int)) := by
  unfold nextU
  rw [if_pos ⟨h, h2⟩]
  rfl
set_option maxHeartbeats 1000000 in
theorem snext_any (s : Su) (hf : s.fits) (w : World) : Calls Try.prog 13 #[s.val] w (VE w (nextU s).val) := by
  have HP : Hid (∀ W, Calls Try.prog 9 #[.agg s.cells] W (SN W (packU s))) := hid (fun W => spack_any s hf W)
  have HSZ : Hid (s.cells.size = 17) := hid rfl
  have HZS : Hid ((Try.prog.info? 27).map (·.size) = some 17) := hid (by kernel_rfl)
  have HSO : Hid (s.cells.all (·.oneCell') = true) := hid (by simp [Su.cells, Value.oneCell'])
  have HC0 : Hid (s.cells.toList[0]? = some (.int .i64 s.seq)) := hid rfl
  have HCH := hid (fun W => chain_of s.bytes (bytes_len s) W)
  show Calls Try.prog 13 #[.agg s.cells] w _
  have e0 : packU s = if SR s then (s.bytes, 0) else ([], 4) := rfl
  have hfin : ∀ (r : Su) (C : Array Value) (e : Ending) (w' : World), e = .returned (.agg C) → C = r.cells → Below w.heap.size w w' → VE w r.val e w' := fun r C e w' h1 h2 h3 => ⟨by rw [h1, h2]; rfl, h3⟩
  by_cases h : SR s
  · rw [e0, if_pos h] at HP
    by_cases h2 : s.seq = 72057594037927935
    · have en : nextU s = s := by unfold nextU; rw [if_neg (fun h => h.2 h2)]
      rw [en]
      rw [h2] at HC0
      have HF := hid (hfin s)
      clear e0 h en hfin HCH h2 hf
      generalize s.cells = C at *
      go_enter Try.func13, Try.ntmps13
      go_wp2_with (first
        | (refine wpList_load_row rfl 27 (.tmp 1) rfl w.heap.size rfl 27 C (0, 0) _ hrow1.arr Try.underlying27 rfl (by rw [HSZ.out]; exact HZS.out) ?_)
        | (refine wpList_load_row rfl 27 (.tmp 1) rfl w.heap.size rfl 27 C (0, 0) _ ((Row.new w 27 C).alloc _).arr Try.underlying27 rfl (by rw [HSZ.out]; exact HZS.out) ?_)
        | (go_at_call 9; refine (HP.out _).mono ?_; rintro e w1 ⟨rfl, hb1⟩; have hrow1 := ((Row.new w 27 C).alloc (.cells #[.int .i64 0, .int .i64 0, .int .i64 0, .int .i64 0, .int .i64 0, .int .i64 0, .int .i64 0, .int .u64 0, .int .i64 0, .int .i64 0, .int .u64 0, .int .u64 0, .int .u64 0, .int .u64 0, .int .u64 0, .int .u64 0, .int .u64 0] 27)).below hb1 (by simp; omega); have hc0 := (hrow1.cell 0).trans HC0.out; have hrow2 : Row w1 (w.heap.size + 1) 27 su0.cells.toList := Row.below (B := w.heap.size + 1 + 1) (alloc2_new _ _ _) (hb1.mono (by simp)) (by omega); have hbe := (((Below.refl w.heap.size w).alloc (Nat.le_refl _) _).alloc (by simp) _).trans (hb1.mono (by simp; omega)))
        | (refine wpl_store_st rfl (.tmp 2) (.tmp 17) rfl (n := 17) HZS.out (w.heap.size + 1) su0.cells C rfl rfl hrow2 ?_ (hid rfl) HSZ HSO; intro w6 HR6 HB6))
      exact bodyPost_ret (v := .agg C) (results_cell_row rfl _ _ (w.heap.size + 1) 27 C (0, 0) _ rfl HR6 Try.underlying27 rfl (by rw [HSZ.out]; exact HZS.out)) rfl
        (HF.out _ _ _ rfl rfl (hbe.trans (below_grown HB6 (by omega) hbe.size)))
    · have en := nextU_cells s h h2
      have HD : Hid ((nextU s).cells.toList = (s.cells.toList.set 0 (.int .i64 (s.seq + 1))).set 16 (.int .u64 ((chainOf 0#64 s.bytes).toNat : Int))) := hid en
      have HDS : Hid ((nextU s).cells.size = 17) := hid rfl
      have HDO : Hid ((nextU s).cells.all (·.oneCell') = true) := hid (by simp [Su.cells, Value.oneCell'])
      have HF := hid (hfin (nextU s))
      have hs1 : 1 ≤ s.seq := h.1.1
      have hs2 : s.seq < 72057594037927935 := by have := h.1.2; omega
      have hs3 : (s.seq == 72057594037927935) = false := by simp; omega
      generalize (chainOf 0#64 s.bytes).toNat = x at *
      generalize s.bytes = bs at *
      generalize (nextU s).cells = D at *
      generalize s.seq = seq at *
      clear e0 h en hfin hf h2
      generalize s.cells = C at *
      go_enter Try.func13, Try.ntmps13
      go_wp2_with (first
        | (refine wpList_load_row rfl 27 (.tmp 1) rfl w.heap.size rfl 27 D (0, 0) _ hrow5.arr Try.underlying27 rfl (by rw [HDS.out]; exact HZS.out) ?_)
        | (refine wpList_load_row rfl 27 (.tmp 1) rfl w.heap.size rfl 27 C (0, 0) _ ((Row.new w 27 C).alloc _).arr Try.underlying27 rfl (by rw [HSZ.out]; exact HZS.out) ?_)
        | (go_at_call 9; refine (HP.out _).mono ?_; rintro e w1 ⟨rfl, hb1⟩; have hrow1 := ((Row.new w 27 C).alloc (.cells #[.int .i64 0, .int .i64 0, .int .i64 0, .int .i64 0, .int .i64 0, .int .i64 0, .int .i64 0, .int .u64 0, .int .i64 0, .int .i64 0, .int .u64 0, .int .u64 0, .int .u64 0, .int .u64 0, .int .u64 0, .int .u64 0, .int .u64 0] 27)).below hb1 (by simp; omega); have hc0 := (hrow1.cell 0).trans HC0.out; have hrow2 : Row w1 (w.heap.size + 1) 27 su0.cells.toList := Row.below (B := w.heap.size + 1 + 1) (alloc2_new _ _ _) (hb1.mono (by simp)) (by omega); have hbe := (((Below.refl w.heap.size w).alloc (Nat.le_refl _) _).alloc (by simp) _).trans (hb1.mono (by simp; omega)))
        | (go_at_call 41; refine (HCH.out _).mono ?_; rintro e w3 ⟨rfl, hb3⟩; have hrow3 := HR2.below hb3 HR2.lt)
        | (refine wpl_store_c rfl 22 (.tmp 24) (.tmp 23) rfl w.heap.size 16 (.int .u64 (x : Int)) rfl rfl hrow3 sizeU64 ?_ (hid (by rw [List.length_set, Array.length_toList, HSZ.out]; omega)) (hid rfl); intro w4 HR4 HB4; have hrow5 : Row w4 w.heap.size 27 D.toList := (by rw [HD.out]; exact HR4))
        | (refine wpl_store_c rfl 3 (.tmp 21) (.tmp 20) rfl w.heap.size 0 (.int .i64 (seq + 1)) rfl rfl hrow1 sizeInt ?_ (hid (by rw [Array.length_toList, HSZ.out]; omega)) (hid rfl); intro w2 HR2 HB2)
        | (refine wpl_store_st rfl (.tmp 2) (.tmp 25) rfl (n := 17) HZS.out (w.heap.size + 1) su0.cells D rfl rfl (((hrow2.grown HB2 (by simp)).below hb3 (by have := hrow2.lt; have := HB2.size; omega)).grown HB4 (by simp)) ?_ (hid rfl) HDS HDO; intro w6 HR6 HB6))
      exact bodyPost_ret (v := .agg D) (results_cell_row rfl _ _ (w.heap.size + 1) 27 D (0, 0) _ rfl HR6 Try.underlying27 rfl (by rw [HDS.out]; exact HZS.out)) rfl
        (HF.out _ _ _ rfl rfl (by
          have h1 := hbe.size
          have h2 := HB2.size
          have h3 := hb3.size
          have h4 := HB4.size
          exact (((hbe.trans (below_grown HB2 (Nat.le_refl _) h1)).trans (hb3.mono (by omega))).trans (below_grown HB4 (Nat.le_refl _) (by omega))).trans (below_grown HB6 (by omega) (by omega))))
  · rw [e0, if_neg h] at HP
    have en : nextU s = s := by unfold nextU; rw [if_neg (fun h' => h h'.1)]
    rw [en]
    have HF := hid (hfin s)
    clear e0 h en hfin HCH hf
    generalize s.cells = C at *
    go_enter Try.func13, Try.ntmps13
    go_wp2_with (first
        | (refine wpList_load_row rfl 27 (.tmp 1) rfl w.heap.size rfl 27 C (0, 0) _ hrow1.arr Try.underlying27 rfl (by rw [HSZ.out]; exact HZS.out) ?_)
        | (refine wpList_load_row rfl 27 (.tmp 1) rfl w.heap.size rfl 27 C (0, 0) _ ((Row.new w 27 C).alloc _).arr Try.underlying27 rfl (by rw [HSZ.out]; exact HZS.out) ?_)
        | (go_at_call 9; refine (HP.out _).mono ?_; rintro e w1 ⟨rfl, hb1⟩; have hrow1 := ((Row.new w 27 C).alloc (.cells #[.int .i64 0, .int .i64 0, .int .i64 0, .int .i64 0, .int .i64 0, .int .i64 0, .int .i64 0, .int .u64 0, .int .i64 0, .int .i64 0, .int .u64 0, .int .u64 0, .int .u64 0, .int .u64 0, .int .u64 0, .int .u64 0, .int .u64 0] 27)).below hb1 (by simp; omega); have hc0 := (hrow1.cell 0).trans HC0.out; have hrow2 : Row w1 (w.heap.size + 1) 27 su0.cells.toList := Row.below (B := w.heap.size + 1 + 1) (alloc2_new _ _ _) (hb1.mono (by simp)) (by omega); have hbe := (((Below.refl w.heap.size w).alloc (Nat.le_refl _) _).alloc (by simp) _).trans (hb1.mono (by simp; omega)))
        | (refine wpl_store_st rfl (.tmp 2) (.tmp 17) rfl (n := 17) HZS.out (w.heap.size + 1) su0.cells C rfl rfl hrow2 ?_ (hid rfl) HSZ HSO; intro w6 HR6 HB6))
    exact bodyPost_ret (v := .agg C) (results_cell_row rfl _ _ (w.heap.size + 1) 27 C (0, 0) _ rfl HR6 Try.underlying27 rfl (by rw [HSZ.out]; exact HZS.out)) rfl
        (HF.out _ _ _ rfl rfl (hbe.trans (below_grown HB6 (by omega) hbe.size)))
end Go.Proofs.Ytogchfpecbmocaa
