/-
  The walk of package slot's packStub.
-/
import Derived.Test.YtneacphibklbgaaDoorM14
import Derived.Test.YtneacphibklbgaaDoorM12
import Derived.Test.YtneacphibklbgaaDoorM03
import Derived.Test.YtneacphibklbgaaDoorM05
import Derived.Test.YtneacphibklbgaaDoorM11
namespace Go.Proofs.YtneacphibklbgaaDoor
open Go.RowKit
set_option maxRecDepth 10000

theorem nb_take (l : List Nat) (k : Nat) (h : k < l.length) : nb (l.take (k + 1)) = nb (l.take k) ++ le l[k] 8 := by
  rw [List.take_succ_eq_append_getElem h, nb_app]
  simp [nb]
theorem nbt_len (l : List Nat) (k : Nat) (h : k ≤ l.length) : (nb (l.take k)).length = 8 * k := by rw [nb_len, List.length_take, Nat.min_eq_left h]
/-- Put of eight bytes -/
theorem put_eight (A : Option Addr) (bs : List UInt8) (m c n B : Nat) (W : World) (hr : Rd W B A (bvs bs)) (hm : m = bs.length) (hn : U64 n) (hB : B ≤ W.heap.size) (hl : m ≤ 140737488351232) :
    Calls Tryd.prog 94 #[.slice A m c, .int .u64 (n : Int), .int .i64 8] W
    fun e w' => ∃ A c, e = .returned (.tuple #[.slice A (m + 8) c, .int .i64 0]) ∧ w'.ownsRow W.heap.size 5 1 (.slice A (m + 8) c) (m + 8) (bvs (bs ++ le n 8)) ∧ Below W.heap.size W w' := by
  subst hm
  have h := put_any A bs bs.length c n B 8 W hr rfl hB hl
  have e : putS bs n 8 = (bs ++ le n 8, 0) := by
    unfold putS
    rw [if_pos ⟨by omega, by omega, Nat.div_eq_of_lt (by simpa using hn)⟩]
    rfl
  rw [e] at h
  exact h.mono fun e w' hh => BE.len hh (by simp [le_len])
set_option maxHeartbeats 1000000 in
theorem spackT_any (s : St) (hf : s.fits) (w : World) : Calls Tryd.prog 92 #[s.val] w (SN w (packT s)) := by
  have HR : Hid (∀ W, Calls Tryd.prog 87 #[.agg s.cells] W (VE W (.bool (decide (SRt s))))) := hid (fun W => sright_any s W)
  have HNm : Hid (∀ W, Calls Tryd.prog 101 #[.agg s.cells] W (VE W (.agg (av s.nums).toArray))) := hid (fun W => snumbers_any s W)
  have HL := hid (snums_len s)
  have H64 : Hid (∀ k (hk : k < s.nums.length), U64 s.nums[k]) := hid (fun k hk => snums_lt s hf _ (List.getElem_mem hk))
  have HSZ : Hid (s.cells.size = 5) := hid rfl
  have e0 : packT s = if SRt s then (nb s.nums, 0) else ([], 4) := rfl
  rw [e0]
  show Calls Tryd.prog 92 #[.agg s.cells] w _
  generalize s.cells = C at *
  generalize s.nums = l at *
  by_cases h : SRt s
  · rw [decide_eq_true h] at HR
    rw [if_pos h]
    clear e0 h hf
    go_enter Tryd.func92, Tryd.ntmps92
    go_wp2_with (first
      | (refine wpList_load_row rfl 42 (.tmp 1) rfl w.heap.size rfl 42 C (0, 0) _ hrow1 Tryd.underlying42 rfl (by rw [HSZ.out]; kernel_rfl) ?_)
      | (refine wpList_load_row rfl 42 (.tmp 1) rfl w.heap.size rfl 42 C (0, 0) _ (heap_alloc_new _ _) Tryd.underlying42 rfl (by rw [HSZ.out]; kernel_rfl) ?_)
      | (go_at_call 87; refine (HR.out _).mono ?_; rintro e w1 ⟨rfl, hb1⟩; have hrow1 : w1.heap[w.heap.size]? = some (.cells C 42 (0, 0)) := (hb1.block _ (by simp)).trans (heap_alloc_new _ _))
      | (go_at_call 101; refine (HNm.out _).mono ?_; rintro e w2 ⟨rfl, hb2⟩))
    have hbe : Below w.heap.size w w2 := (((Below.refl _ _).alloc (Nat.le_refl _) _).trans (hb1.mono (by simp))).trans (hb2.mono (by have := hb1.size; simp at this; omega))
    have HB0 := hid hbe
    clear hb1 hb2 hrow1 hbe
    go_loopw [4, 12] (fun b i wr => ∃ k : Nat, k ≤ 5 ∧ i = .int .i64 k ∧ (∃ A c, b = .slice A (8 * k) c ∧ wr.ownsRow w.heap.size 5 1 (.slice A (8 * k) c) (8 * k) (bvs (nb (l.take k)))) ∧ Below w.heap.size w wr) (fun _ i _ => 5 - (intOf i).toNat)
    case atStart => exact ⟨0, by omega, rfl, ⟨none, 0, rfl, World.ownsRow_nil _ _ _ _⟩, HB0.out⟩
    case round =>
      obtain ⟨k, hk, rfl, ⟨A, c1, rfl, hown⟩, hbe⟩ := hrel
      have HBe := hid hbe
      have hsz := hbe.size
      obtain ⟨A', c', hv, -, -, hrd⟩ := own_shape hown
      cases hv
      by_cases hlt : k < 5
      · have hkl : k < l.length := by rw [HL.out]; exact hlt
        have hix := fun W => run_index_arr (P := Tryd.prog) W 132 26 5 (av l).toArray .i64 k _ .u64 Tryd.underlying132 Tryd.underlying26 (by kernel_rfl) hlt (by simpa using av_get l k hkl)
        have HT := hid (nb_take l k hkl)
        have hlen : 8 * k = (nb (l.take k)).length := by rw [nbt_len _ _ (by omega)]
        have HP := hid (put_eight A (nb (l.take k)) (8 * k) c1 l[k] wr.heap.size wr hrd hlen (H64.out k hkl) (Nat.le_refl _) (by omega))
        rw [← HT.out] at HP
        generalize l[k] = x at hix HP
        clear hown hbe hrd hlen HT
        go_wp2_with (go_at_call 94; refine HP.out.mono ?_; rintro e w2 ⟨A2, c2, rfl, hown2, hb2⟩)
        exact ⟨⟨k + 1, by omega, by go_num, ⟨A2, c2, rfl, own_base hown2 hsz⟩, HBe.out.trans (hb2.mono hsz)⟩, by simp [intOf]; omega⟩
      · obtain rfl : k = 5 := by omega
        have HT : Hid (l.take 5 = l) := hid (List.take_of_length_le (by rw [HL.out]; exact Nat.le_refl _))
        rw [HT.out] at hrd
        have HLb : Hid (8 * 5 = (nb l).length) := hid (by rw [nb_len, HL.out])
        clear hown
        go_wp2_with (with_reducible refine wpl_str rfl _ 96 9 rfl 5 Tryd.underlying96 Tryd.underlying5 Tryd.underlying9 A (8 * 5) c1 rfl wr.heap.size (nb l) ?_ (hid hrd) (hid HLb.out))
        go_ret2
        exact ⟨rfl, HBe.out⟩
  · rw [decide_eq_false h] at HR
    rw [if_neg h]
    clear e0 h hf
    go_enter Tryd.func92, Tryd.ntmps92
    go_wp2_with (first
      | (refine wpList_load_row rfl 42 (.tmp 1) rfl w.heap.size rfl 42 C (0, 0) _ (heap_alloc_new _ _) Tryd.underlying42 rfl (by rw [HSZ.out]; kernel_rfl) ?_)
      | (go_at_call 87; refine (HR.out _).mono ?_; rintro e w1 ⟨rfl, hb1⟩))
    go_ret2
    exact ⟨rfl, ((Below.refl _ _).alloc (Nat.le_refl _) _).trans (hb1.mono (by simp))⟩
end Go.Proofs.YtneacphibklbgaaDoor
/-
  The walk of package slot's unpackStub.
-/
namespace Go.Proofs.YtneacphibklbgaaDoor
open Go.RowKit
set_option maxRecDepth 10000

theorem name_wpS {P : Program} {c : Code} {Q : Exit → Act → World → Prop} {a : Act} {W : World} (h : ∀ w3, w3 = W → Code.wp P c Q a w3) : Code.wp P c Q a W := h W rfl
/-- a stub and an error's number -/
def TEs (w : World) (r : St × Int) (e : Ending) (w' : World) : Prop := e = .returned (.tuple #[r.1.val, .int .i64 r.2]) ∧ Below w.heap.size w w'
/-- the numbers of the first k places, noughts behind them -/
def tkv (s : List UInt8) (k : Nat) : List Nat := (List.range k).map (tn s) ++ List.replicate (5 - k) 0
theorem tkv_len (s : List UInt8) (k : Nat) (h : k ≤ 5) : (tkv s k).length = 5 := by simp [tkv]; omega
theorem tkv_end (s : List UInt8) : tkv s 5 = takeT s := by simp [tkv, takeT]
theorem tkv_zero (s : List UInt8) : tkv s 0 = List.replicate 5 0 := by simp [tkv]
theorem tkv_set (s : List UInt8) (k : Nat) (h : k < 5) : (tkv s k).set k (tn s k) = tkv s (k + 1) := by
  have h1 : ((List.range k).map (tn s)).length = k := by simp
  unfold tkv
  rw [List.set_append_right _ _ (by rw [h1]; omega), h1, Nat.sub_self, show 5 - k = (5 - (k + 1)) + 1 by omega, List.replicate_succ, List.set_cons_zero, List.range_succ, List.map_append, List.append_assoc]
  rfl
theorem take_av (A : Option Addr) (bs : List UInt8) (n c k B : Nat) (W : World) (hr : Rd W B A (bvs bs)) (hn : n = bs.length) (hl : bs.length = 40) (hc : n ≤ c) (hk : k < 5) (hB : B ≤ W.heap.size) :
    Calls Tryd.prog 85 #[.slice A n c, .int .i64 ((8 * k : Nat) : Int), .int .i64 8] W
    fun e w' => e = .returned (.tuple #[.int .u64 ((tn bs k : Nat) : Int), .int .i64 0]) ∧ Below W.heap.size W w' := by
  have h := take_any A bs n c B ((8 * k : Nat) : Int) 8 W hr hn (by omega) hc hB
  have e : takeS bs ((8 * k : Nat) : Int) 8 = (tn bs k, 0) := by
    unfold takeS
    rw [if_neg (by omega), if_neg (by omega)]
    rfl
  rw [e] at h
  exact h
set_option maxHeartbeats 1000000 in
theorem sunpackT_any (s : ByteArray) (w : World) : Calls Tryd.prog 71 #[.string s] w (TEs w (unpackT (sb s))) := by
  have hsl := sb_len s
  have HZS := hid stsize
  by_cases hl : s.size = 40
  · have hl2 : (sb s).length = 40 := by omega
    have HO : Hid (∀ W, Calls Tryd.prog 86 #[.agg (av (tkv (sb s) 5)).toArray] W (VE W (.agg (stOf (takeT (sb s))).cells))) := hid (fun W => by rw [tkv_end]; exact sstubOf_any _ (takeT_len _) W)
    have HR : Hid (∀ W, Calls Tryd.prog 87 #[.agg (stOf (takeT (sb s))).cells] W (VE W (.bool (decide (SRt (stOf (takeT (sb s)))))))) := hid (fun W => sright_any _ W)
    have e0 : unpackT (sb s) = if SRt (stOf (takeT (sb s))) then (stOf (takeT (sb s)), 0) else (st0, 4) := by
      unfold unpackT
      simp only [hl2, true_and]
    rw [e0]
    have HSZ : Hid ((stOf (takeT (sb s))).cells.size = 5) := hid rfl
    have HSO := hid (stcells_one (stOf (takeT (sb s))))
    have HTK : Hid (∀ (g c k : Nat) (W : World), FRow W g 5 (bvs (sb s) ++ List.replicate k (.int .u8 0)) → Hid (s.size ≤ c) → ∀ j, j < 5 → Calls Tryd.prog 85 #[.slice (some ⟨g, 0, none⟩) s.size c, .int .i64 ((8 * j : Nat) : Int), .int .i64 8] W fun e w' => e = .returned (.tuple #[.int .u64 ((tn (sb s) j : Nat) : Int), .int .i64 0]) ∧ Below W.heap.size W w') :=
      hid fun g c k W h1 h2 j hj => take_av _ (sb s) s.size c j (g + 1) W (bytes_rd h1) hsl.symm hl2 h2.out hj h1.lt
    generalize stOf (takeT (sb s)) = S at *
    have hfin : ∀ (x : Int) (e : Ending) (w' : World), e = .returned (.tuple #[.agg S.cells, .int .i64 x]) → Below w.heap.size w w' → TEs w (S, x) e w' := fun _ _ _ h1 h2 => ⟨h1, h2⟩
    have HF := hid hfin
    obtain ⟨r, hr⟩ : ∃ r : St × Int, r = if SRt S then (S, 0) else (st0, 4) := ⟨_, rfl⟩
    rw [← hr]
    have HRR := hid hr
    clear hr
    have h40 : (((s.size : Nat) : Int) != 40) = false := by simp; omega
    clear e0 hfin hsl hl hl2
    go_enter Tryd.func71, Tryd.ntmps71
    go_wp2_with fail
    refine name_wpS (fun w1 hw1 => ?_)
    have hr0 : Row w1 w.heap.size 42 (#[.int .i64 0, .int .i64 0, .int .i64 0, .int .u64 0, .int .u64 0] : Array Value).toList := by rw [hw1]; exact (Row.new w 42 _).alloc _
    have hr1 : Row w1 (w.heap.size + 1) 132 (av (tkv (sb s) 0)) := by
      rw [tkv_zero, hw1]
      exact alloc2_new _ _ _
    have hbe : Below w.heap.size w w1 := by rw [hw1]; exact ((Below.refl _ _).alloc (Nat.le_refl _) _).alloc (by simp) _
    clear hw1
    have HE := hid hbe
    have H0 := hid hr0
    have H1 := hid hr1
    clear hbe hr0 hr1 h40
    go_loopw [11] (fun i wr => ∃ k : Nat, k ≤ 5 ∧ i = .int .i64 k ∧ Row wr w.heap.size 42 (#[.int .i64 0, .int .i64 0, .int .i64 0, .int .u64 0, .int .u64 0] : Array Value).toList ∧ Row wr (w.heap.size + 1) 132 (av (tkv (sb s) k)) ∧ Below w.heap.size w wr) (fun i _ => 5 - (intOf i).toNat)
    case atStart => exact ⟨0, by omega, rfl, H0.out, H1.out, HE.out⟩
    case round =>
      obtain ⟨k, hk, rfl, h0, h1, hbe⟩ := hrel
      have HE := hid hbe
      have H0 := hid h0
      have H1 := hid h1
      have hsz := h1.lt
      by_cases hlt : k < 5
      · have HK : Hid (∀ W : World, Below wr.heap.size wr W → W.cell? ⟨w.heap.size + 1, k, none⟩ = some (.int .u64 (((tkv (sb s) k)[k]'(by rw [tkv_len _ _ hk]; exact hlt) : Nat) : Int)) ∧ W.frozen? ⟨w.heap.size + 1, k, none⟩ = false ∧
            Row (W.setCell ⟨w.heap.size + 1, k, none⟩ (.int .u64 ((tn (sb s) k : Nat) : Int))) (w.heap.size + 1) 132 (av (tkv (sb s) (k + 1)))) := hid fun W hb => by
          have h1 := H1.out.below hb (by omega)
          refine ⟨?_, h1.frozen _, ?_⟩
          · rw [h1.cell]
            exact av_get _ k (by rw [tkv_len _ _ hk]; exact hlt)
          · have := h1.set_ k (.int .u64 ((tn (sb s) k : Nat) : Int))
            rw [av_set, tkv_set _ _ hlt] at this
            exact this
        have HP : Hid (∀ (g c k1 : Nat) (W : World), FRow W g 5 (bvs (sb s) ++ List.replicate k1 (.int .u8 0)) → Hid (s.size ≤ c) → Calls Tryd.prog 85 #[.slice (some ⟨g, 0, none⟩) s.size c, .int .i64 ((k : Int) * 8), .int .i64 8] W fun e w' => e = .returned (.tuple #[.int .u64 ((tn (sb s) k : Nat) : Int), .int .i64 0]) ∧ Below W.heap.size W w') := hid fun g c k1 W h1 h2 => by
          have := HTK.out g c k1 W h1 h2 k hlt
          rw [show ((8 * k : Nat) : Int) = (k : Int) * 8 by omega] at this
          exact this
        generalize (tkv (sb s) k)[k]'(by rw [tkv_len _ _ hk]; exact hlt) = y at HK
        generalize tn (sb s) k = x at HP HK
        clear hbe h0 h1
        go_wp2_with (first
          | (with_reducible refine wpl_bytes rfl _ _ _ rfl 5 Tryd.underlying9 Tryd.underlying96 Tryd.underlying5 s rfl ?_; intro g c k0 w2 HG HC HRW HB)
          | (go_at_call 85; refine (HP.out g c k0 w2 HRW HC).mono ?_; rintro e w3 ⟨rfl, hb3⟩; have hb4 := HB.trans (hb3.mono HB.size); obtain ⟨q1, q2, q4⟩ := HK.out w3 hb4; have Q4 := hid q4; clear q4))
        have hsz2 := hb4.size
        exact ⟨⟨k + 1, by omega, by go_num, (H0.out.below hb4 (by omega)).far (by simp) _, Q4.out, (HE.out.trans (hb4.mono (by omega))).setCell (by simp) _⟩, by simp [intOf]; omega⟩
      · obtain rfl : k = 5 := by omega
        have H0 := hid h0
        have H1 := hid h1
        have HT : Hid ((av (tkv (sb s) 5)).toArray.size = 5) := hid (by simp [av, tkv_len])
        generalize (av (tkv (sb s) 5)) = L at *
        clear h0 h1 hbe HTK
        by_cases h : SRt S
        · have hr := HRR.out
          rw [if_pos h] at hr
          subst hr
          rw [decide_eq_true h] at HR
          generalize S.cells = C at *
          clear h HRR
          go_wp2_with (first
            | (refine wpList_load_row rfl 132 (.tmp 4) rfl (w.heap.size + 1) rfl 132 L.toArray (0, 0) _ H1.out Tryd.underlying132 rfl (by rw [HT.out]; kernel_rfl) ?_)
            | (go_at_call 86; refine (HO.out _).mono ?_; rintro e w3 ⟨rfl, hb3⟩; have hrow3 := H0.out.below hb3 (by omega); have hbe3 := HE.out.trans (hb3.mono HE.out.size))
            | (refine wpl_store_st rfl (.tmp 6) (.tmp 26) rfl (n := 5) HZS.out w3.heap.size #[.int .i64 0, .int .i64 0, .int .i64 0, .int .u64 0, .int .u64 0] C rfl rfl (Row.new _ _ _) ?_ (hid rfl) HSZ HSO; intro w4 HR4 HB4; have hrow4 := (hrow3.alloc (.cells #[.int .i64 0, .int .i64 0, .int .i64 0, .int .u64 0, .int .u64 0] 42)).grown HB4 (by have := hrow3.lt; intro e; have := Option.some.inj e; omega); have hbe4 := (hbe3.alloc hbe3.size (.cells #[.int .i64 0, .int .i64 0, .int .i64 0, .int .u64 0, .int .u64 0] 42)).trans (below_grown HB4 hbe3.size (by have := hbe3.size; simp; omega)))
            | (refine wpList_load_row rfl 42 (.tmp 6) rfl w3.heap.size rfl 42 C (0, 0) _ hrow6.arr Tryd.underlying42 rfl (by rw [HSZ.out]; exact HZS.out) ?_)
            | (refine wpList_load_row rfl 42 (.tmp 6) rfl w3.heap.size rfl 42 C (0, 0) _ HR4.arr Tryd.underlying42 rfl (by rw [HSZ.out]; exact HZS.out) ?_)
            | (go_at_call 87; refine (HR.out _).mono ?_; rintro e w5 ⟨rfl, hb5⟩; have hrow6 := HR4.below hb5 HR4.lt; have hrow5 := hrow4.below hb5 hrow4.lt; have hbe5 := hbe4.trans (hb5.mono hbe4.size))
            | (refine wpl_store_st rfl (.tmp 2) (.tmp 31) rfl (n := 5) HZS.out w.heap.size #[.int .i64 0, .int .i64 0, .int .i64 0, .int .u64 0, .int .u64 0] C rfl rfl hrow5 ?_ (hid rfl) HSZ HSO; intro w7 HR7 HB7))
          exact bodyPost_ret (v := .tuple #[.agg C, .int .i64 0]) (results_cell1 rfl _ _ w.heap.size 42 C (0, 0) _ (.int .i64 0) rfl rfl HR7 Tryd.underlying42 rfl (by rw [HSZ.out]; exact HZS.out)) rfl
            (HF.out _ _ _ rfl (hbe5.trans (below_grown HB7 (Nat.le_refl _) hbe5.size)))
        · have hr := HRR.out
          rw [if_neg h] at hr
          subst hr
          rw [decide_eq_false h] at HR
          generalize S.cells = C at *
          clear h HRR
          go_wp2_with (first
            | (refine wpList_load_row rfl 132 (.tmp 4) rfl (w.heap.size + 1) rfl 132 L.toArray (0, 0) _ H1.out Tryd.underlying132 rfl (by rw [HT.out]; kernel_rfl) ?_)
            | (go_at_call 86; refine (HO.out _).mono ?_; rintro e w3 ⟨rfl, hb3⟩; have hrow3 := H0.out.below hb3 (by omega); have hbe3 := HE.out.trans (hb3.mono HE.out.size))
            | (refine wpl_store_st rfl (.tmp 6) (.tmp 26) rfl (n := 5) HZS.out w3.heap.size #[.int .i64 0, .int .i64 0, .int .i64 0, .int .u64 0, .int .u64 0] C rfl rfl (Row.new _ _ _) ?_ (hid rfl) HSZ HSO; intro w4 HR4 HB4; have hrow4 := (hrow3.alloc (.cells #[.int .i64 0, .int .i64 0, .int .i64 0, .int .u64 0, .int .u64 0] 42)).grown HB4 (by have := hrow3.lt; intro e; have := Option.some.inj e; omega); have hbe4 := (hbe3.alloc hbe3.size (.cells #[.int .i64 0, .int .i64 0, .int .i64 0, .int .u64 0, .int .u64 0] 42)).trans (below_grown HB4 hbe3.size (by have := hbe3.size; simp; omega)))
            | (refine wpList_load_row rfl 42 (.tmp 6) rfl w3.heap.size rfl 42 C (0, 0) _ hrow6.arr Tryd.underlying42 rfl (by rw [HSZ.out]; exact HZS.out) ?_)
            | (refine wpList_load_row rfl 42 (.tmp 6) rfl w3.heap.size rfl 42 C (0, 0) _ HR4.arr Tryd.underlying42 rfl (by rw [HSZ.out]; exact HZS.out) ?_)
            | (go_at_call 87; refine (HR.out _).mono ?_; rintro e w5 ⟨rfl, hb5⟩; have hrow6 := HR4.below hb5 HR4.lt; have hrow5 := hrow4.below hb5 hrow4.lt; have hbe5 := hbe4.trans (hb5.mono hbe4.size))
            | (refine wpl_store_st rfl (.tmp 2) (.tmp 30) rfl (n := 5) HZS.out w.heap.size #[.int .i64 0, .int .i64 0, .int .i64 0, .int .u64 0, .int .u64 0] #[.int .i64 0, .int .i64 0, .int .i64 0, .int .u64 0, .int .u64 0] rfl rfl hrow5 ?_ (hid rfl) (hid rfl) (stcells_one st0); intro w7 HR7 HB7))
          exact bodyPost_ret (v := .tuple #[.agg #[.int .i64 0, .int .i64 0, .int .i64 0, .int .u64 0, .int .u64 0], .int .i64 4]) (results_cell1 rfl _ _ w.heap.size 42 #[.int .i64 0, .int .i64 0, .int .i64 0, .int .u64 0, .int .u64 0] (0, 0) _ (.int .i64 4) rfl rfl HR7 Tryd.underlying42 rfl (by exact HZS.out)) rfl
            (⟨rfl, (hbe5.trans (below_grown HB7 (Nat.le_refl _) hbe5.size))⟩)
  · have e0 : unpackT (sb s) = (st0, 4) := by
      unfold unpackT
      rw [if_neg (by intro h; omega)]
    rw [e0]
    have h1 : (((s.size : Nat) : Int) != 40) = true := by simp; omega
    clear e0 hsl
    go_enter Tryd.func71, Tryd.ntmps71
    go_wp2_with fail
    exact bodyPost_ret (v := .tuple #[.agg #[.int .i64 0, .int .i64 0, .int .i64 0, .int .u64 0, .int .u64 0], .int .i64 4]) (results_cell1 rfl _ _ w.heap.size 42 #[.int .i64 0, .int .i64 0, .int .i64 0, .int .u64 0, .int .u64 0] (0, 0) _ (.int .i64 4) rfl rfl (heap_alloc_new _ _) Tryd.underlying42 rfl (by kernel_rfl)) rfl
      ⟨rfl, (Below.refl _ _).alloc (Nat.le_refl _) _⟩
end Go.Proofs.YtneacphibklbgaaDoor
/-
  The walks of Prepare, Header, Void, package slot's and the document's.
-/
namespace Go.Proofs.YtneacphibklbgaaDoor
open Go.RowKit
set_option maxRecDepth 10000

theorem sprep_no (C : Array Value) (old : ByteArray) (T : List UInt8) (f : Int) (w : World) (hf : Fd w) (HSZ : Hid (C.size = 9)) (h0 : (f != 0) = true)
    (HP : Hid (∀ W : World, Fd W → Calls Tryd.prog 58 #[.agg C] W fun e w' => e = .returned (.tuple #[.string ⟨T.toArray⟩, .int .i64 f]) ∧ Below W.heap.size W w')) :
    Calls Tryd.prog 77 #[.string old, .agg C] w (SN w ([], f)) := by
  have HZS := hid esize
  have HFd := hid hf
  clear hf
  go_enter Tryd.func77, Tryd.ntmps77
  go_wp2_with (first
    | (refine wpList_load_row rfl 28 (.tmp 3) rfl w.heap.size rfl 28 C (0, 0) _ (heap_alloc_new _ _) Tryd.underlying28 rfl (by rw [HSZ.out]; exact HZS.out) ?_)
    | (go_at_call 58; refine (HP.out _ (HFd.out.below ((Below.refl w.heap.size w).alloc (Nat.le_refl _) _) HFd.out.1)).mono ?_; rintro e w1 ⟨rfl, hb1⟩))
  go_ret2
  exact ⟨rfl, ((Below.refl _ _).alloc (Nat.le_refl _) _).trans (hb1.mono (by simp))⟩
theorem sprep_yes (C : Array Value) (old : ByteArray) (T : List UInt8) (r : List UInt8 × Int) (w : World) (hf : Fd w) (HSZ : Hid (C.size = 9))
    (HP : Hid (∀ W : World, Fd W → Calls Tryd.prog 58 #[.agg C] W fun e w' => e = .returned (.tuple #[.string ⟨T.toArray⟩, .int .i64 0]) ∧ Below W.heap.size W w'))
    (HS : Hid (∀ W : World, Calls Tryd.prog 66 #[.string old, .string ⟨T.toArray⟩] W (SN W r))) :
    Calls Tryd.prog 77 #[.string old, .agg C] w (SN w r) := by
  have HZS := hid esize
  have HFd := hid hf
  clear hf
  go_enter Tryd.func77, Tryd.ntmps77
  go_wp2_with (first
    | (refine wpList_load_row rfl 28 (.tmp 3) rfl w.heap.size rfl 28 C (0, 0) _ (heap_alloc_new _ _) Tryd.underlying28 rfl (by rw [HSZ.out]; exact HZS.out) ?_)
    | (go_at_call 58; refine (HP.out _ (HFd.out.below ((Below.refl w.heap.size w).alloc (Nat.le_refl _) _) HFd.out.1)).mono ?_; rintro e w1 ⟨rfl, hb1⟩)
    | (go_at_call 66; refine (HS.out _).mono ?_; rintro e w2 ⟨rfl, hb2⟩))
  go_ret2
  exact ⟨rfl, (((Below.refl _ _).alloc (Nat.le_refl _) _).trans (hb1.mono (by simp))).trans (hb2.mono (by have := hb1.size; simp at this; omega))⟩
theorem shdr_no (C : Array Value) (old : ByteArray) (T : List UInt8)  (w : World) (HSZ : Hid (C.size = 5)) 
    (HP : Hid (∀ W : World, Calls Tryd.prog 92 #[.agg C] W fun e w' => e = .returned (.tuple #[.string ⟨T.toArray⟩, .int .i64 4]) ∧ Below W.heap.size W w')) :
    Calls Tryd.prog 79 #[.string old, .agg C] w (SN w ([], 4)) := by
  have HZS := hid stsize
  go_enter Tryd.func79, Tryd.ntmps79
  go_wp2_with (first
    | (refine wpList_load_row rfl 42 (.tmp 3) rfl w.heap.size rfl 42 C (0, 0) _ (heap_alloc_new _ _) Tryd.underlying42 rfl (by rw [HSZ.out]; exact HZS.out) ?_)
    | (go_at_call 92; refine (HP.out _).mono ?_; rintro e w1 ⟨rfl, hb1⟩))
  go_ret2
  exact ⟨rfl, ((Below.refl _ _).alloc (Nat.le_refl _) _).trans (hb1.mono (by simp))⟩
theorem shdr_yes (C : Array Value) (old : ByteArray) (T : List UInt8) (r : List UInt8 × Int) (w : World) (HSZ : Hid (C.size = 5))
    (HP : Hid (∀ W : World, Calls Tryd.prog 92 #[.agg C] W fun e w' => e = .returned (.tuple #[.string ⟨T.toArray⟩, .int .i64 0]) ∧ Below W.heap.size W w'))
    (HS : Hid (∀ W : World, Calls Tryd.prog 66 #[.string old, .string ⟨T.toArray⟩] W (SN W r))) :
    Calls Tryd.prog 79 #[.string old, .agg C] w (SN w r) := by
  have HZS := hid stsize
  go_enter Tryd.func79, Tryd.ntmps79
  go_wp2_with (first
    | (refine wpList_load_row rfl 42 (.tmp 3) rfl w.heap.size rfl 42 C (0, 0) _ (heap_alloc_new _ _) Tryd.underlying42 rfl (by rw [HSZ.out]; exact HZS.out) ?_)
    | (go_at_call 92; refine (HP.out _).mono ?_; rintro e w1 ⟨rfl, hb1⟩)
    | (go_at_call 66; refine (HS.out _).mono ?_; rintro e w2 ⟨rfl, hb2⟩))
  go_ret2
  exact ⟨rfl, (((Below.refl _ _).alloc (Nat.le_refl _) _).trans (hb1.mono (by simp))).trans (hb2.mono (by have := hb1.size; simp at this; omega))⟩
theorem sprep_any (old : ByteArray) (e : En) (hold : old.size ≤ 1125899906842624) (w : World) (hf : Fd w) : Calls Tryd.prog 77 #[.string old, e.val] w (SN w (prepS (sb old) e)) := by
  have HSZ : Hid (e.cells.size = 9) := hid rfl
  have HP := hid (fun (W : World) (hW : Fd W) => epack_any e W hW)
  unfold prepS
  by_cases h0 : (packE e).2 = 0
  · rw [if_pos h0]
    have HS := hid (fun W => seal_calls old ⟨(packE e).1.toArray⟩ W hold)
    rw [sb_mk] at HS
    have HP2 : Hid (∀ W : World, Fd W → Calls Tryd.prog 58 #[.agg e.cells] W fun e' w' => e' = .returned (.tuple #[.string ⟨(packE e).1.toArray⟩, .int .i64 0]) ∧ Below W.heap.size W w') := hid fun W hW => by
      have := HP.out W hW
      rw [show packE e = ((packE e).1, 0) by rw [← h0]] at this
      exact this
    exact sprep_yes e.cells old _ _ w hf HSZ HP2 HS
  · rw [if_neg h0]
    exact sprep_no e.cells old _ _ w hf HSZ (by simpa using h0) HP
theorem shdr_any (old : ByteArray) (s : St) (hs : s.fits) (hold : old.size ≤ 1125899906842624) (w : World) : Calls Tryd.prog 79 #[.string old, s.val] w (SN w (hdrS (sb old) s)) := by
  have HSZ : Hid (s.cells.size = 5) := hid rfl
  have HP := hid (fun W => spackT_any s hs W)
  unfold hdrS
  unfold packT at HP
  by_cases h0 : SRt s
  · rw [if_pos h0] at HP ⊢
    have HS := hid (fun W => seal_calls old ⟨s.bytes.toArray⟩ W hold)
    rw [sb_mk] at HS
    exact shdr_yes s.cells old _ _ w HSZ HP HS
  · rw [if_neg h0] at HP ⊢
    exact shdr_no s.cells old _ w HSZ HP
theorem svoid_any (old : ByteArray) (hold : old.size ≤ 1125899906842624) (w : World) : Calls Tryd.prog 48 #[.string old] w (SE w (voidS (sb old))) := by
  have HS := hid (fun W => seal_calls old ⟨#[]⟩ W hold)
  rw [show sb (⟨#[]⟩ : ByteArray) = [] from rfl] at HS
  unfold voidS
  generalize sealS (sb old) [] = r at *
  go_enter Tryd.func48, Tryd.ntmps48
  go_wp2_with (go_at_call 66; refine (HS.out _).mono ?_; rintro e w1 ⟨rfl, hb1⟩)
  go_ret
  exact ⟨rfl, hb1⟩
end Go.Proofs.YtneacphibklbgaaDoor
/-
  The walks of package slot's look, Entry, Stub.
-/
namespace Go.Proofs.YtneacphibklbgaaDoor
open Go.RowKit
set_option maxRecDepth 10000

/-- an entry, or a stub, and two answers -/
def LQ (w : World) (C : Array Value) (a b : Bool) (e : Ending) (w' : World) : Prop := e = .returned (.tuple #[.agg C, .bool a, .bool b]) ∧ Below w.heap.size w w'
theorem ezero_one : (#[.int .i64 0, .int .i64 0, .int .i64 0, .int .u64 0, .int .i64 0, .int .i64 0, .int .i64 0, .int .i64 0, .string ⟨#[]⟩] : Array Value).all (·.oneCell') = true := by simp [Value.oneCell']
theorem szero_one : (#[.int .i64 0, .int .i64 0, .int .i64 0, .int .u64 0, .int .u64 0] : Array Value).all (·.oneCell') = true := by simp [Value.oneCell']
set_option maxHeartbeats 1000000 in
theorem slke_void (s : ByteArray) (b : Bool) (w : World) (HO : Hid (∀ W : World, Calls Tryd.prog 82 #[.string s] W fun e w' => e = .returned (.tuple #[.string ⟨#[]⟩, .bool b]) ∧ Below W.heap.size W w')) :
    Calls Tryd.prog 68 #[.string s, .func (.func 69) #[] #[]] w (LQ w #[.int .i64 0, .int .i64 0, .int .i64 0, .int .u64 0, .int .i64 0, .int .i64 0, .int .i64 0, .int .i64 0, .string ⟨#[]⟩] false b) := by
  have HZS := hid esize
  go_enter Tryd.func68, Tryd.ntmps68
  go_wp2_with (first
    | (go_at_call 82; refine (HO.out _).mono ?_; rintro e w1 ⟨rfl, hb1⟩; have hr0 : Row w1 w.heap.size 28 (Array.toList #[.int .i64 0, .int .i64 0, .int .i64 0, .int .u64 0, .int .i64 0, .int .i64 0, .int .i64 0, .int .i64 0, .string ⟨#[]⟩]) := ((Row.new w 28 #[.int .i64 0, .int .i64 0, .int .i64 0, .int .u64 0, .int .i64 0, .int .i64 0, .int .i64 0, .int .i64 0, .string ⟨#[]⟩]).alloc (.cells #[.int .i64 0, .int .i64 0, .int .i64 0, .int .u64 0, .int .i64 0, .int .i64 0, .int .i64 0, .int .i64 0, .string ⟨#[]⟩] 28)).below hb1 (by simp; omega); have hr1 : Row w1 (w.heap.size + 1) 28 (Array.toList #[.int .i64 0, .int .i64 0, .int .i64 0, .int .u64 0, .int .i64 0, .int .i64 0, .int .i64 0, .int .i64 0, .string ⟨#[]⟩]) := Row.below (B := w.heap.size + 1 + 1) (alloc2_new _ _ _) (hb1.mono (by simp)) (by omega); have hbe := (((Below.refl w.heap.size w).alloc (Nat.le_refl _) (.cells #[.int .i64 0, .int .i64 0, .int .i64 0, .int .u64 0, .int .i64 0, .int .i64 0, .int .i64 0, .int .i64 0, .string ⟨#[]⟩] 28)).alloc (by simp) (.cells #[.int .i64 0, .int .i64 0, .int .i64 0, .int .u64 0, .int .i64 0, .int .i64 0, .int .i64 0, .int .i64 0, .string ⟨#[]⟩] 28)).trans (hb1.mono (by simp; omega)))
    | (refine wpList_load_row rfl 28 (.tmp 7) rfl (w.heap.size + 1) rfl 28 #[.int .i64 0, .int .i64 0, .int .i64 0, .int .u64 0, .int .i64 0, .int .i64 0, .int .i64 0, .int .i64 0, .string ⟨#[]⟩] (0, 0) _ hr1.arr Tryd.underlying28 rfl HZS.out ?_)
    | (refine wpl_store_st rfl (.tmp 4) (.tmp 19) rfl (n := 9) HZS.out w.heap.size #[.int .i64 0, .int .i64 0, .int .i64 0, .int .u64 0, .int .i64 0, .int .i64 0, .int .i64 0, .int .i64 0, .string ⟨#[]⟩] #[.int .i64 0, .int .i64 0, .int .i64 0, .int .u64 0, .int .i64 0, .int .i64 0, .int .i64 0, .int .i64 0, .string ⟨#[]⟩] rfl rfl hr0 ?_ (hid rfl) (hid rfl) (hid ezero_one); intro w7 HR7 HB7))
  exact bodyPost_ret (v := .tuple #[.agg #[.int .i64 0, .int .i64 0, .int .i64 0, .int .u64 0, .int .i64 0, .int .i64 0, .int .i64 0, .int .i64 0, .string ⟨#[]⟩], .bool false, .bool b]) (results_cell2 rfl _ _ w.heap.size 28 #[.int .i64 0, .int .i64 0, .int .i64 0, .int .u64 0, .int .i64 0, .int .i64 0, .int .i64 0, .int .i64 0, .string ⟨#[]⟩] (0, 0) _ (.bool false) (.bool b) rfl rfl rfl HR7.arr Tryd.underlying28 rfl (by exact HZS.out)) rfl
    ⟨rfl, hbe.trans (below_grown HB7 (Nat.le_refl _) hbe.size)⟩
set_option maxHeartbeats 1000000 in
theorem slke_bad (s T : ByteArray) (b : Bool) (C : Array Value) (f : Int) (w : World) (hf : Fd w) (hne : T.toList.isEmpty = false) (h0 : (f != 0) = true) (HSZ : Hid (C.size = 9)) (HSO : Hid (C.all (·.oneCell') = true))
    (HO : Hid (∀ W : World, Calls Tryd.prog 82 #[.string s] W fun e w' => e = .returned (.tuple #[.string T, .bool b]) ∧ Below W.heap.size W w'))
    (HU : Hid (∀ W : World, Fd W → Calls Tryd.prog 69 #[.string T] W fun e w' => e = .returned (.tuple #[.agg C, .int .i64 f]) ∧ Below W.heap.size W w')) :
    Calls Tryd.prog 68 #[.string s, .func (.func 69) #[] #[]] w (LQ w #[.int .i64 0, .int .i64 0, .int .i64 0, .int .u64 0, .int .i64 0, .int .i64 0, .int .i64 0, .int .i64 0, .string ⟨#[]⟩] false false) := by
  have HZS := hid esize
  have HFd := hid hf
  clear hf
  go_enter Tryd.func68, Tryd.ntmps68
  go_wp2_with (first
    | (go_at_call 82; refine (HO.out _).mono ?_; rintro e w1 ⟨rfl, hb1⟩; have hr0 : Row w1 w.heap.size 28 (Array.toList #[.int .i64 0, .int .i64 0, .int .i64 0, .int .u64 0, .int .i64 0, .int .i64 0, .int .i64 0, .int .i64 0, .string ⟨#[]⟩]) := ((Row.new w 28 #[.int .i64 0, .int .i64 0, .int .i64 0, .int .u64 0, .int .i64 0, .int .i64 0, .int .i64 0, .int .i64 0, .string ⟨#[]⟩]).alloc (.cells #[.int .i64 0, .int .i64 0, .int .i64 0, .int .u64 0, .int .i64 0, .int .i64 0, .int .i64 0, .int .i64 0, .string ⟨#[]⟩] 28)).below hb1 (by simp; omega); have hr1 : Row w1 (w.heap.size + 1) 28 (Array.toList #[.int .i64 0, .int .i64 0, .int .i64 0, .int .u64 0, .int .i64 0, .int .i64 0, .int .i64 0, .int .i64 0, .string ⟨#[]⟩]) := Row.below (B := w.heap.size + 1 + 1) (alloc2_new _ _ _) (hb1.mono (by simp)) (by omega); have hbe := (((Below.refl w.heap.size w).alloc (Nat.le_refl _) (.cells #[.int .i64 0, .int .i64 0, .int .i64 0, .int .u64 0, .int .i64 0, .int .i64 0, .int .i64 0, .int .i64 0, .string ⟨#[]⟩] 28)).alloc (by simp) (.cells #[.int .i64 0, .int .i64 0, .int .i64 0, .int .u64 0, .int .i64 0, .int .i64 0, .int .i64 0, .int .i64 0, .string ⟨#[]⟩] 28)).trans (hb1.mono (by simp; omega)))
    | (go_at_call 69; refine (HU.out _ (HFd.out.below hbe HFd.out.1)).mono ?_; rintro e w2 ⟨rfl, hb2⟩; replace hr0 := hr0.below hb2 hr0.lt; replace hr1 := hr1.below hb2 hr1.lt; replace hbe := hbe.trans (hb2.mono hbe.size))
    | (refine wpl_store_st rfl (.tmp 10) (.tmp 25) rfl (n := 9) HZS.out w2.heap.size #[.int .i64 0, .int .i64 0, .int .i64 0, .int .u64 0, .int .i64 0, .int .i64 0, .int .i64 0, .int .i64 0, .string ⟨#[]⟩] C rfl rfl (Row.new _ _ _) ?_ (hid rfl) HSZ HSO; intro w3 HR3 HB3; replace hr0 := (hr0.alloc (.cells #[.int .i64 0, .int .i64 0, .int .i64 0, .int .u64 0, .int .i64 0, .int .i64 0, .int .i64 0, .int .i64 0, .string ⟨#[]⟩] 28)).grown HB3 (by have := hr0.lt; intro e; have := Option.some.inj e; omega); replace hr1 := (hr1.alloc (.cells #[.int .i64 0, .int .i64 0, .int .i64 0, .int .u64 0, .int .i64 0, .int .i64 0, .int .i64 0, .int .i64 0, .string ⟨#[]⟩] 28)).grown HB3 (by have := hr1.lt; intro e; have := Option.some.inj e; omega); replace hbe := (hbe.alloc hbe.size (.cells #[.int .i64 0, .int .i64 0, .int .i64 0, .int .u64 0, .int .i64 0, .int .i64 0, .int .i64 0, .int .i64 0, .string ⟨#[]⟩] 28)).trans (below_grown HB3 hbe.size (by have := hbe.size; simp; omega)))
    | (refine wpList_load_row rfl 28 (.tmp 7) rfl (w.heap.size + 1) rfl 28 #[.int .i64 0, .int .i64 0, .int .i64 0, .int .u64 0, .int .i64 0, .int .i64 0, .int .i64 0, .int .i64 0, .string ⟨#[]⟩] (0, 0) _ hr1.arr Tryd.underlying28 rfl HZS.out ?_)
    | (refine wpl_store_st rfl (.tmp 4) (.tmp 29) rfl (n := 9) HZS.out w.heap.size #[.int .i64 0, .int .i64 0, .int .i64 0, .int .u64 0, .int .i64 0, .int .i64 0, .int .i64 0, .int .i64 0, .string ⟨#[]⟩] #[.int .i64 0, .int .i64 0, .int .i64 0, .int .u64 0, .int .i64 0, .int .i64 0, .int .i64 0, .int .i64 0, .string ⟨#[]⟩] rfl rfl hr0 ?_ (hid rfl) (hid rfl) (hid ezero_one); intro w7 HR7 HB7))
  exact bodyPost_ret (v := .tuple #[.agg #[.int .i64 0, .int .i64 0, .int .i64 0, .int .u64 0, .int .i64 0, .int .i64 0, .int .i64 0, .int .i64 0, .string ⟨#[]⟩], .bool false, .bool false]) (results_cell2 rfl _ _ w.heap.size 28 #[.int .i64 0, .int .i64 0, .int .i64 0, .int .u64 0, .int .i64 0, .int .i64 0, .int .i64 0, .int .i64 0, .string ⟨#[]⟩] (0, 0) _ (.bool false) (.bool false) rfl rfl rfl HR7.arr Tryd.underlying28 rfl (by exact HZS.out)) rfl
    ⟨rfl, hbe.trans (below_grown HB7 (Nat.le_refl _) hbe.size)⟩
set_option maxHeartbeats 1000000 in
theorem slke_good (s T : ByteArray) (b : Bool) (C : Array Value) (w : World) (hf : Fd w) (hne : T.toList.isEmpty = false) (HSZ : Hid (C.size = 9)) (HSO : Hid (C.all (·.oneCell') = true))
    (HO : Hid (∀ W : World, Calls Tryd.prog 82 #[.string s] W fun e w' => e = .returned (.tuple #[.string T, .bool b]) ∧ Below W.heap.size W w'))
    (HU : Hid (∀ W : World, Fd W → Calls Tryd.prog 69 #[.string T] W fun e w' => e = .returned (.tuple #[.agg C, .int .i64 0]) ∧ Below W.heap.size W w')) :
    Calls Tryd.prog 68 #[.string s, .func (.func 69) #[] #[]] w (LQ w C true true) := by
  have HZS := hid esize
  have HFd := hid hf
  clear hf
  go_enter Tryd.func68, Tryd.ntmps68
  go_wp2_with (first
    | (go_at_call 82; refine (HO.out _).mono ?_; rintro e w1 ⟨rfl, hb1⟩; have hr0 : Row w1 w.heap.size 28 (Array.toList #[.int .i64 0, .int .i64 0, .int .i64 0, .int .u64 0, .int .i64 0, .int .i64 0, .int .i64 0, .int .i64 0, .string ⟨#[]⟩]) := ((Row.new w 28 #[.int .i64 0, .int .i64 0, .int .i64 0, .int .u64 0, .int .i64 0, .int .i64 0, .int .i64 0, .int .i64 0, .string ⟨#[]⟩]).alloc (.cells #[.int .i64 0, .int .i64 0, .int .i64 0, .int .u64 0, .int .i64 0, .int .i64 0, .int .i64 0, .int .i64 0, .string ⟨#[]⟩] 28)).below hb1 (by simp; omega); have hr1 : Row w1 (w.heap.size + 1) 28 (Array.toList #[.int .i64 0, .int .i64 0, .int .i64 0, .int .u64 0, .int .i64 0, .int .i64 0, .int .i64 0, .int .i64 0, .string ⟨#[]⟩]) := Row.below (B := w.heap.size + 1 + 1) (alloc2_new _ _ _) (hb1.mono (by simp)) (by omega); have hbe := (((Below.refl w.heap.size w).alloc (Nat.le_refl _) (.cells #[.int .i64 0, .int .i64 0, .int .i64 0, .int .u64 0, .int .i64 0, .int .i64 0, .int .i64 0, .int .i64 0, .string ⟨#[]⟩] 28)).alloc (by simp) (.cells #[.int .i64 0, .int .i64 0, .int .i64 0, .int .u64 0, .int .i64 0, .int .i64 0, .int .i64 0, .int .i64 0, .string ⟨#[]⟩] 28)).trans (hb1.mono (by simp; omega)))
    | (go_at_call 69; refine (HU.out _ (HFd.out.below hbe HFd.out.1)).mono ?_; rintro e w2 ⟨rfl, hb2⟩; replace hr0 := hr0.below hb2 hr0.lt; replace hr1 := hr1.below hb2 hr1.lt; replace hbe := hbe.trans (hb2.mono hbe.size))
    | (refine wpl_store_st rfl (.tmp 10) (.tmp 25) rfl (n := 9) HZS.out w2.heap.size #[.int .i64 0, .int .i64 0, .int .i64 0, .int .u64 0, .int .i64 0, .int .i64 0, .int .i64 0, .int .i64 0, .string ⟨#[]⟩] C rfl rfl (Row.new _ _ _) ?_ (hid rfl) HSZ HSO; intro w3 HR3 HB3; replace hr0 := (hr0.alloc (.cells #[.int .i64 0, .int .i64 0, .int .i64 0, .int .u64 0, .int .i64 0, .int .i64 0, .int .i64 0, .int .i64 0, .string ⟨#[]⟩] 28)).grown HB3 (by have := hr0.lt; intro e; have := Option.some.inj e; omega); replace hr1 := (hr1.alloc (.cells #[.int .i64 0, .int .i64 0, .int .i64 0, .int .u64 0, .int .i64 0, .int .i64 0, .int .i64 0, .int .i64 0, .string ⟨#[]⟩] 28)).grown HB3 (by have := hr1.lt; intro e; have := Option.some.inj e; omega); replace hbe := (hbe.alloc hbe.size (.cells #[.int .i64 0, .int .i64 0, .int .i64 0, .int .u64 0, .int .i64 0, .int .i64 0, .int .i64 0, .int .i64 0, .string ⟨#[]⟩] 28)).trans (below_grown HB3 hbe.size (by have := hbe.size; simp; omega)))
    | (refine wpList_load_row rfl 28 (.tmp 10) rfl w2.heap.size rfl 28 C (0, 0) _ HR3.arr Tryd.underlying28 rfl (by rw [HSZ.out]; exact HZS.out) ?_)
    | (refine wpl_store_st rfl (.tmp 4) (.tmp 30) rfl (n := 9) HZS.out w.heap.size #[.int .i64 0, .int .i64 0, .int .i64 0, .int .u64 0, .int .i64 0, .int .i64 0, .int .i64 0, .int .i64 0, .string ⟨#[]⟩] C rfl rfl hr0 ?_ (hid rfl) HSZ HSO; intro w7 HR7 HB7))
  exact bodyPost_ret (v := .tuple #[.agg C, .bool true, .bool true]) (results_cell2 rfl _ _ w.heap.size 28 C (0, 0) _ (.bool true) (.bool true) rfl rfl rfl HR7.arr Tryd.underlying28 rfl (by rw [HSZ.out]; exact HZS.out)) rfl
    ⟨rfl, hbe.trans (below_grown HB7 (Nat.le_refl _) hbe.size)⟩
theorem olke_of (s : ByteArray) (C : Array Value) (a b : Bool) (w : World) (hf : Fd w) (HSZ : Hid (C.size = 9)) (HSO : Hid (C.all (·.oneCell') = true))
    (HL : Hid (∀ W : World, Fd W → Calls Tryd.prog 68 #[.string s, .func (.func 69) #[] #[]] W (LQ W C a b))) : Calls Tryd.prog 51 #[.string s] w (LQ w C a b) := by
  have HZS := hid esize
  have HFd := hid hf
  clear hf
  go_enter Tryd.func51, Tryd.ntmps51
  go_wp2_with (first
    | (go_at_call 68; refine (HL.out _ (HFd.out.below ((Below.refl w.heap.size w).alloc (Nat.le_refl _) _) HFd.out.1)).mono ?_; rintro e w1 ⟨rfl, hb1⟩; have hr0 := (Row.new w 28 #[.int .i64 0, .int .i64 0, .int .i64 0, .int .u64 0, .int .i64 0, .int .i64 0, .int .i64 0, .int .i64 0, .string ⟨#[]⟩]).below hb1 (by simp); have hbe := ((Below.refl w.heap.size w).alloc (Nat.le_refl _) (.cells #[.int .i64 0, .int .i64 0, .int .i64 0, .int .u64 0, .int .i64 0, .int .i64 0, .int .i64 0, .int .i64 0, .string ⟨#[]⟩] 28)).trans (hb1.mono (by simp)))
    | (refine wpl_store_st rfl (.tmp 2) (.tmp 7) rfl (n := 9) HZS.out w.heap.size #[.int .i64 0, .int .i64 0, .int .i64 0, .int .u64 0, .int .i64 0, .int .i64 0, .int .i64 0, .int .i64 0, .string ⟨#[]⟩] C rfl rfl hr0 ?_ (hid rfl) HSZ HSO; intro w7 HR7 HB7))
  exact bodyPost_ret (v := .tuple #[.agg C, .bool a, .bool b]) (results_cell2 rfl _ _ w.heap.size 28 C (0, 0) _ (.bool a) (.bool b) rfl rfl rfl HR7.arr Tryd.underlying28 rfl (by rw [HSZ.out]; exact HZS.out)) rfl
    ⟨rfl, hbe.trans (below_grown HB7 (Nat.le_refl _) hbe.size)⟩
set_option maxHeartbeats 1000000 in
theorem slks_void (s : ByteArray) (b : Bool) (w : World) (HO : Hid (∀ W : World, Calls Tryd.prog 82 #[.string s] W fun e w' => e = .returned (.tuple #[.string ⟨#[]⟩, .bool b]) ∧ Below W.heap.size W w')) :
    Calls Tryd.prog 70 #[.string s, .func (.func 71) #[] #[]] w (LQ w #[.int .i64 0, .int .i64 0, .int .i64 0, .int .u64 0, .int .u64 0] false b) := by
  have HZS := hid stsize
  go_enter Tryd.func70, Tryd.ntmps70
  go_wp2_with (first
    | (go_at_call 82; refine (HO.out _).mono ?_; rintro e w1 ⟨rfl, hb1⟩; have hr0 : Row w1 w.heap.size 42 (Array.toList #[.int .i64 0, .int .i64 0, .int .i64 0, .int .u64 0, .int .u64 0]) := ((Row.new w 42 #[.int .i64 0, .int .i64 0, .int .i64 0, .int .u64 0, .int .u64 0]).alloc (.cells #[.int .i64 0, .int .i64 0, .int .i64 0, .int .u64 0, .int .u64 0] 42)).below hb1 (by simp; omega); have hr1 : Row w1 (w.heap.size + 1) 42 (Array.toList #[.int .i64 0, .int .i64 0, .int .i64 0, .int .u64 0, .int .u64 0]) := Row.below (B := w.heap.size + 1 + 1) (alloc2_new _ _ _) (hb1.mono (by simp)) (by omega); have hbe := (((Below.refl w.heap.size w).alloc (Nat.le_refl _) (.cells #[.int .i64 0, .int .i64 0, .int .i64 0, .int .u64 0, .int .u64 0] 42)).alloc (by simp) (.cells #[.int .i64 0, .int .i64 0, .int .i64 0, .int .u64 0, .int .u64 0] 42)).trans (hb1.mono (by simp; omega)))
    | (refine wpList_load_row rfl 42 (.tmp 7) rfl (w.heap.size + 1) rfl 42 #[.int .i64 0, .int .i64 0, .int .i64 0, .int .u64 0, .int .u64 0] (0, 0) _ hr1.arr Tryd.underlying42 rfl HZS.out ?_)
    | (refine wpl_store_st rfl (.tmp 4) (.tmp 19) rfl (n := 5) HZS.out w.heap.size #[.int .i64 0, .int .i64 0, .int .i64 0, .int .u64 0, .int .u64 0] #[.int .i64 0, .int .i64 0, .int .i64 0, .int .u64 0, .int .u64 0] rfl rfl hr0 ?_ (hid rfl) (hid rfl) (hid szero_one); intro w7 HR7 HB7))
  exact bodyPost_ret (v := .tuple #[.agg #[.int .i64 0, .int .i64 0, .int .i64 0, .int .u64 0, .int .u64 0], .bool false, .bool b]) (results_cell2 rfl _ _ w.heap.size 42 #[.int .i64 0, .int .i64 0, .int .i64 0, .int .u64 0, .int .u64 0] (0, 0) _ (.bool false) (.bool b) rfl rfl rfl HR7.arr Tryd.underlying42 rfl (by exact HZS.out)) rfl
    ⟨rfl, hbe.trans (below_grown HB7 (Nat.le_refl _) hbe.size)⟩
set_option maxHeartbeats 1000000 in
theorem slks_bad (s T : ByteArray) (b : Bool) (C : Array Value) (f : Int) (w : World) (hne : T.toList.isEmpty = false) (h0 : (f != 0) = true) (HSZ : Hid (C.size = 5)) (HSO : Hid (C.all (·.oneCell') = true))
    (HO : Hid (∀ W : World, Calls Tryd.prog 82 #[.string s] W fun e w' => e = .returned (.tuple #[.string T, .bool b]) ∧ Below W.heap.size W w'))
    (HU : Hid (∀ W : World, Calls Tryd.prog 71 #[.string T] W fun e w' => e = .returned (.tuple #[.agg C, .int .i64 f]) ∧ Below W.heap.size W w')) :
    Calls Tryd.prog 70 #[.string s, .func (.func 71) #[] #[]] w (LQ w #[.int .i64 0, .int .i64 0, .int .i64 0, .int .u64 0, .int .u64 0] false false) := by
  have HZS := hid stsize
  go_enter Tryd.func70, Tryd.ntmps70
  go_wp2_with (first
    | (go_at_call 82; refine (HO.out _).mono ?_; rintro e w1 ⟨rfl, hb1⟩; have hr0 : Row w1 w.heap.size 42 (Array.toList #[.int .i64 0, .int .i64 0, .int .i64 0, .int .u64 0, .int .u64 0]) := ((Row.new w 42 #[.int .i64 0, .int .i64 0, .int .i64 0, .int .u64 0, .int .u64 0]).alloc (.cells #[.int .i64 0, .int .i64 0, .int .i64 0, .int .u64 0, .int .u64 0] 42)).below hb1 (by simp; omega); have hr1 : Row w1 (w.heap.size + 1) 42 (Array.toList #[.int .i64 0, .int .i64 0, .int .i64 0, .int .u64 0, .int .u64 0]) := Row.below (B := w.heap.size + 1 + 1) (alloc2_new _ _ _) (hb1.mono (by simp)) (by omega); have hbe := (((Below.refl w.heap.size w).alloc (Nat.le_refl _) (.cells #[.int .i64 0, .int .i64 0, .int .i64 0, .int .u64 0, .int .u64 0] 42)).alloc (by simp) (.cells #[.int .i64 0, .int .i64 0, .int .i64 0, .int .u64 0, .int .u64 0] 42)).trans (hb1.mono (by simp; omega)))
    | (go_at_call 71; refine (HU.out _).mono ?_; rintro e w2 ⟨rfl, hb2⟩; replace hr0 := hr0.below hb2 hr0.lt; replace hr1 := hr1.below hb2 hr1.lt; replace hbe := hbe.trans (hb2.mono hbe.size))
    | (refine wpl_store_st rfl (.tmp 10) (.tmp 25) rfl (n := 5) HZS.out w2.heap.size #[.int .i64 0, .int .i64 0, .int .i64 0, .int .u64 0, .int .u64 0] C rfl rfl (Row.new _ _ _) ?_ (hid rfl) HSZ HSO; intro w3 HR3 HB3; replace hr0 := (hr0.alloc (.cells #[.int .i64 0, .int .i64 0, .int .i64 0, .int .u64 0, .int .u64 0] 42)).grown HB3 (by have := hr0.lt; intro e; have := Option.some.inj e; omega); replace hr1 := (hr1.alloc (.cells #[.int .i64 0, .int .i64 0, .int .i64 0, .int .u64 0, .int .u64 0] 42)).grown HB3 (by have := hr1.lt; intro e; have := Option.some.inj e; omega); replace hbe := (hbe.alloc hbe.size (.cells #[.int .i64 0, .int .i64 0, .int .i64 0, .int .u64 0, .int .u64 0] 42)).trans (below_grown HB3 hbe.size (by have := hbe.size; simp; omega)))
    | (refine wpList_load_row rfl 42 (.tmp 7) rfl (w.heap.size + 1) rfl 42 #[.int .i64 0, .int .i64 0, .int .i64 0, .int .u64 0, .int .u64 0] (0, 0) _ hr1.arr Tryd.underlying42 rfl HZS.out ?_)
    | (refine wpl_store_st rfl (.tmp 4) (.tmp 29) rfl (n := 5) HZS.out w.heap.size #[.int .i64 0, .int .i64 0, .int .i64 0, .int .u64 0, .int .u64 0] #[.int .i64 0, .int .i64 0, .int .i64 0, .int .u64 0, .int .u64 0] rfl rfl hr0 ?_ (hid rfl) (hid rfl) (hid szero_one); intro w7 HR7 HB7))
  exact bodyPost_ret (v := .tuple #[.agg #[.int .i64 0, .int .i64 0, .int .i64 0, .int .u64 0, .int .u64 0], .bool false, .bool false]) (results_cell2 rfl _ _ w.heap.size 42 #[.int .i64 0, .int .i64 0, .int .i64 0, .int .u64 0, .int .u64 0] (0, 0) _ (.bool false) (.bool false) rfl rfl rfl HR7.arr Tryd.underlying42 rfl (by exact HZS.out)) rfl
    ⟨rfl, hbe.trans (below_grown HB7 (Nat.le_refl _) hbe.size)⟩
set_option maxHeartbeats 1000000 in
theorem slks_good (s T : ByteArray) (b : Bool) (C : Array Value) (w : World) (hne : T.toList.isEmpty = false) (HSZ : Hid (C.size = 5)) (HSO : Hid (C.all (·.oneCell') = true))
    (HO : Hid (∀ W : World, Calls Tryd.prog 82 #[.string s] W fun e w' => e = .returned (.tuple #[.string T, .bool b]) ∧ Below W.heap.size W w'))
    (HU : Hid (∀ W : World, Calls Tryd.prog 71 #[.string T] W fun e w' => e = .returned (.tuple #[.agg C, .int .i64 0]) ∧ Below W.heap.size W w')) :
    Calls Tryd.prog 70 #[.string s, .func (.func 71) #[] #[]] w (LQ w C true true) := by
  have HZS := hid stsize
  go_enter Tryd.func70, Tryd.ntmps70
  go_wp2_with (first
    | (go_at_call 82; refine (HO.out _).mono ?_; rintro e w1 ⟨rfl, hb1⟩; have hr0 : Row w1 w.heap.size 42 (Array.toList #[.int .i64 0, .int .i64 0, .int .i64 0, .int .u64 0, .int .u64 0]) := ((Row.new w 42 #[.int .i64 0, .int .i64 0, .int .i64 0, .int .u64 0, .int .u64 0]).alloc (.cells #[.int .i64 0, .int .i64 0, .int .i64 0, .int .u64 0, .int .u64 0] 42)).below hb1 (by simp; omega); have hr1 : Row w1 (w.heap.size + 1) 42 (Array.toList #[.int .i64 0, .int .i64 0, .int .i64 0, .int .u64 0, .int .u64 0]) := Row.below (B := w.heap.size + 1 + 1) (alloc2_new _ _ _) (hb1.mono (by simp)) (by omega); have hbe := (((Below.refl w.heap.size w).alloc (Nat.le_refl _) (.cells #[.int .i64 0, .int .i64 0, .int .i64 0, .int .u64 0, .int .u64 0] 42)).alloc (by simp) (.cells #[.int .i64 0, .int .i64 0, .int .i64 0, .int .u64 0, .int .u64 0] 42)).trans (hb1.mono (by simp; omega)))
    | (go_at_call 71; refine (HU.out _).mono ?_; rintro e w2 ⟨rfl, hb2⟩; replace hr0 := hr0.below hb2 hr0.lt; replace hr1 := hr1.below hb2 hr1.lt; replace hbe := hbe.trans (hb2.mono hbe.size))
    | (refine wpl_store_st rfl (.tmp 10) (.tmp 25) rfl (n := 5) HZS.out w2.heap.size #[.int .i64 0, .int .i64 0, .int .i64 0, .int .u64 0, .int .u64 0] C rfl rfl (Row.new _ _ _) ?_ (hid rfl) HSZ HSO; intro w3 HR3 HB3; replace hr0 := (hr0.alloc (.cells #[.int .i64 0, .int .i64 0, .int .i64 0, .int .u64 0, .int .u64 0] 42)).grown HB3 (by have := hr0.lt; intro e; have := Option.some.inj e; omega); replace hr1 := (hr1.alloc (.cells #[.int .i64 0, .int .i64 0, .int .i64 0, .int .u64 0, .int .u64 0] 42)).grown HB3 (by have := hr1.lt; intro e; have := Option.some.inj e; omega); replace hbe := (hbe.alloc hbe.size (.cells #[.int .i64 0, .int .i64 0, .int .i64 0, .int .u64 0, .int .u64 0] 42)).trans (below_grown HB3 hbe.size (by have := hbe.size; simp; omega)))
    | (refine wpList_load_row rfl 42 (.tmp 10) rfl w2.heap.size rfl 42 C (0, 0) _ HR3.arr Tryd.underlying42 rfl (by rw [HSZ.out]; exact HZS.out) ?_)
    | (refine wpl_store_st rfl (.tmp 4) (.tmp 30) rfl (n := 5) HZS.out w.heap.size #[.int .i64 0, .int .i64 0, .int .i64 0, .int .u64 0, .int .u64 0] C rfl rfl hr0 ?_ (hid rfl) HSZ HSO; intro w7 HR7 HB7))
  exact bodyPost_ret (v := .tuple #[.agg C, .bool true, .bool true]) (results_cell2 rfl _ _ w.heap.size 42 C (0, 0) _ (.bool true) (.bool true) rfl rfl rfl HR7.arr Tryd.underlying42 rfl (by rw [HSZ.out]; exact HZS.out)) rfl
    ⟨rfl, hbe.trans (below_grown HB7 (Nat.le_refl _) hbe.size)⟩
theorem olks_of (s : ByteArray) (C : Array Value) (a b : Bool) (w : World) (HSZ : Hid (C.size = 5)) (HSO : Hid (C.all (·.oneCell') = true))
    (HL : Hid (∀ W : World, Calls Tryd.prog 70 #[.string s, .func (.func 71) #[] #[]] W (LQ W C a b))) : Calls Tryd.prog 52 #[.string s] w (LQ w C a b) := by
  have HZS := hid stsize
  go_enter Tryd.func52, Tryd.ntmps52
  go_wp2_with (first
    | (go_at_call 70; refine (HL.out _).mono ?_; rintro e w1 ⟨rfl, hb1⟩; have hr0 := (Row.new w 42 #[.int .i64 0, .int .i64 0, .int .i64 0, .int .u64 0, .int .u64 0]).below hb1 (by simp); have hbe := ((Below.refl w.heap.size w).alloc (Nat.le_refl _) (.cells #[.int .i64 0, .int .i64 0, .int .i64 0, .int .u64 0, .int .u64 0] 42)).trans (hb1.mono (by simp)))
    | (refine wpl_store_st rfl (.tmp 2) (.tmp 7) rfl (n := 5) HZS.out w.heap.size #[.int .i64 0, .int .i64 0, .int .i64 0, .int .u64 0, .int .u64 0] C rfl rfl hr0 ?_ (hid rfl) HSZ HSO; intro w7 HR7 HB7))
  exact bodyPost_ret (v := .tuple #[.agg C, .bool a, .bool b]) (results_cell2 rfl _ _ w.heap.size 42 C (0, 0) _ (.bool a) (.bool b) rfl rfl rfl HR7.arr Tryd.underlying42 rfl (by rw [HSZ.out]; exact HZS.out)) rfl
    ⟨rfl, hbe.trans (below_grown HB7 (Nat.le_refl _) hbe.size)⟩
theorem openS_len (l : List UInt8) : (openS l).1.length ≤ 376 := by
  unfold openS
  split
  · rename_i h
    exact tt_len l h.2.1
  · simp
theorem full_l {l : List UInt8} (h : l ≠ []) : (⟨l.toArray⟩ : ByteArray).toList.isEmpty = false := full_of (by rw [← sb_len, sb_mk]; intro e; exact h (List.length_eq_zero_iff.1 e))
theorem entryS_any (s : ByteArray) (w : World) (hf : Fd w) : Calls Tryd.prog 51 #[.string s] w (LQ w (entryS (sb s)).1.cells (entryS (sb s)).2.1 (entryS (sb s)).2.2) := by
  have HO : Hid (∀ W : World, Calls Tryd.prog 82 #[.string s] W fun e w' => e = .returned (.tuple #[.string ⟨(openS (sb s)).1.toArray⟩, .bool (openS (sb s)).2]) ∧ Below W.heap.size W w') := hid fun W => open_calls s W
  have hsz : (openS (sb s)).1.length ≤ 376 := openS_len _
  refine olke_of s _ _ _ w hf (hid rfl) (hid (ecells_one _)) (hid fun W hW => ?_)
  unfold entryS
  generalize openS (sb s) = r at *
  obtain ⟨l, b⟩ := r
  by_cases h0 : l = []
  · subst h0
    rw [if_pos rfl]
    exact slke_void s b W HO
  · rw [if_neg h0]
    have HU := hid (fun W (hW : Fd W) => eup_any ⟨l.toArray⟩ W hW (by rw [← sb_len, sb_mk]; simp only at hsz; omega))
    rw [sb_mk] at HU
    simp only
    by_cases h1 : (unpackE l).2 = 0
    · rw [if_pos h1]
      have e : unpackE l = ((unpackE l).1, 0) := by rw [← h1]
      rw [e] at HU
      exact slke_good s ⟨l.toArray⟩ b _ W hW (full_l h0) (hid rfl) (hid (ecells_one _)) HO HU
    · rw [if_neg h1]
      exact slke_bad s ⟨l.toArray⟩ b _ _ W hW (full_l h0) (by simpa using h1) (hid rfl) (hid (ecells_one _)) HO HU
theorem stubT_any (s : ByteArray) (w : World) : Calls Tryd.prog 52 #[.string s] w (LQ w (stubT (sb s)).1.cells (stubT (sb s)).2.1 (stubT (sb s)).2.2) := by
  have HO : Hid (∀ W : World, Calls Tryd.prog 82 #[.string s] W fun e w' => e = .returned (.tuple #[.string ⟨(openS (sb s)).1.toArray⟩, .bool (openS (sb s)).2]) ∧ Below W.heap.size W w') := hid fun W => open_calls s W
  refine olks_of s _ _ _ w (hid rfl) (hid (stcells_one _)) (hid fun W => ?_)
  unfold stubT
  generalize openS (sb s) = r at *
  obtain ⟨l, b⟩ := r
  by_cases h0 : l = []
  · subst h0
    rw [if_pos rfl]
    exact slks_void s b W HO
  · rw [if_neg h0]
    have HU := hid (fun W => sunpackT_any ⟨l.toArray⟩ W)
    rw [sb_mk] at HU
    simp only
    by_cases h1 : (unpackT l).2 = 0
    · rw [if_pos h1]
      have e : unpackT l = ((unpackT l).1, 0) := by rw [← h1]
      rw [e] at HU
      exact slks_good s ⟨l.toArray⟩ b _ W (full_l h0) (hid rfl) (hid (stcells_one _)) HO HU
    · rw [if_neg h1]
      exact slks_bad s ⟨l.toArray⟩ b _ _ W (full_l h0) (by simpa using h1) (hid rfl) (hid (stcells_one _)) HO HU
end Go.Proofs.YtneacphibklbgaaDoor
