/-
  The walk of GridTears.
-/
import Derived.Test.YthlapdijnfcekaaG11
import Derived.ChangeKeysEq
namespace Go.Proofs.Ythlapdijnfcekaa
open Go.RowKit
set_option maxRecDepth 10000

/-! ### arrays of six held against each other -/
theorem eqI_any {P : Program} {W : World} (d : Nat) (e : TypeId) (n : Nat) (xs ys : Array Value) (i : Nat) (is : List Nat) (a b : Value) (r : Bool) (hx : (part e xs (i * n)).run P W = .ok a W) (hy : (part e ys (i * n)).run P W = .ok b W)
    (hr : (Op.equalIn d e a b).run P W = .ok r W) : (Op.eqItems d e n xs ys (i :: is)).run P W = if r = true then (Op.eqItems d e n xs ys is).run P W else .ok false W := by
  cases r <;> simp [Op.eqItems, hx, hy, hr]
theorem eqI_nil {P : Program} {W : World} (d : Nat) (e : TypeId) (n : Nat) (xs ys : Array Value) : (Op.eqItems d e n xs ys []).run P W = .ok true W := by simp [Op.eqItems]
theorem eqIntG (W : World) (d : Nat) (a : Int) : (Op.equalIn (d + 1) 28 (.int .u64 a) (.int .u64 a)).run Try.prog W = .ok true W := by
  rw [run_equalIn_int W d 28 .u64 .u64 a a Try.underlying28]
  simp
theorem eqSixG (W : World) (sm : Nat → Int) : (Op.equalIn 10000 29 (.agg (sixL sm).toArray) (.agg (sixL sm).toArray)).run Try.prog W = .ok true W := by
  unfold sixL
  rw [run_equalIn_array (i := (Try.prog.info? 28).get (by kernel_rfl)) W 9999 _ _ Try.underlying29 (by kernel_rfl)]
  rw [show List.range 6 = [0, 1, 2, 3, 4, 5] by decide, show Try.prog.cellsOf 28 = 1 by kernel_rfl]
  rw [eqI_any 9999 28 1 _ _ _ _ (.int .u64 (sm 0)) (.int .u64 (sm 0)) true (by kernel_rfl) (by kernel_rfl) (eqIntG W 9998 (sm 0)), if_pos rfl]
  rw [eqI_any 9999 28 1 _ _ _ _ (.int .u64 (sm 1)) (.int .u64 (sm 1)) true (by kernel_rfl) (by kernel_rfl) (eqIntG W 9998 (sm 1)), if_pos rfl]
  rw [eqI_any 9999 28 1 _ _ _ _ (.int .u64 (sm 2)) (.int .u64 (sm 2)) true (by kernel_rfl) (by kernel_rfl) (eqIntG W 9998 (sm 2)), if_pos rfl]
  rw [eqI_any 9999 28 1 _ _ _ _ (.int .u64 (sm 3)) (.int .u64 (sm 3)) true (by kernel_rfl) (by kernel_rfl) (eqIntG W 9998 (sm 3)), if_pos rfl]
  rw [eqI_any 9999 28 1 _ _ _ _ (.int .u64 (sm 4)) (.int .u64 (sm 4)) true (by kernel_rfl) (by kernel_rfl) (eqIntG W 9998 (sm 4)), if_pos rfl]
  rw [eqI_any 9999 28 1 _ _ _ _ (.int .u64 (sm 5)) (.int .u64 (sm 5)) true (by kernel_rfl) (by kernel_rfl) (eqIntG W 9998 (sm 5)), if_pos rfl]
  rw [eqI_nil]
theorem egSix : Try.prog.eqGuardType Try.prog.depth 29 = false := by kernel_rfl
theorem Row.range6 {w : World} {g : Nat} {e : TypeId} {cs : List Value} (h : Row w g e cs) : w.rangeAt g 0 cs := fun j v hv => by
  rw [Nat.zero_add]
  exact (h.cell j).trans hv
theorem yields_eq6 {ops : Array Oper} {o : Oper} {a : Act} {S : World → Prop} (hw : Region.wanted o (yielded ops a.tmps) = true) (sm : Nat → Int) (x y : Operand) (ty : TypeId) (ho : o.op = .binOp .eql 29 x y ty)
    (hx : a.eval x = .agg (sixL sm).toArray) (hy : a.eval y = .agg (sixL sm).toArray) : YieldsIf Try.prog ops S o (.bool true) a :=
  .inl ⟨hw, fun w _ => by
    have hEG := egSix
    have hE := eqSixG w sm
    generalize (sixL sm).toArray = Z at *
    unfold execOp
    simp [ho, hx, hy, eqGuard, hEG, binOp, Op.equal, Op.maxDepth, hE, Result.andThen]⟩
/-! ### the law -/
theorem fuse_count (S : Sp) (n : Int) : (S.fuse n).1.count = S.count := by
  unfold Sp.fuse
  split <;> rfl
theorem start_count (S : Sp) (l : List Int) : (S.start l).1.count = S.count := by
  unfold Sp.start
  split <;> rfl
/-- whatever is written into a new disk -/
theorem old_g (s : ByteArray) (a : Nat) (ha : a ≤ 1) : ∃ S1 x K1, (∀ (w0 W : World) (p gs : Nat) (G : List Nat), Dd w0 W p gs (Sp.mk0 32) G → Calls Try.prog 9 #[.pointer (some ⟨p, 0, none⟩), .int .i64 (a : Int), .string s] W (DC w0 W p gs S1 G (.int .i64 x))) ∧ OnG S1 K1 ∧ S1.secs.length = 32 ∧ S1.count ≤ 7 := by
  by_cases h : 1920 < s.size
  · exact ⟨_, _, _, fun w0 W p gs G hW => gwrite_long hW a ha s h, begin_g 32, by simp [Sp.mk0], by simp [Sp.mk0]⟩
  · obtain ⟨S1, e1, h1, hn1, hc1, _, _⟩ := first_g (sb s) (by rw [sb_len]; omega) a ha
    have hm := cnt_six (s := sb s) (by rw [sb_len]; omega)
    refine ⟨S1, 0, _, fun w0 W p gs G hW => ?_, h1, hn1, by omega⟩
    have h2 := gwrite_any hW (by simp [Sp.mk0]) a ha s (by omega)
    rw [← sb_len, e1] at h2
    exact h2
theorem tears_gl {S : Sp} {K : Nat → Option (List UInt8)} {s : List UInt8} {base : Nat} (h : OnG S K) (hb : base + cntG s.length ≤ S.secs.length) :
    (∃ S' K', writeG S (pieceG s) base (cntG s.length) = (S', 0) ∧ OnG S' K' ∧ loadK chG K' base s.length (sumG chG s) = (s, []) ∧ S'.secs.length = S.secs.length) ∨
    (∃ S', writeG S (pieceG s) base (cntG s.length) = (S', 6) ∧ S'.on = false ∧ ∀ picks, ∃ S'' K', S'.start picks = (S'', 0) ∧ OnG S'' K' ∧ S''.secs.length = S.secs.length) := by
  rcases write_cl (B := pieceG s) h hb (fun i _ => Nat.le_trans (piece_le s i) (by decide)) with ⟨S', e, h', hn, _⟩ | ⟨S', e, off, _, hp⟩
  · exact .inl ⟨S', _, e, h', load_all fun i hi => upd_in _ _ hi, hn⟩
  · refine .inr ⟨S', e, off, fun picks => ?_⟩
    obtain ⟨S'', K', e2, h2, _, hn⟩ := hp picks
    exact ⟨S'', K', e2, h2, hn⟩
set_option maxHeartbeats 8000000 in
theorem tears_lawG (old s : ByteArray) (ar fu : Int) (hfu : -9223372036854775808 ≤ fu ∧ fu ≤ 9223372036854775807) (A : Option Addr) (l cap : Nat) (picks : List Int) (w : World) (hl : l = picks.length) (hr : Rd w w.heap.size A (ints picks)) (hp : ∀ y ∈ picks, y ≤ 9223372036854775807) (hpn : l ≤ 9223372036854775807) :
    Calls Try.prog 5 #[.string old, .string s, .int .i64 ar, .int .i64 fu, .slice A l cap] w (VE w (.bool true)) := by
  subst hl
  have HZ6 := hid size6
  have HN := hid (fun W => gnew_any W)
  have HAW := hid (fun W => awakeG_any W)
  obtain ⟨a, ha, ha1⟩ := and_leG ar 1 1 (by decide) (by decide)
  by_cases ho : 2500 < old.size
  · have hoi : (2500 : Int) < (old.size : Int) := by omega
    clear hr hp
    go_enter Try.func5, Try.ntmps5
    go_wp2_with (first
      | (go_at_call 6; refine (HAW.out _).mono ?_; rintro e wa ⟨rfl, hba⟩; have BA := hid hba; clear hba)
      | (go_at_call 7; refine (HN.out _).mono ?_; rintro e w1 ⟨p, gs, rfl, hd⟩; have BB := hid (BA.out.trans (hd.below.mono BA.out.size)); clear hd))
    go_ret
    exact ⟨rfl, BB.out⟩
  have hoi : ¬ (2500 : Int) < (old.size : Int) := by omega
  by_cases hs : 2500 < s.size
  · have hsi : (2500 : Int) < (s.size : Int) := by omega
    clear hr hp
    go_enter Try.func5, Try.ntmps5
    go_wp2_with (first
      | (go_at_call 6; refine (HAW.out _).mono ?_; rintro e wa ⟨rfl, hba⟩; have BA := hid hba; clear hba)
      | (go_at_call 7; refine (HN.out _).mono ?_; rintro e w1 ⟨p, gs, rfl, hd⟩; have BB := hid (BA.out.trans (hd.below.mono BA.out.size)); clear hd))
    go_ret
    exact ⟨rfl, BB.out⟩
  have hsi : ¬ (2500 : Int) < (s.size : Int) := by omega
  by_cases hs9 : 1920 < s.size
  · have hs9i : (1920 : Int) < (s.size : Int) := by omega
    have HS := hid (fun W => gsums_long s hs9 W)
    clear hr hp
    go_enter Try.func5, Try.ntmps5
    go_wp2_with (first
      | (go_at_call 6; refine (HAW.out _).mono ?_; rintro e wa ⟨rfl, hba⟩; have BA := hid hba; clear hba)
      | (go_at_call 7; refine (HN.out _).mono ?_; rintro e w1 ⟨p, gs, rfl, hd⟩; have H1 := hid hd; clear hd)
      | (go_at_call 8; refine (HS.out _).mono ?_; rintro e w2 ⟨rfl, hb2⟩; have H2 := hid (H1.out.new hb2).1; clear hb2)
      | (refine wpl_store_st rfl (.tmp 13) (.tmp 44) rfl (n := 6) HZ6.out w2.heap.size (sixL (fun _ => 0)).toArray (sixL (fun _ => 0)).toArray rfl rfl (Row.new _ _ _) ?_ (hid rfl) (hid rfl) (six_one _); intro w5 HR5 HB5; have R5 := hid HR5; have hb5 := ((Below.refl w2.heap.size w2).alloc (Nat.le_refl _) (.cells (sixL (fun _ => 0)).toArray 29)).trans (below_grown HB5 (Nat.le_refl _) (by simp)); have H5 := hid (H2.out.add hb5 (Nat.le_refl _) HR5.lt); clear HR5 HB5 hb5))
    go_ret
    exact ⟨rfl, BA.out.trans (H5.out.below.mono BA.out.size)⟩
  have hs9i : ¬ (1920 : Int) < (s.size : Int) := by omega
  have HS := hid (fun W => gsums_any s (by omega) W)
  have hm6 := cnt_six (s := sb s) (by rw [sb_len]; omega)
  obtain ⟨S1, x1, K1, HW1', h1, hn1, hc1⟩ := old_g old a ha1
  have HW1 := hid HW1'
  obtain ⟨S2, e2, h2, hs2, _⟩ := fuse_g h1 fu
  have hc2 : S2.count = S1.count := by
    have := fuse_count S1 fu
    rw [e2] at this
    exact this
  have HF : Hid (∀ (w0 W : World) (p gs : Nat) (G : List Nat), Dd w0 W p gs S1 G → Calls Try.prog 10 #[.pointer (some ⟨p, 0, none⟩), .int .i64 fu] W (DC w0 W p gs S2 G (.int .i64 0))) := hid fun w0 W p gs G hW => dd_fuse hW fu hfu.2 e2
  have hn2 : S2.secs.length = 32 := by rw [hs2, hn1]
  have hcw := writeG_count S2 (pieceG (sb s)) (20 + 6 * a) (cntG (sb s).length)
  have hsl : (sb s).length = s.size := sb_len s
  have HCT := hid (fun W => rcount_any s.size (by omega) W)
  rcases tears_gl (s := sb s) (base := 20 + 6 * a) h2 (by omega) with ⟨S3, K3, e3, h3, RR', hn3⟩ | ⟨S3, e3, hon3, hp3⟩
  · rw [e3] at hcw
    have hon3 : S3.on = true := h3.cl.on
    have HW2 : Hid (∀ (w0 W : World) (p gs : Nat) (G : List Nat), Dd w0 W p gs S2 G → Calls Try.prog 9 #[.pointer (some ⟨p, 0, none⟩), .int .i64 (a : Int), .string s] W (DC w0 W p gs S3 G (.int .i64 0))) := hid fun w0 W p gs G hW => by
      have h4 := gwrite_any hW (by omega) a ha1 s (by omega)
      rw [← sb_len, e3] at h4
      exact h4
    have HON : Hid (∀ (w0 W : World) (p gs : Nat) (G : List Nat), Dd w0 W p gs S3 G → Calls Try.prog 11 #[.pointer (some ⟨p, 0, none⟩)] W fun e w' => e = .returned (.bool true) ∧ W = w') := hid fun w0 W p gs G hW => by
      have := dd_on hW
      rw [hon3] at this
      exact this
    obtain ⟨t, ms, RR⟩ : ∃ t ms, loadK chG K3 (20 + 6 * a) (sb s).length (sumG chG (sb s)) = (t, ms) := ⟨_, _, rfl⟩
    have hms : ms = [] := by rw [RR'] at RR; exact (Prod.mk.inj RR).2.symm
    rcases tears_g RR with ⟨q, _⟩ | ⟨_, hlen, hsu, hbk⟩
    · exact absurd hms q
    have HL : Hid (∀ (w0 W : World) (p gs : Nat) (G : List Nat), Dd w0 W p gs S3 G → Calls Try.prog 13 #[.pointer (some ⟨p, 0, none⟩), .int .i64 (a : Int), .int .i64 (s.size : Int), .agg (sixL (sumG chG (sb s))).toArray] W fun e w' => ∃ v, e = .returned (.tuple #[.string ⟨t.toArray⟩, v, .int .i64 0]) ∧ Ms W w' v ms ∧ Below W.heap.size W w') := hid fun w0 W p gs G hW => by
      have h1 := gload_any hW (by simp only at hcw; omega) a ha1 h3 (by rw [hn3, hn2]) s.size (by omega) (sumG chG (sb s))
      rw [← hsl, RR] at h1
      rw [← hsl]
      exact h1
    have HBl : Hid (∀ (w0 W : World) (p gs : Nat) (G : List Nat) (k : Nat), Dd w0 W p gs S3 G → k < 6 → Calls Try.prog 19 #[.pointer (some ⟨p, 0, none⟩), .int .i64 (a : Int), .int .i64 (k : Int), .int .u64 (sumG chG (sb s) k)] W fun e w' => e = .returned (.tuple #[.string ⟨(blockK chG (K3 (20 + 6 * a + k)) k (sumG chG (sb s) k)).1.toArray⟩, .bool (blockK chG (K3 (20 + 6 * a + k)) k (sumG chG (sb s) k)).2, .int .i64 0]) ∧ Below W.heap.size W w') := hid fun w0 W p gs G k hW q => by
      have h1 := gblock_any hW (by simp only at hcw; omega) a k ha1 q _ (readJ h3.cl (k := 20 + 6 * a + k) (by omega)) (sumG chG (sb s) k)
      rw [block_kc (h3.ks (20 + 6 * a + k) (by omega))] at h1
      exact h1
    have HV : Hid (∀ W W' v, Ms W W' v ms → ∃ A6 cap6, v = .slice A6 0 cap6) := hid fun W W' v h => by
      subst hms
      exact h.nil
    have HSM : Hid (∀ k, k < 6 → (sixL (sumG chG (sb s)))[k]? = some (.int .u64 (sumG chG (sb s) k))) := hid fun k q => sixL_get _ q
    have HSQ : Hid (∀ W, Calls Try.prog 20 #[.string ⟨t.toArray⟩] W (VE W (.agg (sixL (sumG chG (sb s))).toArray))) := hid fun W => by
      have hsz : (⟨t.toArray⟩ : ByteArray).size = t.length := by simp [ByteArray.size]
      have h1 := summed_any ⟨t.toArray⟩ (by omega) W
      rw [sb_mk, six_congr (fun i _ => hsu i)] at h1
      exact h1
    have HTZ : Hid ((⟨t.toArray⟩ : ByteArray).size = s.size) := hid (by
      have hsz : (⟨t.toArray⟩ : ByteArray).size = t.length := by simp [ByteArray.size]
      omega)
    have HBK : Hid (∀ k, k < cntG s.size → blockK chG (K3 (20 + 6 * a + k)) k (sumG chG (sb s) k) = (pieceG t k, true)) := hid fun k q => hbk k (by rw [hsl]; exact q)
    have HEX : Hid (∀ k, k < cntG s.size → 320 * k ≤ s.size ∧ 320 * k + (pieceG t k).length ≤ s.size ∧ (⟨t.toArray⟩ : ByteArray).extract (320 * k) (320 * k + (pieceG t k).length) = ⟨(pieceG t k).toArray⟩) := hid fun k q => by
      have h1 := extract_piece ⟨t.toArray⟩ k
      have h2 := piece_len t k
      have h3 : wantG t.length k = min 320 (t.length - 320 * k) := rfl
      have h4 : cntG s.size = (s.size + 319) / 320 := rfl
      rw [HTZ.out, sb_mk] at h1
      rw [h2, h3, show t.length = s.size by omega]
      exact ⟨by omega, by omega, h1⟩
    generalize htb : (⟨t.toArray⟩ : ByteArray) = TB at *
    have hm6' : cntG s.size ≤ 6 := by rw [← hsl]; exact hm6
    generalize sumG chG (sb s) = sm at *
    generalize cntG s.size = m at *
    generalize Sp.mk0 32 = S0 at *
    clear hr hp RR h1 hn1 hc1 e2 h2 hs2 hc2 hn2 hcw hm6 HW1' e3 h3 RR' hn3 hon3 hms hlen hsu hbk htb
    go_enter Try.func5, Try.ntmps5
    go_wp2_with (first
      | (go_at_call 6; refine (HAW.out _).mono ?_; rintro e wa ⟨rfl, hba⟩; have BA := hid hba; clear hba)
      | (go_at_call 7; refine (HN.out _).mono ?_; rintro e w1 ⟨p, gs, rfl, hd⟩; have H1 := hid hd; clear hd)
      | (go_at_call 8; refine (HS.out _).mono ?_; rintro e w2 ⟨rfl, hb2⟩; have H2 := hid (H1.out.new hb2).1; clear hb2)
      | (refine wpl_store_st rfl (.tmp 13) (.tmp 44) rfl (n := 6) HZ6.out w2.heap.size (sixL (fun _ => 0)).toArray (sixL sm).toArray rfl rfl (Row.new _ _ _) ?_ (hid rfl) (hid rfl) (six_one _); intro w5 HR5 HB5; have R5 := hid HR5; have hb5 := ((Below.refl w2.heap.size w2).alloc (Nat.le_refl _) (.cells (sixL (fun _ => 0)).toArray 29)).trans (below_grown HB5 (Nat.le_refl _) (by simp)); have H5 := hid (H2.out.add hb5 (Nat.le_refl _) HR5.lt); clear HR5 HB5 hb5)
      | (go_at_call_of 9 (Value.string old); refine (HW1.out _ _ _ _ _ H5.out).mono ?_; rintro e w6 ⟨rfl, h6, k6⟩; have H6 := hid h6; have R6 := hid (k6.row R5.out (by simp)); clear h6 k6)
      | (go_at_call 10; refine (HF.out _ _ _ _ _ H6.out).mono ?_; rintro e w7 ⟨rfl, h7, k7⟩; have H7 := hid h7; have R7 := hid (k7.row R6.out (by simp)); clear h7 k7)
      | (go_at_call_of 9 (Value.string s); refine (HW2.out _ _ _ _ _ H7.out).mono ?_; rintro e w8 ⟨rfl, h8, k8⟩; have H8 := hid h8; have R8 := hid (k8.row R7.out (by simp)); clear h8 k8)
      | (go_at_call 11; refine (HON.out _ _ _ _ _ H8.out).mono ?_; rintro e w9 ⟨rfl, rfl⟩)
      | (refine wpList_load_row rfl 29 (.tmp 13) rfl w2.heap.size rfl 29 (sixL sm).toArray (0, 0) _ R8.out.arr Try.underlying29 rfl HZ6.out ?_)
      | (go_at_call 13; refine (HL.out _ _ _ _ _ H8.out).mono ?_; rintro e w10 ⟨v, rfl, hv, hb10⟩; obtain ⟨A6, cap6, rfl⟩ := HV.out _ _ _ hv; have hlt := R8.out.lt; have R10 := hid (R8.out.below hb10 hlt); have H10 := hid (H8.out.new hb10).1; have HB := hid (BA.out.trans (H10.out.below.mono BA.out.size)); clear hb10 hv hlt)
      | (go_at_call 14; refine (HCT.out _).mono ?_; rintro e w11 ⟨rfl, rfl⟩))
    go_loopw [19] (fun i wr => ∃ k : Nat, k ≤ m ∧ i = .int .i64 (k : Int) ∧ Below w10.heap.size w10 wr) (fun i _ => m - (intOf i).toNat)
    case atStart => exact ⟨0, Nat.zero_le _, rfl, Below.refl _ _⟩
    case round =>
      obtain ⟨k, hk, rfl, hbe⟩ := hrel
      have HBE := hid hbe
      have HD := hid (H10.out.new hbe).1
      have hr13 := R10.out.below hbe R10.out.lt
      have HR13 := hid hr13
      clear hbe
      by_cases hlt : k < m
      · have hli : (k : Int) < (m : Int) := by omega
        have h0k : (0 : Int) ≤ (k : Int) := by omega
        have hk6 : (k : Int) < 6 := by omega
        have hc1 : wr.cell? ⟨w2.heap.size, k, none⟩ = some (.int .u64 (sm k)) := (hr13.cell k).trans (HSM.out k (by omega))
        have HB1 := hid (HBl.out _ _ _ _ _ k HD.out (by omega))
        clear hr13
        rw [HBK.out k hlt] at HB1
        obtain ⟨hx1, hx2, hx3⟩ := HEX.out k hlt
        have hpz : (⟨(pieceG t k).toArray⟩ : ByteArray).size = (pieceG t k).length := by simp [ByteArray.size]
        have hpl := piece_le t k
        generalize (pieceG t k).length = n at *
        generalize (⟨(pieceG t k).toArray⟩ : ByteArray) = PB at *
        have e1 : IntKind.i64.wrap (320 * (k : Int)) = ((320 * k : Nat) : Int) := by rw [w64 (by omega) (by omega)]; omega
        have e3 : IntKind.i64.wrap (((320 * k : Nat) : Int) + (n : Int)) = ((320 * k + n : Nat) : Int) := by rw [w64 (by omega) (by omega)]; omega
        have e4 : IntKind.i64.wrap (320 * (k : Int) + (n : Int)) = 320 * (k : Int) + (n : Int) := w64 (by omega) (by omega)
        have e5 : IntKind.i64.wrap (320 * (k : Int)) = 320 * (k : Int) := w64 (by omega) (by omega)
        clear e1 e3
        have htz := HTZ.out
        go_wp2_with (first
          | (go_at_call 14; refine (HCT.out _).mono ?_; rintro e w11 ⟨rfl, rfl⟩)
          | (go_at_call 19; refine HB1.out.mono ?_; rintro e w12 ⟨rfl, hb12⟩; have HB12 := hid (HBE.out.trans (hb12.mono HBE.out.size)); clear hb12))
        go_roundw
        case rel => exact ⟨k + 1, by omega, by go_num, HB12.out⟩
        case measure => simp [intOf]; omega
      · obtain rfl : k = m := by omega
        go_wp2_with (go_at_call 14; refine (HCT.out _).mono ?_; rintro e w11 ⟨rfl, rfl⟩)
        refine wp_region_held_drew (S := fun W => Row W w2.heap.size 29 (sixL sm) ∧ Below w10.heap.size w10 W) (by kernel_rfl) (⟨HR13.out.drew, HBE.out.drew⟩) (fun hH => ?_)
        refine wpAnyH_take (i := 0) (v := .slice A6 0 cap6) rfl (by kernel_rfl) (by kernel_rfl) (by kernel_rfl) (fun _ _ _ h => h) (Or.inl ⟨by rfl, fun w' hw' => by clear hw'; go_simp⟩) hH ?_
        simp only [Act.put]
        refine wpAnyH_take (i := 1) (v := .int .i64 0) rfl (by kernel_rfl) (by kernel_rfl) (by kernel_rfl) (fun _ _ _ h => h) (Or.inl ⟨by rfl, fun w' hw' => by clear hw'; go_simp⟩) hH ?_
        simp only [Act.put]
        refine wpAnyH_take (i := 2) (v := .bool false) rfl (by kernel_rfl) (by kernel_rfl) (by kernel_rfl) (fun _ _ _ h => h) (Or.inl ⟨by rfl, fun w' hw' => by clear hw'; go_simp⟩) hH ?_
        simp only [Act.put]
        refine wpAnyH_take (i := 3) (v := .bool false) rfl (by kernel_rfl) (by kernel_rfl) (by kernel_rfl) (fun _ _ _ h => h) (Or.inl ⟨by rfl, fun w' hw' => by clear hw'; go_simp⟩) hH ?_
        simp only [Act.put]
        refine wpAnyH_take (i := 4) (v := undef) rfl (by kernel_rfl) (by kernel_rfl) (by kernel_rfl) (fun _ _ _ h => h) (Or.inr ⟨by kernel_rfl, rfl⟩) hH ?_
        simp only [Act.put]
        refine wpAnyH_take (i := 5) (v := undef) rfl (by kernel_rfl) (by kernel_rfl) (by kernel_rfl) (fun _ _ _ h => h) (Or.inr ⟨by kernel_rfl, rfl⟩) hH ?_
        simp only [Act.put]
        refine wpAnyH_take (i := 6) (v := .bool false) rfl (by kernel_rfl) (by kernel_rfl) (by kernel_rfl) (fun _ _ _ h => h) (Or.inl ⟨by kernel_rfl, fun w' _ => by kernel_rfl⟩) hH ?_
        simp only [Act.put]
        refine wpAnyH_take (i := 7) (v := .bool false) rfl (by kernel_rfl) (by kernel_rfl) (by kernel_rfl) (fun _ _ _ h => h) (Or.inl ⟨by kernel_rfl, fun w' _ => by kernel_rfl⟩) hH ?_
        simp only [Act.put]
        refine wpAnyH_take (i := 8) (v := .slice A6 0 cap6) rfl (by kernel_rfl) (by kernel_rfl) (by kernel_rfl) (fun _ _ _ h => h) (Or.inl ⟨by kernel_rfl, fun w' hw' => by clear hw'; go_simp⟩) hH ?_
        simp only [Act.put]
        refine wpAnyH_take (i := 9) (v := .int .i64 0) rfl (by kernel_rfl) (by kernel_rfl) (by kernel_rfl) (fun _ _ _ h => h) (Or.inl ⟨by kernel_rfl, fun w' hw' => by clear hw'; go_simp⟩) hH ?_
        simp only [Act.put]
        refine wpAnyH_take (i := 10) (v := .bool true) rfl (by kernel_rfl) (by kernel_rfl) (by kernel_rfl) (fun _ _ _ h => h) (Or.inl ⟨by kernel_rfl, fun w' hw' => by clear hw'; go_simp⟩) hH ?_
        simp only [Act.put]
        refine wpAnyH_take (i := 11) (v := .bool true) rfl (by kernel_rfl) (by kernel_rfl) (by kernel_rfl) (fun _ _ _ h => h) (Or.inl ⟨by kernel_rfl, fun w' hw' => by clear hw'; go_simp⟩) hH ?_
        simp only [Act.put]
        refine wpAnyH_take (i := 12) (v := .string TB) rfl (by kernel_rfl) (by kernel_rfl) (by kernel_rfl) (fun _ _ _ h => h) (Or.inl ⟨by kernel_rfl, fun w' hw' => by clear hw'; go_simp⟩) hH ?_
        simp only [Act.put]
        refine wpAnyH_take (i := 13) (v := .int .i64 (s.size : Int)) rfl (by kernel_rfl) (by kernel_rfl) (by kernel_rfl) (fun _ _ _ h => h) (Or.inl ⟨by kernel_rfl, fun w' hw' => by have h := HTZ.out; go_simp⟩) hH ?_
        simp only [Act.put]
        refine wpAnyH_take (i := 14) (v := .string s) rfl (by kernel_rfl) (by kernel_rfl) (by kernel_rfl) (fun _ _ _ h => h) (Or.inl ⟨by kernel_rfl, fun w' hw' => by clear hw'; go_simp⟩) hH ?_
        simp only [Act.put]
        refine wpAnyH_take (i := 15) (v := .int .i64 (s.size : Int)) rfl (by kernel_rfl) (by kernel_rfl) (by kernel_rfl) (fun _ _ _ h => h) (Or.inl ⟨by kernel_rfl, fun w' hw' => by clear hw'; go_simp⟩) hH ?_
        simp only [Act.put]
        refine wpAnyH_take (i := 16) (v := .bool true) rfl (by kernel_rfl) (by kernel_rfl) (by kernel_rfl) (fun _ _ _ h => h) (Or.inl ⟨by kernel_rfl, fun w' hw' => by clear hw'; go_simp⟩) hH ?_
        simp only [Act.put]
        refine wpAnyH_take (i := 17) (v := .bool true) rfl (by kernel_rfl) (by kernel_rfl) (by kernel_rfl) (fun _ _ _ h => h) (Or.inl ⟨by kernel_rfl, fun w' hw' => by clear hw'; go_simp⟩) hH ?_
        simp only [Act.put]
        refine wpAnyH_take (i := 18) (v := .bool true) rfl (by kernel_rfl) (by kernel_rfl) (by kernel_rfl) (fun _ _ _ h => h) (Or.inl ⟨by kernel_rfl, fun w' hw' => by clear hw'; go_simp⟩) hH ?_
        simp only [Act.put]
        refine wpAnyH_take (i := 19) (v := .string TB) rfl (by kernel_rfl) (by kernel_rfl) (by kernel_rfl) (fun _ _ _ h => h) (Or.inl ⟨by kernel_rfl, fun w' hw' => by clear hw'; go_simp⟩) hH ?_
        simp only [Act.put]
        refine wpAnyH_take (i := 21) (v := .agg (sixL sm).toArray) rfl (by kernel_rfl) (by kernel_rfl) (by kernel_rfl) (fun _ _ _ h => h) ?_ hH ?_
        · refine yieldsIf_load_mid ?_ 29 (.tmp 13) ?_ w2.heap.size 0 ?_ (sixL sm) _ (fun W hW => hW.1.range6) Try.underlying29 rfl (by exact HZ6.out)
          all_goals kernel_rfl
        simp only [Act.put]
        refine wpAnyH_ready (rs := [20]) (by kernel_rfl) (by simp) ?_
        refine AllReadyH.cons rfl (fun K hK => ?_) AllReadyH.nil
        rw [if_pos (by kernel_rfl)]
        go_simp
        go_at_call 20
        refine (HSQ.out _).mono ?_
        rintro e w13 ⟨rfl, hb13⟩
        go_wp2_with fail
        refine hK.out _ _ (⟨hH.1.below hb13 hH.1.lt, hH.2.trans (hb13.mono hH.2.size)⟩) (fun hH => ?_)
        clear hK K
        try simp only [Act.put]
        refine wpAnyH_take (i := 22) (v := .bool true) rfl (by kernel_rfl) (by kernel_rfl) (by kernel_rfl) (fun _ _ _ h => h) (yields_eq6 (by kernel_rfl) sm (.tmp 146) (.tmp 147) _ rfl (by kernel_rfl) (by kernel_rfl)) hH ?_
        simp only [Act.put]
        refine wpAnyH_take (i := 23) (v := .bool true) rfl (by kernel_rfl) (by kernel_rfl) (by kernel_rfl) (fun _ _ _ h => h) (Or.inl ⟨by kernel_rfl, fun w' _ => by kernel_rfl⟩) hH ?_
        simp only [Act.put]
        refine wpAnyH_take (i := 24) (v := .bool true) rfl (by kernel_rfl) (by kernel_rfl) (by kernel_rfl) (fun _ _ _ h => h) (Or.inl ⟨by kernel_rfl, fun w' _ => by kernel_rfl⟩) hH ?_
        simp only [Act.put]
        refine wpAnyH_ready (rs := [25]) (by kernel_rfl) (by simp) ?_
        refine AllReadyH.cons rfl (fun K hK => ?_) AllReadyH.nil
        go_simp
        refine hK.out _ _ (hH) (fun hH => ?_)
        clear hK K
        try simp only [Act.put]
        refine wpAnyH_done (by kernel_rfl) ?_ _
        try simp only [Act.put]
        go_wp2_with fail
        go_ret
        exact ⟨rfl, HB.out.trans (hH.2.mono HB.out.size)⟩
  · rw [e3] at hcw
    obtain ⟨S4, K4, e4, h4, hn4⟩ := hp3 picks
    have hc4 : S4.count = S3.count := by
      have := start_count S3 picks
      rw [e4] at this
      exact this
    have HW2 : Hid (∀ (w0 W : World) (p gs : Nat) (G : List Nat), Dd w0 W p gs S2 G → Calls Try.prog 9 #[.pointer (some ⟨p, 0, none⟩), .int .i64 (a : Int), .string s] W (DC w0 W p gs S3 G (.int .i64 6))) := hid fun w0 W p gs G hW => by
      have h4 := gwrite_any hW (by omega) a ha1 s (by omega)
      rw [← sb_len, e3] at h4
      exact h4
    have HON : Hid (∀ (w0 W : World) (p gs : Nat) (G : List Nat), Dd w0 W p gs S3 G → Calls Try.prog 11 #[.pointer (some ⟨p, 0, none⟩)] W fun e w' => e = .returned (.bool false) ∧ W = w') := hid fun w0 W p gs G hW => by
      have := dd_on hW
      rw [hon3] at this
      exact this
    have HST : Hid (∀ (w0 : World), Below w.heap.size w w0 → ∀ (W : World) (p gs : Nat) (G : List Nat), Dd w0 W p gs S3 G → Calls Try.prog 12 #[.pointer (some ⟨p, 0, none⟩), .slice A picks.length cap] W (DC w0 W p gs S4 G (.int .i64 0))) := hid fun w0 hb0 W p gs G hW => dd_startG hW (by simp only at hcw; omega) picks A picks.length cap w.heap.size w hb0 hb0.size rfl hr hp (by omega) e4
    obtain ⟨t, ms, RR⟩ : ∃ t ms, loadK chG K4 (20 + 6 * a) (sb s).length (sumG chG (sb s)) = (t, ms) := ⟨_, _, rfl⟩
    rcases tears_g RR with ⟨hms, ht⟩ | ⟨hms, hlen, hsu, hbk⟩
    · have HL : Hid (∀ (w0 W : World) (p gs : Nat) (G : List Nat), Dd w0 W p gs S4 G → Calls Try.prog 13 #[.pointer (some ⟨p, 0, none⟩), .int .i64 (a : Int), .int .i64 (s.size : Int), .agg (sixL (sumG chG (sb s))).toArray] W fun e w' => ∃ v, e = .returned (.tuple #[.string ⟨t.toArray⟩, v, .int .i64 0]) ∧ Ms W w' v ms ∧ Below W.heap.size W w') := hid fun w0 W p gs G hW => by
        have h1 := gload_any hW (by simp only at hcw hc4; omega) a ha1 h4 (by rw [hn4, hn2]) s.size (by omega) (sumG chG (sb s))
        rw [← hsl, RR] at h1
        rw [← hsl]
        exact h1
      have HBl : Hid (∀ (w0 W : World) (p gs : Nat) (G : List Nat) (k : Nat), Dd w0 W p gs S4 G → k < 6 → Calls Try.prog 19 #[.pointer (some ⟨p, 0, none⟩), .int .i64 (a : Int), .int .i64 (k : Int), .int .u64 (sumG chG (sb s) k)] W fun e w' => e = .returned (.tuple #[.string ⟨(blockK chG (K4 (20 + 6 * a + k)) k (sumG chG (sb s) k)).1.toArray⟩, .bool (blockK chG (K4 (20 + 6 * a + k)) k (sumG chG (sb s) k)).2, .int .i64 0]) ∧ Below W.heap.size W w') := hid fun w0 W p gs G k hW q => by
        have h1 := gblock_any hW (by simp only at hcw hc4; omega) a k ha1 q _ (readJ h4.cl (k := 20 + 6 * a + k) (by omega)) (sumG chG (sb s) k)
        rw [block_kc (h4.ks (20 + 6 * a + k) (by omega))] at h1
        exact h1
      have HV : Hid (∀ W W' v, Ms W W' v ms → ∃ A6 cap6, v = .slice A6 ms.length cap6) := hid fun W W' v h => by
        rcases h with ⟨e, _⟩ | ⟨g, c, e, _⟩
        · exact absurd e hms
        · exact ⟨_, _, e⟩
      have HSM : Hid (∀ k, k < 6 → (sixL (sumG chG (sb s)))[k]? = some (.int .u64 (sumG chG (sb s) k))) := hid fun k q => sixL_get _ q
      have hm6' : cntG s.size ≤ 6 := by rw [← hsl]; exact hm6
      generalize sumG chG (sb s) = sm at *
      generalize cntG s.size = m at *
      generalize Sp.mk0 32 = S0 at *
      clear hr hp RR h1 hn1 hc1 e2 h2 hs2 hc2 hn2 hcw hm6 HW1' e3 hon3 hp3 e4 h4 hn4 hc4 
      have hpos : (0 : Int) < (ms.length : Int) := by have := List.length_pos_iff.2 hms; omega
      have hne0 : ((ms.length : Int) == 0) = false := by simpa using hms
      have hpn0 : 0 < ms.length := List.length_pos_iff.2 hms
      subst ht
      go_enter Try.func5, Try.ntmps5
      go_wp2_with (first
        | (go_at_call 6; refine (HAW.out _).mono ?_; rintro e wa ⟨rfl, hba⟩; have BA := hid hba; clear hba)
        | (go_at_call 7; refine (HN.out _).mono ?_; rintro e w1 ⟨p, gs, rfl, hd⟩; have H1 := hid hd; clear hd)
        | (go_at_call 8; refine (HS.out _).mono ?_; rintro e w2 ⟨rfl, hb2⟩; have H2 := hid (H1.out.new hb2).1; clear hb2)
        | (refine wpl_store_st rfl (.tmp 13) (.tmp 44) rfl (n := 6) HZ6.out w2.heap.size (sixL (fun _ => 0)).toArray (sixL sm).toArray rfl rfl (Row.new _ _ _) ?_ (hid rfl) (hid rfl) (six_one _); intro w5 HR5 HB5; have R5 := hid HR5; have hb5 := ((Below.refl w2.heap.size w2).alloc (Nat.le_refl _) (.cells (sixL (fun _ => 0)).toArray 29)).trans (below_grown HB5 (Nat.le_refl _) (by simp)); have H5 := hid (H2.out.add hb5 (Nat.le_refl _) HR5.lt); clear HR5 HB5 hb5)
        | (go_at_call_of 9 (Value.string old); refine (HW1.out _ _ _ _ _ H5.out).mono ?_; rintro e w6 ⟨rfl, h6, k6⟩; have H6 := hid h6; have R6 := hid (k6.row R5.out (by simp)); clear h6 k6)
        | (go_at_call 10; refine (HF.out _ _ _ _ _ H6.out).mono ?_; rintro e w7 ⟨rfl, h7, k7⟩; have H7 := hid h7; have R7 := hid (k7.row R6.out (by simp)); clear h7 k7)
        | (go_at_call_of 9 (Value.string s); refine (HW2.out _ _ _ _ _ H7.out).mono ?_; rintro e w8 ⟨rfl, h8, k8⟩; have H8 := hid h8; have R8 := hid (k8.row R7.out (by simp)); clear h8 k8)
        | (go_at_call 11; refine (HON.out _ _ _ _ _ H8.out).mono ?_; rintro e w9 ⟨rfl, rfl⟩)
        | (go_at_call 12; refine (HST.out wa BA.out _ _ _ _ H8.out).mono ?_; rintro e w9 ⟨rfl, h9, k9⟩; have H9 := hid h9; have R9 := hid (k9.row R8.out (by simp)); clear h9 k9)
        | (refine wpList_load_row rfl 29 (.tmp 13) rfl w2.heap.size rfl 29 (sixL sm).toArray (0, 0) _ R9.out.arr Try.underlying29 rfl HZ6.out ?_)
        | (go_at_call 13; refine (HL.out _ _ _ _ _ H9.out).mono ?_; rintro e w10 ⟨v, rfl, hv, hb10⟩; obtain ⟨A6, cap6, rfl⟩ := HV.out _ _ _ hv; have hlt := R9.out.lt; have R10 := hid (R9.out.below hb10 hlt); have H10 := hid (H9.out.new hb10).1; have HB := hid (BA.out.trans (H10.out.below.mono BA.out.size)); clear hb10 hv hlt)
        | (go_at_call 14; refine (HCT.out _).mono ?_; rintro e w11 ⟨rfl, rfl⟩))
      go_loopw [19] (fun i wr => ∃ k : Nat, k ≤ m ∧ i = .int .i64 (k : Int) ∧ Below w10.heap.size w10 wr) (fun i _ => m - (intOf i).toNat)
      case atStart => exact ⟨0, Nat.zero_le _, rfl, Below.refl _ _⟩
      case round =>
        obtain ⟨k, hk, rfl, hbe⟩ := hrel
        have HBE := hid hbe
        have HD := hid (H10.out.new hbe).1
        have hr13 := R10.out.below hbe R10.out.lt
        have HR13 := hid hr13
        clear hbe
        by_cases hlt : k < m
        · have hli : (k : Int) < (m : Int) := by omega
          have h0k : (0 : Int) ≤ (k : Int) := by omega
          have hk6 : (k : Int) < 6 := by omega
          have hc1 : wr.cell? ⟨w2.heap.size, k, none⟩ = some (.int .u64 (sm k)) := (hr13.cell k).trans (HSM.out k (by omega))
          have HB1 := hid (HBl.out _ _ _ _ _ k HD.out (by omega))
          clear hr13
          generalize blockK chG (K4 (20 + 6 * a + k)) k (sm k) = BO at *
          obtain ⟨bb, is⟩ := BO
          simp only at HB1
          cases is with
          | false =>
            go_wp2_with (first
              | (go_at_call 14; refine (HCT.out _).mono ?_; rintro e w11 ⟨rfl, rfl⟩)
              | (go_at_call 19; refine HB1.out.mono ?_; rintro e w12 ⟨rfl, hb12⟩; have HB12 := hid (HBE.out.trans (hb12.mono HBE.out.size)); clear hb12))
            go_roundw
            case rel => exact ⟨k + 1, by omega, by go_num, HB12.out⟩
            case measure => simp [intOf]; omega
          | true =>
            go_wp2_with (first
              | (go_at_call 14; refine (HCT.out _).mono ?_; rintro e w11 ⟨rfl, rfl⟩)
              | (go_at_call 19; refine HB1.out.mono ?_; rintro e w12 ⟨rfl, hb12⟩; have HB12 := hid (HBE.out.trans (hb12.mono HBE.out.size)); clear hb12))
            go_roundw
            case rel => exact ⟨k + 1, by omega, by go_num, HB12.out⟩
            case measure => simp [intOf]; omega
        · obtain rfl : k = m := by omega
          go_wp2_with (go_at_call 14; refine (HCT.out _).mono ?_; rintro e w11 ⟨rfl, rfl⟩)
          refine wp_region_held_drew (S := fun W => Row W w2.heap.size 29 (sixL sm) ∧ Below w10.heap.size w10 W) (by kernel_rfl) (⟨HR13.out.drew, HBE.out.drew⟩) (fun hH => ?_)
          refine wpAnyH_take (i := 0) (v := .slice A6 ms.length cap6) rfl (by kernel_rfl) (by kernel_rfl) (by kernel_rfl) (fun _ _ _ h => h) (Or.inl ⟨by rfl, fun w' hw' => by clear hw'; go_simp⟩) hH ?_
          simp only [Act.put]
          refine wpAnyH_take (i := 1) (v := .int .i64 (ms.length : Int)) rfl (by kernel_rfl) (by kernel_rfl) (by kernel_rfl) (fun _ _ _ h => h) (Or.inl ⟨by rfl, fun w' hw' => by clear hw'; go_simp⟩) hH ?_
          simp only [Act.put]
          refine wpAnyH_take (i := 2) (v := .bool true) rfl (by kernel_rfl) (by kernel_rfl) (by kernel_rfl) (fun _ _ _ h => h) (Or.inl ⟨by rfl, fun w' hw' => by have h := hpn0; go_simp⟩) hH ?_
          simp only [Act.put]
          refine wpAnyH_take (i := 3) (v := .bool true) rfl (by kernel_rfl) (by kernel_rfl) (by kernel_rfl) (fun _ _ _ h => h) (Or.inl ⟨by rfl, fun w' hw' => by clear hw'; go_simp⟩) hH ?_
          simp only [Act.put]
          refine wpAnyH_take (i := 4) (v := .string ⟨#[]⟩) rfl (by kernel_rfl) (by kernel_rfl) (by kernel_rfl) (fun _ _ _ h => h) (Or.inl ⟨by kernel_rfl, fun w' hw' => by clear hw'; go_simp⟩) hH ?_
          simp only [Act.put]
          refine wpAnyH_take (i := 5) (v := .bool true) rfl (by kernel_rfl) (by kernel_rfl) (by kernel_rfl) (fun _ _ _ h => h) (Or.inl ⟨by kernel_rfl, fun w' hw' => by clear hw'; go_simp⟩) hH ?_
          simp only [Act.put]
          refine wpAnyH_take (i := 6) (v := .bool true) rfl (by kernel_rfl) (by kernel_rfl) (by kernel_rfl) (fun _ _ _ h => h) (Or.inl ⟨by kernel_rfl, fun w' _ => by kernel_rfl⟩) hH ?_
          simp only [Act.put]
          refine wpAnyH_take (i := 7) (v := .bool true) rfl (by kernel_rfl) (by kernel_rfl) (by kernel_rfl) (fun _ _ _ h => h) (Or.inl ⟨by kernel_rfl, fun w' _ => by kernel_rfl⟩) hH ?_
          simp only [Act.put]
          refine wpAnyH_take (i := 8) (v := undef) rfl (by kernel_rfl) (by kernel_rfl) (by kernel_rfl) (fun _ _ _ h => h) (Or.inr ⟨by kernel_rfl, rfl⟩) hH ?_
          simp only [Act.put]
          refine wpAnyH_take (i := 9) (v := undef) rfl (by kernel_rfl) (by kernel_rfl) (by kernel_rfl) (fun _ _ _ h => h) (Or.inr ⟨by kernel_rfl, rfl⟩) hH ?_
          simp only [Act.put]
          refine wpAnyH_take (i := 10) (v := undef) rfl (by kernel_rfl) (by kernel_rfl) (by kernel_rfl) (fun _ _ _ h => h) (Or.inr ⟨by kernel_rfl, rfl⟩) hH ?_
          simp only [Act.put]
          refine wpAnyH_take (i := 11) (v := undef) rfl (by kernel_rfl) (by kernel_rfl) (by kernel_rfl) (fun _ _ _ h => h) (Or.inr ⟨by kernel_rfl, rfl⟩) hH ?_
          simp only [Act.put]
          refine wpAnyH_take (i := 12) (v := undef) rfl (by kernel_rfl) (by kernel_rfl) (by kernel_rfl) (fun _ _ _ h => h) (Or.inr ⟨by kernel_rfl, rfl⟩) hH ?_
          simp only [Act.put]
          refine wpAnyH_take (i := 13) (v := undef) rfl (by kernel_rfl) (by kernel_rfl) (by kernel_rfl) (fun _ _ _ h => h) (Or.inr ⟨by kernel_rfl, rfl⟩) hH ?_
          simp only [Act.put]
          refine wpAnyH_take (i := 14) (v := undef) rfl (by kernel_rfl) (by kernel_rfl) (by kernel_rfl) (fun _ _ _ h => h) (Or.inr ⟨by kernel_rfl, rfl⟩) hH ?_
          simp only [Act.put]
          refine wpAnyH_take (i := 15) (v := undef) rfl (by kernel_rfl) (by kernel_rfl) (by kernel_rfl) (fun _ _ _ h => h) (Or.inr ⟨by kernel_rfl, rfl⟩) hH ?_
          simp only [Act.put]
          refine wpAnyH_take (i := 16) (v := undef) rfl (by kernel_rfl) (by kernel_rfl) (by kernel_rfl) (fun _ _ _ h => h) (Or.inr ⟨by kernel_rfl, rfl⟩) hH ?_
          simp only [Act.put]
          refine wpAnyH_take (i := 17) (v := undef) rfl (by kernel_rfl) (by kernel_rfl) (by kernel_rfl) (fun _ _ _ h => h) (Or.inr ⟨by kernel_rfl, rfl⟩) hH ?_
          simp only [Act.put]
          refine wpAnyH_take (i := 18) (v := undef) rfl (by kernel_rfl) (by kernel_rfl) (by kernel_rfl) (fun _ _ _ h => h) (Or.inr ⟨by kernel_rfl, rfl⟩) hH ?_
          simp only [Act.put]
          refine wpAnyH_take (i := 19) (v := undef) rfl (by kernel_rfl) (by kernel_rfl) (by kernel_rfl) (fun _ _ _ h => h) (Or.inr ⟨by kernel_rfl, rfl⟩) hH ?_
          simp only [Act.put]
          refine wpAnyH_take (i := 20) (v := undef) rfl (by kernel_rfl) (by kernel_rfl) (by kernel_rfl) (fun _ _ _ h => h) (Or.inr ⟨by kernel_rfl, rfl⟩) hH ?_
          simp only [Act.put]
          refine wpAnyH_take (i := 21) (v := undef) rfl (by kernel_rfl) (by kernel_rfl) (by kernel_rfl) (fun _ _ _ h => h) (Or.inr ⟨by kernel_rfl, rfl⟩) hH ?_
          simp only [Act.put]
          refine wpAnyH_take (i := 22) (v := undef) rfl (by kernel_rfl) (by kernel_rfl) (by kernel_rfl) (fun _ _ _ h => h) (Or.inr ⟨by kernel_rfl, rfl⟩) hH ?_
          simp only [Act.put]
          refine wpAnyH_take (i := 23) (v := undef) rfl (by kernel_rfl) (by kernel_rfl) (by kernel_rfl) (fun _ _ _ h => h) (Or.inr ⟨by kernel_rfl, rfl⟩) hH ?_
          simp only [Act.put]
          refine wpAnyH_take (i := 24) (v := .bool true) rfl (by kernel_rfl) (by kernel_rfl) (by kernel_rfl) (fun _ _ _ h => h) (Or.inl ⟨by kernel_rfl, fun w' _ => by kernel_rfl⟩) hH ?_
          simp only [Act.put]
          refine wpAnyH_ready (rs := [25]) (by kernel_rfl) (by simp) ?_
          refine AllReadyH.cons rfl (fun K hK => ?_) AllReadyH.nil
          go_simp
          refine hK.out _ _ (hH) (fun hH => ?_)
          clear hK K
          try simp only [Act.put]
          refine wpAnyH_done (by kernel_rfl) ?_ _
          try simp only [Act.put]
          go_wp2_with fail
          go_ret
          exact ⟨rfl, HB.out.trans (hH.2.mono HB.out.size)⟩
    · have HL : Hid (∀ (w0 W : World) (p gs : Nat) (G : List Nat), Dd w0 W p gs S4 G → Calls Try.prog 13 #[.pointer (some ⟨p, 0, none⟩), .int .i64 (a : Int), .int .i64 (s.size : Int), .agg (sixL (sumG chG (sb s))).toArray] W fun e w' => ∃ v, e = .returned (.tuple #[.string ⟨t.toArray⟩, v, .int .i64 0]) ∧ Ms W w' v ms ∧ Below W.heap.size W w') := hid fun w0 W p gs G hW => by
        have h1 := gload_any hW (by simp only at hcw hc4; omega) a ha1 h4 (by rw [hn4, hn2]) s.size (by omega) (sumG chG (sb s))
        rw [← hsl, RR] at h1
        rw [← hsl]
        exact h1
      have HBl : Hid (∀ (w0 W : World) (p gs : Nat) (G : List Nat) (k : Nat), Dd w0 W p gs S4 G → k < 6 → Calls Try.prog 19 #[.pointer (some ⟨p, 0, none⟩), .int .i64 (a : Int), .int .i64 (k : Int), .int .u64 (sumG chG (sb s) k)] W fun e w' => e = .returned (.tuple #[.string ⟨(blockK chG (K4 (20 + 6 * a + k)) k (sumG chG (sb s) k)).1.toArray⟩, .bool (blockK chG (K4 (20 + 6 * a + k)) k (sumG chG (sb s) k)).2, .int .i64 0]) ∧ Below W.heap.size W w') := hid fun w0 W p gs G k hW q => by
        have h1 := gblock_any hW (by simp only at hcw hc4; omega) a k ha1 q _ (readJ h4.cl (k := 20 + 6 * a + k) (by omega)) (sumG chG (sb s) k)
        rw [block_kc (h4.ks (20 + 6 * a + k) (by omega))] at h1
        exact h1
      have HV : Hid (∀ W W' v, Ms W W' v ms → ∃ A6 cap6, v = .slice A6 0 cap6) := hid fun W W' v h => by
        subst hms
        exact h.nil
      have HSM : Hid (∀ k, k < 6 → (sixL (sumG chG (sb s)))[k]? = some (.int .u64 (sumG chG (sb s) k))) := hid fun k q => sixL_get _ q
      have HSQ : Hid (∀ W, Calls Try.prog 20 #[.string ⟨t.toArray⟩] W (VE W (.agg (sixL (sumG chG (sb s))).toArray))) := hid fun W => by
        have hsz : (⟨t.toArray⟩ : ByteArray).size = t.length := by simp [ByteArray.size]
        have h1 := summed_any ⟨t.toArray⟩ (by omega) W
        rw [sb_mk, six_congr (fun i _ => hsu i)] at h1
        exact h1
      have HTZ : Hid ((⟨t.toArray⟩ : ByteArray).size = s.size) := hid (by
        have hsz : (⟨t.toArray⟩ : ByteArray).size = t.length := by simp [ByteArray.size]
        omega)
      have HBK : Hid (∀ k, k < cntG s.size → blockK chG (K4 (20 + 6 * a + k)) k (sumG chG (sb s) k) = (pieceG t k, true)) := hid fun k q => hbk k (by rw [hsl]; exact q)
      have HEX : Hid (∀ k, k < cntG s.size → 320 * k ≤ s.size ∧ 320 * k + (pieceG t k).length ≤ s.size ∧ (⟨t.toArray⟩ : ByteArray).extract (320 * k) (320 * k + (pieceG t k).length) = ⟨(pieceG t k).toArray⟩) := hid fun k q => by
        have h1 := extract_piece ⟨t.toArray⟩ k
        have h2 := piece_len t k
        have h3 : wantG t.length k = min 320 (t.length - 320 * k) := rfl
        have h4 : cntG s.size = (s.size + 319) / 320 := rfl
        rw [HTZ.out, sb_mk] at h1
        rw [h2, h3, show t.length = s.size by omega]
        exact ⟨by omega, by omega, h1⟩
      generalize htb : (⟨t.toArray⟩ : ByteArray) = TB at *
      have hm6' : cntG s.size ≤ 6 := by rw [← hsl]; exact hm6
      generalize sumG chG (sb s) = sm at *
      generalize cntG s.size = m at *
      generalize Sp.mk0 32 = S0 at *
      clear hr hp RR h1 hn1 hc1 e2 h2 hs2 hc2 hn2 hcw hm6 HW1' e3 hon3 hp3 e4 h4 hn4 hc4 hms hlen hsu hbk htb
      go_enter Try.func5, Try.ntmps5
      go_wp2_with (first
        | (go_at_call 6; refine (HAW.out _).mono ?_; rintro e wa ⟨rfl, hba⟩; have BA := hid hba; clear hba)
        | (go_at_call 7; refine (HN.out _).mono ?_; rintro e w1 ⟨p, gs, rfl, hd⟩; have H1 := hid hd; clear hd)
        | (go_at_call 8; refine (HS.out _).mono ?_; rintro e w2 ⟨rfl, hb2⟩; have H2 := hid (H1.out.new hb2).1; clear hb2)
        | (refine wpl_store_st rfl (.tmp 13) (.tmp 44) rfl (n := 6) HZ6.out w2.heap.size (sixL (fun _ => 0)).toArray (sixL sm).toArray rfl rfl (Row.new _ _ _) ?_ (hid rfl) (hid rfl) (six_one _); intro w5 HR5 HB5; have R5 := hid HR5; have hb5 := ((Below.refl w2.heap.size w2).alloc (Nat.le_refl _) (.cells (sixL (fun _ => 0)).toArray 29)).trans (below_grown HB5 (Nat.le_refl _) (by simp)); have H5 := hid (H2.out.add hb5 (Nat.le_refl _) HR5.lt); clear HR5 HB5 hb5)
        | (go_at_call_of 9 (Value.string old); refine (HW1.out _ _ _ _ _ H5.out).mono ?_; rintro e w6 ⟨rfl, h6, k6⟩; have H6 := hid h6; have R6 := hid (k6.row R5.out (by simp)); clear h6 k6)
        | (go_at_call 10; refine (HF.out _ _ _ _ _ H6.out).mono ?_; rintro e w7 ⟨rfl, h7, k7⟩; have H7 := hid h7; have R7 := hid (k7.row R6.out (by simp)); clear h7 k7)
        | (go_at_call_of 9 (Value.string s); refine (HW2.out _ _ _ _ _ H7.out).mono ?_; rintro e w8 ⟨rfl, h8, k8⟩; have H8 := hid h8; have R8 := hid (k8.row R7.out (by simp)); clear h8 k8)
        | (go_at_call 11; refine (HON.out _ _ _ _ _ H8.out).mono ?_; rintro e w9 ⟨rfl, rfl⟩)
        | (go_at_call 12; refine (HST.out wa BA.out _ _ _ _ H8.out).mono ?_; rintro e w9 ⟨rfl, h9, k9⟩; have H9 := hid h9; have R9 := hid (k9.row R8.out (by simp)); clear h9 k9)
        | (refine wpList_load_row rfl 29 (.tmp 13) rfl w2.heap.size rfl 29 (sixL sm).toArray (0, 0) _ R9.out.arr Try.underlying29 rfl HZ6.out ?_)
        | (go_at_call 13; refine (HL.out _ _ _ _ _ H9.out).mono ?_; rintro e w10 ⟨v, rfl, hv, hb10⟩; obtain ⟨A6, cap6, rfl⟩ := HV.out _ _ _ hv; have hlt := R9.out.lt; have R10 := hid (R9.out.below hb10 hlt); have H10 := hid (H9.out.new hb10).1; have HB := hid (BA.out.trans (H10.out.below.mono BA.out.size)); clear hb10 hv hlt)
        | (go_at_call 14; refine (HCT.out _).mono ?_; rintro e w11 ⟨rfl, rfl⟩))
      go_loopw [19] (fun i wr => ∃ k : Nat, k ≤ m ∧ i = .int .i64 (k : Int) ∧ Below w10.heap.size w10 wr) (fun i _ => m - (intOf i).toNat)
      case atStart => exact ⟨0, Nat.zero_le _, rfl, Below.refl _ _⟩
      case round =>
        obtain ⟨k, hk, rfl, hbe⟩ := hrel
        have HBE := hid hbe
        have HD := hid (H10.out.new hbe).1
        have hr13 := R10.out.below hbe R10.out.lt
        have HR13 := hid hr13
        clear hbe
        by_cases hlt : k < m
        · have hli : (k : Int) < (m : Int) := by omega
          have h0k : (0 : Int) ≤ (k : Int) := by omega
          have hk6 : (k : Int) < 6 := by omega
          have hc1 : wr.cell? ⟨w2.heap.size, k, none⟩ = some (.int .u64 (sm k)) := (hr13.cell k).trans (HSM.out k (by omega))
          have HB1 := hid (HBl.out _ _ _ _ _ k HD.out (by omega))
          clear hr13
          rw [HBK.out k hlt] at HB1
          obtain ⟨hx1, hx2, hx3⟩ := HEX.out k hlt
          have hpz : (⟨(pieceG t k).toArray⟩ : ByteArray).size = (pieceG t k).length := by simp [ByteArray.size]
          have hpl := piece_le t k
          generalize (pieceG t k).length = n at *
          generalize (⟨(pieceG t k).toArray⟩ : ByteArray) = PB at *
          have e1 : IntKind.i64.wrap (320 * (k : Int)) = ((320 * k : Nat) : Int) := by rw [w64 (by omega) (by omega)]; omega
          have e3 : IntKind.i64.wrap (((320 * k : Nat) : Int) + (n : Int)) = ((320 * k + n : Nat) : Int) := by rw [w64 (by omega) (by omega)]; omega
          have e4 : IntKind.i64.wrap (320 * (k : Int) + (n : Int)) = 320 * (k : Int) + (n : Int) := w64 (by omega) (by omega)
          have e5 : IntKind.i64.wrap (320 * (k : Int)) = 320 * (k : Int) := w64 (by omega) (by omega)
          clear e1 e3
          have htz := HTZ.out
          go_wp2_with (first
            | (go_at_call 14; refine (HCT.out _).mono ?_; rintro e w11 ⟨rfl, rfl⟩)
            | (go_at_call 19; refine HB1.out.mono ?_; rintro e w12 ⟨rfl, hb12⟩; have HB12 := hid (HBE.out.trans (hb12.mono HBE.out.size)); clear hb12))
          go_roundw
          case rel => exact ⟨k + 1, by omega, by go_num, HB12.out⟩
          case measure => simp [intOf]; omega
        · obtain rfl : k = m := by omega
          go_wp2_with (go_at_call 14; refine (HCT.out _).mono ?_; rintro e w11 ⟨rfl, rfl⟩)
          refine wp_region_held_drew (S := fun W => Row W w2.heap.size 29 (sixL sm) ∧ Below w10.heap.size w10 W) (by kernel_rfl) (⟨HR13.out.drew, HBE.out.drew⟩) (fun hH => ?_)
          refine wpAnyH_take (i := 0) (v := .slice A6 0 cap6) rfl (by kernel_rfl) (by kernel_rfl) (by kernel_rfl) (fun _ _ _ h => h) (Or.inl ⟨by rfl, fun w' hw' => by clear hw'; go_simp⟩) hH ?_
          simp only [Act.put]
          refine wpAnyH_take (i := 1) (v := .int .i64 0) rfl (by kernel_rfl) (by kernel_rfl) (by kernel_rfl) (fun _ _ _ h => h) (Or.inl ⟨by rfl, fun w' hw' => by clear hw'; go_simp⟩) hH ?_
          simp only [Act.put]
          refine wpAnyH_take (i := 2) (v := .bool false) rfl (by kernel_rfl) (by kernel_rfl) (by kernel_rfl) (fun _ _ _ h => h) (Or.inl ⟨by rfl, fun w' hw' => by clear hw'; go_simp⟩) hH ?_
          simp only [Act.put]
          refine wpAnyH_take (i := 3) (v := .bool false) rfl (by kernel_rfl) (by kernel_rfl) (by kernel_rfl) (fun _ _ _ h => h) (Or.inl ⟨by rfl, fun w' hw' => by clear hw'; go_simp⟩) hH ?_
          simp only [Act.put]
          refine wpAnyH_take (i := 4) (v := undef) rfl (by kernel_rfl) (by kernel_rfl) (by kernel_rfl) (fun _ _ _ h => h) (Or.inr ⟨by kernel_rfl, rfl⟩) hH ?_
          simp only [Act.put]
          refine wpAnyH_take (i := 5) (v := undef) rfl (by kernel_rfl) (by kernel_rfl) (by kernel_rfl) (fun _ _ _ h => h) (Or.inr ⟨by kernel_rfl, rfl⟩) hH ?_
          simp only [Act.put]
          refine wpAnyH_take (i := 6) (v := .bool false) rfl (by kernel_rfl) (by kernel_rfl) (by kernel_rfl) (fun _ _ _ h => h) (Or.inl ⟨by kernel_rfl, fun w' _ => by kernel_rfl⟩) hH ?_
          simp only [Act.put]
          refine wpAnyH_take (i := 7) (v := .bool false) rfl (by kernel_rfl) (by kernel_rfl) (by kernel_rfl) (fun _ _ _ h => h) (Or.inl ⟨by kernel_rfl, fun w' _ => by kernel_rfl⟩) hH ?_
          simp only [Act.put]
          refine wpAnyH_take (i := 8) (v := .slice A6 0 cap6) rfl (by kernel_rfl) (by kernel_rfl) (by kernel_rfl) (fun _ _ _ h => h) (Or.inl ⟨by kernel_rfl, fun w' hw' => by clear hw'; go_simp⟩) hH ?_
          simp only [Act.put]
          refine wpAnyH_take (i := 9) (v := .int .i64 0) rfl (by kernel_rfl) (by kernel_rfl) (by kernel_rfl) (fun _ _ _ h => h) (Or.inl ⟨by kernel_rfl, fun w' hw' => by clear hw'; go_simp⟩) hH ?_
          simp only [Act.put]
          refine wpAnyH_take (i := 10) (v := .bool true) rfl (by kernel_rfl) (by kernel_rfl) (by kernel_rfl) (fun _ _ _ h => h) (Or.inl ⟨by kernel_rfl, fun w' hw' => by clear hw'; go_simp⟩) hH ?_
          simp only [Act.put]
          refine wpAnyH_take (i := 11) (v := .bool true) rfl (by kernel_rfl) (by kernel_rfl) (by kernel_rfl) (fun _ _ _ h => h) (Or.inl ⟨by kernel_rfl, fun w' hw' => by clear hw'; go_simp⟩) hH ?_
          simp only [Act.put]
          refine wpAnyH_take (i := 12) (v := .string TB) rfl (by kernel_rfl) (by kernel_rfl) (by kernel_rfl) (fun _ _ _ h => h) (Or.inl ⟨by kernel_rfl, fun w' hw' => by clear hw'; go_simp⟩) hH ?_
          simp only [Act.put]
          refine wpAnyH_take (i := 13) (v := .int .i64 (s.size : Int)) rfl (by kernel_rfl) (by kernel_rfl) (by kernel_rfl) (fun _ _ _ h => h) (Or.inl ⟨by kernel_rfl, fun w' hw' => by have h := HTZ.out; go_simp⟩) hH ?_
          simp only [Act.put]
          refine wpAnyH_take (i := 14) (v := .string s) rfl (by kernel_rfl) (by kernel_rfl) (by kernel_rfl) (fun _ _ _ h => h) (Or.inl ⟨by kernel_rfl, fun w' hw' => by clear hw'; go_simp⟩) hH ?_
          simp only [Act.put]
          refine wpAnyH_take (i := 15) (v := .int .i64 (s.size : Int)) rfl (by kernel_rfl) (by kernel_rfl) (by kernel_rfl) (fun _ _ _ h => h) (Or.inl ⟨by kernel_rfl, fun w' hw' => by clear hw'; go_simp⟩) hH ?_
          simp only [Act.put]
          refine wpAnyH_take (i := 16) (v := .bool true) rfl (by kernel_rfl) (by kernel_rfl) (by kernel_rfl) (fun _ _ _ h => h) (Or.inl ⟨by kernel_rfl, fun w' hw' => by clear hw'; go_simp⟩) hH ?_
          simp only [Act.put]
          refine wpAnyH_take (i := 17) (v := .bool true) rfl (by kernel_rfl) (by kernel_rfl) (by kernel_rfl) (fun _ _ _ h => h) (Or.inl ⟨by kernel_rfl, fun w' hw' => by clear hw'; go_simp⟩) hH ?_
          simp only [Act.put]
          refine wpAnyH_take (i := 18) (v := .bool true) rfl (by kernel_rfl) (by kernel_rfl) (by kernel_rfl) (fun _ _ _ h => h) (Or.inl ⟨by kernel_rfl, fun w' hw' => by clear hw'; go_simp⟩) hH ?_
          simp only [Act.put]
          refine wpAnyH_take (i := 19) (v := .string TB) rfl (by kernel_rfl) (by kernel_rfl) (by kernel_rfl) (fun _ _ _ h => h) (Or.inl ⟨by kernel_rfl, fun w' hw' => by clear hw'; go_simp⟩) hH ?_
          simp only [Act.put]
          refine wpAnyH_take (i := 21) (v := .agg (sixL sm).toArray) rfl (by kernel_rfl) (by kernel_rfl) (by kernel_rfl) (fun _ _ _ h => h) ?_ hH ?_
          · refine yieldsIf_load_mid ?_ 29 (.tmp 13) ?_ w2.heap.size 0 ?_ (sixL sm) _ (fun W hW => hW.1.range6) Try.underlying29 rfl (by exact HZ6.out)
            all_goals kernel_rfl
          simp only [Act.put]
          refine wpAnyH_ready (rs := [20]) (by kernel_rfl) (by simp) ?_
          refine AllReadyH.cons rfl (fun K hK => ?_) AllReadyH.nil
          rw [if_pos (by kernel_rfl)]
          go_simp
          go_at_call 20
          refine (HSQ.out _).mono ?_
          rintro e w13 ⟨rfl, hb13⟩
          go_wp2_with fail
          refine hK.out _ _ (⟨hH.1.below hb13 hH.1.lt, hH.2.trans (hb13.mono hH.2.size)⟩) (fun hH => ?_)
          clear hK K
          try simp only [Act.put]
          refine wpAnyH_take (i := 22) (v := .bool true) rfl (by kernel_rfl) (by kernel_rfl) (by kernel_rfl) (fun _ _ _ h => h) (yields_eq6 (by kernel_rfl) sm (.tmp 146) (.tmp 147) _ rfl (by kernel_rfl) (by kernel_rfl)) hH ?_
          simp only [Act.put]
          refine wpAnyH_take (i := 23) (v := .bool true) rfl (by kernel_rfl) (by kernel_rfl) (by kernel_rfl) (fun _ _ _ h => h) (Or.inl ⟨by kernel_rfl, fun w' _ => by kernel_rfl⟩) hH ?_
          simp only [Act.put]
          refine wpAnyH_take (i := 24) (v := .bool true) rfl (by kernel_rfl) (by kernel_rfl) (by kernel_rfl) (fun _ _ _ h => h) (Or.inl ⟨by kernel_rfl, fun w' _ => by kernel_rfl⟩) hH ?_
          simp only [Act.put]
          refine wpAnyH_ready (rs := [25]) (by kernel_rfl) (by simp) ?_
          refine AllReadyH.cons rfl (fun K hK => ?_) AllReadyH.nil
          go_simp
          refine hK.out _ _ (hH) (fun hH => ?_)
          clear hK K
          try simp only [Act.put]
          refine wpAnyH_done (by kernel_rfl) ?_ _
          try simp only [Act.put]
          go_wp2_with fail
          go_ret
          exact ⟨rfl, HB.out.trans (hH.2.mono HB.out.size)⟩
end Go.Proofs.Ythlapdijnfcekaa
