/-
  The walk of the document's Unpack.
-/
import Derived.Test.YtbofabmgfkploaaUnpk
import Derived.Test.YtbofabmgfkploaaRfd
namespace Go.Proofs.Ytbofabmgfkploaa
open Go.RowKit
set_option maxRecDepth 10000

/-- a ledger, or none -/
def RU (w : World) (s : List UInt8) (e : Ending) (w' : World) : Prop := (okU s → NG 30 w (unpS s) (fun p => .tuple #[.pointer (some ⟨p, 0, none⟩), .int .i64 0]) e w') ∧ (¬ okU s → UN w e w')
theorem RU.no {w w' : World} {s : List UInt8} (h : ¬ okU s) (hb : Below w.heap.size w w') : RU w s (.returned (.tuple #[.pointer none, .int .i64 4])) w' := ⟨fun q => absurd q h, fun _ => ⟨rfl, hb⟩⟩
theorem Gw.push {X p : Nat} {w1 w4 w5 : World} {fp : List Nat} {va vt va' vt' : Value} {S' : Lg} (hF : Fr w1 w4 fp) (hN : ∀ g ∈ fpG p va vt, g ∈ fp ∨ w1.heap.size ≤ g) (h5 : HasG w5 X p va' vt' S') (k2 : Fr w4 w5 (fpG p va vt)) (k3 : ∀ b ∈ fpG p va' vt', b ∈ fpG p va vt ∨ w4.heap.size ≤ b) : Gw X p w1 fp S' w5 := by
  have hs := hF.size
  refine ⟨_, ⟨va', vt', rfl, h5⟩, hF.trans k2 (fun b hb hlt => ?_), fun g hg => ?_⟩
  · rcases hN b hb with h | h
    · exact h
    · omega
  · rcases k3 g hg with h | h
    · exact hN g h
    · right; omega
theorem app_ranget {w3 w4 : World} {X p g1 o1 : Nat} {va vt : Value} {S : Lg} {ob : Obj} {xs : List Value} (h3 : HasG w3 X p va vt S) (hr : w3.rangeAt g1 o1 xs) (hlt : g1 < w3.heap.size) (hne : ∀ b ∈ fpG p va vt, b ≠ g1) (hg : (w3.drew.alloc ob).grownBy w4 vt.ownBlock) :
    Row w4 p X [va, vt] ∧ Fr w3 w4 vt.ownBlock.toList ∧ w4.rangeAt g1 o1 xs := by
  have hf : Fr w3 w4 vt.ownBlock.toList := ((Fr.refl w3 vt.ownBlock.toList).drew.alloc ob).grown hg (by intro b hb; exact .inl (by simp [hb]))
  refine ⟨hf.row h3.box (by simpa using h3.n2), hf, fun j v hv => ?_⟩
  have hn : g1 ∉ vt.ownBlock.toList := by
    simp
    intro e
    exact hne g1 (by simp [fpG, e]) rfl
  exact (World.cell?_of_block (w := w3) (a := ⟨g1, o1 + j, none⟩) (hf.block g1 hlt hn)).trans (hr j v hv)
theorem rows_firstk' {α : Type} (n : Nat) (d : List UInt8 → α) (s : List UInt8) (k : Nat) : firstk n d s k ++ [d (piece n s k)] = firstk n d s (k + 1) := (firstk_succ n d s k).symm

set_option maxHeartbeats 400000 in
theorem runpack_none (s : ByteArray) (w : World) (h : s.size = 0) : Calls Try.prog 22 #[.string s] w (RU w (sb s)) := by
  have hno : ¬ okU (sb s) := fun q => by have := q.1.1; rw [sb_len] at this; omega
  have HNO := hid hno
  have hl : (s.size : Int) < 1 := by omega
  clear h hno
  go_enter Try.func22, Try.ntmps22
  go_wp2_with fail
  go_ret2
  exact RU.no HNO.out ((Below.refl _ _).alloc (Nat.le_refl _) _)
set_option maxHeartbeats 400000 in
theorem runpack_many (s : ByteArray) (w : World) (h0 : 0 < s.size) (h : 8 < num0 (sb s)) : Calls Try.prog 22 #[.string s] w (RU w (sb s)) := by
  have hno : ¬ okU (sb s) := fun q => by have := q.1.2.1; omega
  have HNO := hid hno
  have hl : ¬ (s.size : Int) < 1 := by omega
  have hix : (0 : Int) < (s.size : Int) := by omega
  rw [sb_zero s h0] at h
  have hgt : (8 : Int) < ((s[0]'h0).toNat : Int) := by omega
  clear hno
  go_enter Try.func22, Try.ntmps22
  go_wp2_with fail
  go_ret2
  exact RU.no HNO.out ((Below.refl _ _).alloc (Nat.le_refl _) _)
set_option maxHeartbeats 8000000 in
theorem runpack_go (s : ByteArray) (w : World) (h0 : 0 < s.size) (hm : num0 (sb s) ≤ 8) (hs : s.size ≤ 140737488355328) : Calls Try.prog 22 #[.string s] w (RU w (sb s)) := by
  have hl : ¬ (s.size : Int) < 1 := by omega
  have hix : (0 : Int) < (s.size : Int) := by omega
  have HN0 := hid (sb_zero s h0)
  obtain ⟨n, hn⟩ : ∃ n, (s[0]'h0).toNat = n := ⟨_, rfl⟩
  have HNUM : Hid (num0 (sb s) = n) := hid (by rw [HN0.out, hn])
  rw [HNUM.out] at hm
  have hgt : ¬ (8 : Int) < ((s[0]'h0).toNat : Int) := by omega
  have hw8 : wrap64 ((s[0]'h0).toNat : Int) = (n : Int) := by rw [hn]; exact IntWalk.wrap64_in _ ⟨by omega, by omega⟩
  have HSL := hid (sb_len s)
  have HACI := hid acSize
  have HNIL : Hid (HasG (w.alloc (.cells #[.slice none 0 0, .slice none 0 0] 30)) 30 w.heap.size (.slice none 0 0) (.slice none 0 0) Lg.nil) := hid (nil_has (Row.new w _ #[.slice none 0 0, .slice none 0 0]) (by decide))
  have HB0 := hid ((Below.refl w.heap.size w).alloc (Nat.le_refl _) (.cells #[.slice none 0 0, .slice none 0 0] 30))
  have HSZ1 : Hid ((w.alloc (.cells #[.slice none 0 0, .slice none 0 0] 30)).heap.size = w.heap.size + 1) := hid (by simp)
  have HHN := hid hn
  clear hn
  go_enter Try.func22, Try.ntmps22
  go_wp2_with fail
  refine name_wp (fun w1 hw1 => ?_)
  have HW1 := hid hw1
  clear hw1
  obtain ⟨p, hp⟩ : ∃ p, w.heap.size = p := ⟨_, rfl⟩
  have HP := hid hp
  rw [hp]
  have HG0 : Hid (Gw 30 p w1 (fpG p (.slice none 0 0) (.slice none 0 0)) Lg.nil w1) := hid (by rw [HW1.out, ← hp]; exact Gw.start ⟨_, _, rfl, HNIL.out⟩)
  have HB1 : Hid (Below w.heap.size w w1) := hid (by rw [HW1.out]; exact HB0.out)
  have HFP : Hid (∀ b ∈ fpG p (.slice none 0 0) (.slice none 0 0), w.heap.size ≤ b) := hid (by
    intro b hb
    simp [fpG, Value.ownBlock] at hb
    omega)
  generalize fpG p (.slice none 0 0) (.slice none 0 0) = fp at *
  clear hp HNIL HB0 HSZ1
  go_loopw [5, 6] (fun av iv wr => ∃ (k a : Nat), k ≤ n ∧ iv = .int .i64 (k : Int) ∧ av = .int .i64 (a : Int) ∧ a ≤ s.size ∧ Hid (a = 1 + 25 * k) ∧ Gw 30 p w1 fp ⟨firstk 25 decW ((sb s).drop 1) k, []⟩ wr) (fun _ iv _ => n - (intOf iv).toNat)
  case atStart => exact ⟨0, 1, by omega, rfl, rfl, by omega, hid rfl, HG0.out⟩
  case round =>
    obtain ⟨k, a, hk, rfl, rfl, has, HA, hgw⟩ := hrel
    have HGW := hid hgw
    have hbr : Below w.heap.size w wr := HB1.out.trans (hgw.frame.below HFP.out HB1.out.size)
    have HBR := hid hbr
    by_cases hlt : k < n
    · have hki : (k : Int) < (n : Int) := by omega
      have hki2 : k < (s[0]'h0).toNat := by rw [HHN.out]; exact hlt
      have hki3 : (k : Int) < ((s[0]'h0).toNat : Int) := by rw [HHN.out]; exact hki
      by_cases hfew : s.size < a + 25
      · have HNO : Hid (¬ okU (sb s)) := hid (fun q => by
          have h1 := q.1.2.2
          rw [HNUM.out, HSL.out] at h1
          have h2 : 25 * (k + 1) ≤ 25 * n := Nat.mul_le_mul_left _ hlt
          have := HA.out
          omega)
        have hf1 : (s.size : Int) - (a : Int) < 25 := by omega
        clear hgw hbr
        go_wp2_with fail
        go_ret2
        exact RU.no HNO.out HBR.out
      · have hf1 : ¬ (s.size : Int) - (a : Int) < 25 := by omega
        have hf2 : (a : Int) + 25 ≤ (s.size : Int) := by omega
        have hes : sb (s.extract a (a + 25)) = piece 25 ((sb s).drop 1) k := by
          rw [sb_extract]
          unfold piece
          rw [List.drop_drop, HA.out]
          congr 2 <;> omega
        have HWH := hid (fun W => rwh_any (s.extract a (a + 25)) W)
        have hws : wholeS (sb (s.extract a (a + 25))) = (decW (piece 25 ((sb s).drop 1) k), true) := by
          unfold wholeS
          rw [if_pos (by rw [sb_len, ByteArray.size_extract]; omega), hes]
        rw [hws] at HWH
        obtain ⟨fq, ⟨va, vt, hfq, hG⟩, hF, hN⟩ := hgw
        subst hfq
        have HGG := hid hG
        have HFF := hid hF
        have HNN := hid hN
        have HFL := hid (decW_flat (piece 25 ((sb s).drop 1) k))
        have HST := hid (rows_firstk' 25 decW ((sb s).drop 1) k)
        obtain ⟨XN, hXN⟩ : ∃ XN, decW (piece 25 ((sb s).drop 1) k) = XN := ⟨_, rfl⟩
        rw [hXN] at HWH HFL HST
        obtain ⟨xa, xb, xc, xd⟩ := XN
        have HXN : Hid (Ac.mk xa xb xc xd).flat := HFL
        obtain ⟨SK, hSK⟩ : ∃ SK : Lg, SK = ⟨firstk 25 decW ((sb s).drop 1) k, []⟩ := ⟨_, rfl⟩
        rw [← hSK] at HGG
        have hlen : SK.A.length = k := by rw [hSK]; exact firstk_len _ _ _ _
        have HROOM : Hid (SK.A.length + 1 ≤ 8) := hid (by omega)
        have hn8 : SK.A.length ≤ 8 := by omega
        have HSKN : Hid ((⟨SK.A ++ [⟨xa, xb, xc, xd⟩], SK.T⟩ : Lg) = ⟨firstk 25 decW ((sb s).drop 1) (k + 1), []⟩) := hid (by rw [hSK]; simp only; rw [HST.out])
        have HW2 : Hid (∀ W, Calls Try.prog 55 #[.string (s.extract a (a + 25))] W fun e w' => e = .returned (.tuple #[.agg ([.int .u64 (xa : Int), .int .i64 xb, .int .u64 (xc : Int), .int .u64 (xd : Int)] : List Value).toArray, .bool true]) ∧ Below W.heap.size W w') := hid HWH.out
        have cs_one : ∀ u ∈ ([.int .u64 (xa : Int), .int .i64 xb, .int .u64 (xc : Int), .int .u64 (xd : Int)] : List Value), u.oneCell' = true := cs_one4 rfl rfl rfl rfl
        clear hbr hes hws hG hF hN hXN hSK hlen HWH HFL HST
        go_wp2_with (first
          | (go_at_call 55; refine (HW2.out _).mono ?_; rintro e w2 ⟨rfl, hb2⟩; have HB2 := hid hb2; clear hb2)
          | (refine wpl_store_st rfl (.tmp 7) (.tmp 42) rfl HACI.out w2.heap.size ac0.cells ([.int .u64 (xa : Int), .int .i64 xb, .int .u64 (xc : Int), .int .u64 (xd : Int)] : List Value) rfl rfl (Row.new _ _ _) ?_ (hid rfl) (hid rfl) (hid rfl); intro w3 hr3 hg3; have HRX := hid hr3; have HB3 := hid (HB2.out.trans ((((Below.refl w2.heap.size w2).alloc (Nat.le_refl _) _).trans (below_grown hg3 (Nat.le_refl _) (by simp))).mono HB2.out.size)); clear hr3 hg3))
        have h3 := hid (HGG.out.below HB3.out)
        have HNE : Hid (∀ b ∈ fpG p va vt, b ≠ w2.heap.size) := hid fun b hb => by have := HGG.out.lt b hb; have := HB2.out.size; omega
        have HNEP : Hid (p ≠ w2.heap.size) := hid (HNE.out p (by simp [fpG]))
        have HRG : Hid (w3.drew.rangeAt w2.heap.size 0 [.int .u64 (xa : Int), .int .i64 xb, .int .u64 (xc : Int), .int .u64 (xd : Int)]) := hid fun j v hv => by rw [Nat.zero_add]; exact HRX.out.at_ j v hv
        have hc3 := h3.out.c0
        have HC := hid hc3
        have HLT := hid h3.out.box.lt
        have HFW := hid (HFF.out.trans (Fr.of_below HB3.out) (by simp))
        clear HW2 HB2 HFF
        have HNP : Hid ((⟨p, 0, none⟩ : Addr).block ≠ w2.heap.size) := HNEP
        refine wp_region_held_drew (S := fun w' => w'.rangeAt w2.heap.size 0 [.int .u64 (xa : Int), .int .i64 xb, .int .u64 (xc : Int), .int .u64 (xd : Int)]) (by kernel_rfl) HRG.out (fun hH => ?_)
        refine wpAnyH_take (i := 0) (v := .pointer (some ⟨p, 0, none⟩)) rfl (by kernel_rfl) (by kernel_rfl) (by kernel_rfl) (fun _ _ _ h => h) (Or.inl ⟨by rfl, fun w' hw' => by clear hw' ; go_simp⟩) hH ?_
        simp only [Act.put]
        refine wpAnyH_take (i := 1) (v := .pointer (some ⟨p, 0, none⟩)) rfl (by kernel_rfl) (by kernel_rfl) (by kernel_rfl) (fun _ _ _ h => h) (Or.inl ⟨by rfl, fun w' hw' => by clear hw' ; go_simp⟩) hH ?_
        simp only [Act.put]
        refine wpAnyH_take (i := 2) (v := .pointer (some ⟨p, 0, none⟩)) rfl (by kernel_rfl) (by kernel_rfl) (by kernel_rfl) (fun _ _ _ h => h) (Or.inl ⟨by rfl, fun w' hw' => by clear hw' ; go_simp⟩) hH ?_
        simp only [Act.put]
        refine wpAnyH_take (i := 3) (v := .pointer (some ⟨p, 0, none⟩)) rfl (by kernel_rfl) (by kernel_rfl) (by kernel_rfl) (fun _ _ _ h => h) (Or.inl ⟨by rfl, fun w' hw' => by clear hw' ; go_simp⟩) hH ?_
        simp only [Act.put]
        refine wpAnyH_take (i := 5) (v := .agg ([.int .u64 (xa : Int), .int .i64 xb, .int .u64 (xc : Int), .int .u64 (xd : Int)]).toArray) rfl (by kernel_rfl) (by kernel_rfl) (by kernel_rfl) (fun _ _ _ h => h)
          (yieldsIf_load_mid (by rfl) 45 (.tmp 7) rfl w2.heap.size 0 rfl _ _ (fun _ hw => hw) Try.underlying45 rfl acSize) hH ?_
        simp only [Act.put]
        obtain ⟨i0, hi, hz0, hz1, hz2⟩ := info_parts acInfo
        have hnews : Hid (∀ j u, ([.int .u64 (xa : Int), .int .i64 xb, .int .u64 (xc : Int), .int .u64 (xd : Int)])[j]? = some u → ((w3).drew.alloc (.cells ([.int .u64 (xa : Int), .int .i64 xb, .int .u64 (xc : Int), .int .u64 (xd : Int)]).toArray 45)).cell? ((⟨(w3).heap.size, 0, none⟩ : Addr).add j) = some u) := hid (by
          have := World.news_of_block (heap_alloc_new (w3).drew (.cells ([.int .u64 (xa : Int), .int .i64 xb, .int .u64 (xc : Int), .int .u64 (xd : Int)]).toArray 45))
          simpa using this)
        refine wpAnyH_ready (rs := [4, 6]) (by kernel_rfl) (by simp) ?_
        refine AllReadyH.cons rfl (fun K hK => ?_) (AllReadyH.cons rfl (fun K hK => ?_) AllReadyH.nil)
        · go_simp
          refine hK.out _ _ hH (fun hH => ?_)
          clear hK K
          refine wpAnyH_ready (rs := [6]) (by kernel_rfl) (by simp) ?_
          refine AllReadyH.cons rfl (fun K hK => ?_) AllReadyH.nil
          rw [if_pos (by rfl)]
          refine wp_slice1 27 45 (.tmp 49) rfl i0 _ 4 Try.underlying27 hi hz0 hz1 (by decide) (by decide) [.int .u64 (xa : Int), .int .i64 xb, .int .u64 (xc : Int), .int .u64 (xd : Int)] (by kernel_rfl) rfl ?_
          simp only [Act.put]
          refine hK.out _ _ (World.rangeAt_alloc hH _) (fun hH => ?_)
          clear hK K
          refine wpAnyH_ready (rs := [7]) (by kernel_rfl) (by simp) ?_
          refine AllReadyH.cons rfl (fun K hK => ?_) AllReadyH.nil
          refine step_append_lies _ rfl (.tmp 48) (.tmp 50) 27 rfl 0 45 i0 _ 4 32 Try.underlying27 hi hz0 hz1 hz2 rfl (by decide) va SK.A.length _ (by kernel_rfl) ((h3.out.accs.drew).alloc _) ⟨w3.heap.size, 0, none⟩ 1 1 [.int .u64 (xa : Int), .int .i64 xb, .int .u64 (xc : Int), .int .u64 (xd : Int)] (by kernel_rfl) rfl hnews.out cs_one (by decide) (le_maxLen (by omega)) (by omega) (Nat.zero_le _) (w3.heap.size + 1) (by simp) ?_
          intro g cap w4 ho4 hg4 hat hlt4
          have HAP := hid (app_factsa h3.out HRX.out HNE.out hg4)
          have hH4 := HAP.out.2.2
          simp only [Act.put]
          refine hK.out _ _ hH4 (fun hH => ?_)
          clear hK K hH4
          refine wpAnyH_take (i := 8) (v := .pointer (some ⟨p, 0, none⟩)) rfl (by kernel_rfl) (by kernel_rfl) (by kernel_rfl) (fun _ _ _ h => h) (Or.inl ⟨by rfl, fun w' hw' => by clear hw' ; go_simp⟩) hH ?_
          simp only [Act.put]
          refine wpAnyH_take (i := 9) (v := .pointer (some ⟨p, 0, none⟩)) rfl (by kernel_rfl) (by kernel_rfl) (by kernel_rfl) (fun _ _ _ h => h) (Or.inl ⟨by rfl, fun w' hw' => by clear hw' ; go_simp⟩) hH ?_
          simp only [Act.put]
          have c4 := HAP.out.1.at_ 0 _ rfl
          have f4 := HAP.out.1.frozen 0
          have HO4 := hid ho4
          have HAT := hid hat
          clear ho4 hat hg4
          refine wpAnyH_ready (rs := [10]) (by kernel_rfl) (by simp) ?_
          refine AllReadyH.cons rfl (fun K hK => ?_) AllReadyH.nil
          go_simp
          refine hK.out _ _ (fun j v hv => (World.cell?_setCell_far _ _ _ _ HNP.out).trans (hH j v hv)) (fun hH => ?_)
          clear hK K hH
          refine wpAnyH_done (by kernel_rfl) ?_ _
          try simp only [Act.put]
          have HM := hid (h3.out.moreA (X := 30) (x := ⟨xa, xb, xc, xd⟩) HAP.out.2.1 HO4.out (vend HAT.out) HROOM.out HXN.out)
          clear c4 f4
          generalize (w4.setCell ⟨p, 0, none⟩ (.slice (some ⟨g, 0, none⟩) (SK.A.length + 1) cap)) = w5 at *
          go_wp2_with fail
          exact ⟨⟨k + 1, a + 25, by omega, by go_num, by go_num, by omega, hid (by have := HA.out; omega), by rw [← HSKN.out]; exact Gw.push HFW.out HNN.out HM.out.1 HM.out.2.1 HM.out.2.2⟩, by simp [intOf]; omega⟩
        · rw [if_pos (by rfl)]
          refine wp_slice1 27 45 (.tmp 49) rfl i0 _ 4 Try.underlying27 hi hz0 hz1 (by decide) (by decide) [.int .u64 (xa : Int), .int .i64 xb, .int .u64 (xc : Int), .int .u64 (xd : Int)] (by kernel_rfl) rfl ?_
          simp only [Act.put]
          refine hK.out _ _ (World.rangeAt_alloc hH _) (fun hH => ?_)
          clear hK K
          have c32 : ((w3).alloc (.cells ([.int .u64 (xa : Int), .int .i64 xb, .int .u64 (xc : Int), .int .u64 (xd : Int)]).toArray 45)).cell? ⟨p, 0, none⟩ = some va := (World.cell?_alloc_lt _ _ _ HLT.out).trans HC.out
          refine wpAnyH_ready (rs := [4]) (by kernel_rfl) (by simp) ?_
          refine AllReadyH.cons rfl (fun K hK => ?_) AllReadyH.nil
          go_simp
          refine hK.out _ _ hH (fun hH => ?_)
          clear hK K c32
          refine wpAnyH_ready (rs := [7]) (by kernel_rfl) (by simp) ?_
          refine AllReadyH.cons rfl (fun K hK => ?_) AllReadyH.nil
          refine step_append_lies _ rfl (.tmp 48) (.tmp 50) 27 rfl 0 45 i0 _ 4 32 Try.underlying27 hi hz0 hz1 hz2 rfl (by decide) va SK.A.length _ (by kernel_rfl) ((h3.out.accs.drew).alloc _) ⟨w3.heap.size, 0, none⟩ 1 1 [.int .u64 (xa : Int), .int .i64 xb, .int .u64 (xc : Int), .int .u64 (xd : Int)] (by kernel_rfl) rfl hnews.out cs_one (by decide) (le_maxLen (by omega)) (by omega) (Nat.zero_le _) (w3.heap.size + 1) (by simp) ?_
          intro g cap w4 ho4 hg4 hat hlt4
          have HAP := hid (app_factsa h3.out HRX.out HNE.out hg4)
          have hH4 := HAP.out.2.2
          simp only [Act.put]
          refine hK.out _ _ hH4 (fun hH => ?_)
          clear hK K hH4
          refine wpAnyH_take (i := 8) (v := .pointer (some ⟨p, 0, none⟩)) rfl (by kernel_rfl) (by kernel_rfl) (by kernel_rfl) (fun _ _ _ h => h) (Or.inl ⟨by rfl, fun w' hw' => by clear hw' ; go_simp⟩) hH ?_
          simp only [Act.put]
          refine wpAnyH_take (i := 9) (v := .pointer (some ⟨p, 0, none⟩)) rfl (by kernel_rfl) (by kernel_rfl) (by kernel_rfl) (fun _ _ _ h => h) (Or.inl ⟨by rfl, fun w' hw' => by clear hw' ; go_simp⟩) hH ?_
          simp only [Act.put]
          have c4 := HAP.out.1.at_ 0 _ rfl
          have f4 := HAP.out.1.frozen 0
          have HO4 := hid ho4
          have HAT := hid hat
          clear ho4 hat hg4
          refine wpAnyH_ready (rs := [10]) (by kernel_rfl) (by simp) ?_
          refine AllReadyH.cons rfl (fun K hK => ?_) AllReadyH.nil
          go_simp
          refine hK.out _ _ (fun j v hv => (World.cell?_setCell_far _ _ _ _ HNP.out).trans (hH j v hv)) (fun hH => ?_)
          clear hK K hH
          refine wpAnyH_done (by kernel_rfl) ?_ _
          try simp only [Act.put]
          have HM := hid (h3.out.moreA (X := 30) (x := ⟨xa, xb, xc, xd⟩) HAP.out.2.1 HO4.out (vend HAT.out) HROOM.out HXN.out)
          clear c4 f4
          generalize (w4.setCell ⟨p, 0, none⟩ (.slice (some ⟨g, 0, none⟩) (SK.A.length + 1) cap)) = w5 at *
          go_wp2_with fail
          exact ⟨⟨k + 1, a + 25, by omega, by go_num, by go_num, by omega, hid (by have := HA.out; omega), by rw [← HSKN.out]; exact Gw.push HFW.out HNN.out HM.out.1 HM.out.2.1 HM.out.2.2⟩, by simp [intOf]; omega⟩
    · obtain rfl : k = n := by omega
      have hnk2 : ¬ k < (s[0]'h0).toNat := by rw [HHN.out]; omega
      have hnk3 : ¬ (k : Int) < ((s[0]'h0).toNat : Int) := by rw [HHN.out]; omega
      have HA25 := HA
      by_cases hend : s.size ≤ a
      · have HNO : Hid (¬ okU (sb s)) := hid (fun q => by
          have h1 := q.2.1.1
          unfold rest1 at h1
          rw [HNUM.out, List.length_drop, HSL.out] at h1
          have := HA.out
          omega)
        have he1 : (s.size : Int) ≤ (a : Int) := by omega
        clear hgw hbr
        go_wp2_with fail
        go_ret2
        exact RU.no HNO.out HBR.out
      · have hal : a < s.size := by omega
        have he1 : ¬ (s.size : Int) ≤ (a : Int) := by omega
        have he2 : (a : Int) < (s.size : Int) := by omega
        have HM0 : Hid (num0 (rest1 25 (sb s)) = (s[a]'hal).toNat) := hid (by
          unfold num0 rest1
          rw [HNUM.out, List.getD, List.getElem?_drop, Nat.add_zero, ← HA.out, List.getElem?_eq_getElem (by rw [HSL.out]; exact hal)]
          rfl)
        have hb255 := UInt8.toNat_lt (s[a]'hal)
        by_cases hmany : 16 < (s[a]'hal).toNat
        · have HNO : Hid (¬ okU (sb s)) := hid (fun q => by
            have h1 := q.2.1.2.1
            rw [HM0.out] at h1
            omega)
          have he3 : (16 : Int) < ((s[a]'hal).toNat : Int) := by omega
          clear hgw hbr
          go_wp2_with fail
          go_ret2
          exact RU.no HNO.out HBR.out
        · have he3 : ¬ (16 : Int) < ((s[a]'hal).toNat : Int) := by omega
          obtain ⟨m, hmm⟩ : ∃ m, (s[a]'hal).toNat = m := ⟨_, rfl⟩
          have hw9 : wrap64 ((s[a]'hal).toNat : Int) = (m : Int) := by rw [hmm]; exact IntWalk.wrap64_in _ ⟨by omega, by omega⟩
          have hm16 : m ≤ 16 := by omega
          rw [hmm] at HM0
          have HMM := hid hmm
          by_cases hlen : s.size = a + 1 + 32 * m
          · have HOK : Hid (okU (sb s)) := hid (by
              have ha := HA.out
              have hr1 : (rest1 25 (sb s)).length = 1 + 32 * m := by
                unfold rest1
                rw [HNUM.out, List.length_drop, HSL.out]
                omega
              refine ⟨⟨by rw [HSL.out]; omega, by rw [HNUM.out]; omega, by rw [HNUM.out, HSL.out]; omega⟩, ⟨by omega, by rw [HM0.out]; exact hm16, by rw [HM0.out]; omega⟩, ?_⟩
              rw [rest1, HM0.out]
              exact List.drop_of_length_le (by omega))
            have HUN : Hid (unpS (sb s) = ⟨firstk 25 decW ((sb s).drop 1) k, firstk 32 decT ((rest1 25 (sb s)).drop 1) m⟩) := hid (by
              unfold unpS takA takT
              rw [HNUM.out, HM0.out])
            have HDR : Hid ((rest1 25 (sb s)).drop 1 = (sb s).drop (a + 1)) := hid (by
              unfold rest1
              rw [HNUM.out, List.drop_drop, ← HA.out])
            have HLEN := hid hlen
            have hne : ((s.size : Int) - ((a : Int) + 1) != 32 * ((s[a]'hal).toNat : Int)) = false := by
              rw [bne_eq_false_iff_eq, hmm]
              omega
            obtain ⟨SA, hSA⟩ : ∃ SA, firstk 25 decW ((sb s).drop 1) k = SA := ⟨_, rfl⟩
            rw [hSA] at HGW HUN
            have HTRI := hid trSize
            clear hgw hbr hmany hmm hlen hSA hl hix
            go_wp2_with fail
            go_loopw [5, 10] (fun av iv wr => ∃ (j a' : Nat), j ≤ m ∧ iv = .int .i64 (j : Int) ∧ av = .int .i64 (a' : Int) ∧ a' ≤ s.size ∧ Hid (a' = a + 1 + 32 * j) ∧ Gw 30 p w1 fp ⟨SA, firstk 32 decT ((sb s).drop (a + 1)) j⟩ wr) (fun _ iv _ => m - (intOf iv).toNat)
            case atStart => exact ⟨0, a + 1, by omega, rfl, by go_num, by omega, hid (by omega), HGW.out⟩
            case round =>
              obtain ⟨j, a', hj, rfl, rfl, has', HA', hgw⟩ := hrel
              have HGJ := hid hgw
              by_cases hjm : j < m
              · have hji : (j : Int) < (m : Int) := by omega
                have hji2 : j < (s[a]'hal).toNat := by rw [HMM.out]; exact hjm
                have hji3 : (j : Int) < ((s[a]'hal).toNat : Int) := by rw [HMM.out]; exact hji
                have hf2 : (a' : Int) + 32 ≤ (s.size : Int) := by
                  have h2 : 32 * (j + 1) ≤ 32 * m := Nat.mul_le_mul_left _ hjm
                  have := HA'.out
                  have := HLEN.out
                  omega
                have hes : sb (s.extract a' (a' + 32)) = piece 32 ((sb s).drop (a + 1)) j := by
                  rw [sb_extract]
                  unfold piece
                  rw [List.drop_drop, HA'.out]
                  congr 2 <;> omega
                have hsz : (s.extract a' (a' + 32)).size = 32 := by rw [ByteArray.size_extract]; omega
                have HTK := hid (fun W => rtakt_list (s.extract a' (a' + 32)) W (by omega))
                rw [takL_one _ hsz, hes] at HTK
                obtain ⟨fq, ⟨va, vt, hfq, hG⟩, hF, hN⟩ := hgw
                subst hfq
                have HGG := hid hG
                have HFF := hid hF
                have HNN := hid hN
                have HFL := hid (decT_ok (piece 32 ((sb s).drop (a + 1)) j))
                have HST := hid (rows_firstk' 32 decT ((sb s).drop (a + 1)) j)
                obtain ⟨XN, hXN⟩ : ∃ XN, decT (piece 32 ((sb s).drop (a + 1)) j) = XN := ⟨_, rfl⟩
                rw [hXN] at HTK HFL HST
                obtain ⟨xa, xb, xc, xd⟩ := XN
                have HXN : Hid (Tr.mk xa xb xc xd).ok := HFL
                obtain ⟨SK, hSK⟩ : ∃ SK : Lg, SK = ⟨SA, firstk 32 decT ((sb s).drop (a + 1)) j⟩ := ⟨_, rfl⟩
                rw [← hSK] at HGG
                have hlen : SK.T.length = j := by rw [hSK]; exact firstk_len _ _ _ _
                have HROOM : Hid (SK.T.length + 1 ≤ 16) := hid (by omega)
                have hn16 : SK.T.length ≤ 16 := by omega
                have HSKN : Hid ((⟨SK.A, SK.T ++ [⟨xa, xb, xc, xd⟩]⟩ : Lg) = ⟨SA, firstk 32 decT ((sb s).drop (a + 1)) (j + 1)⟩) := hid (by rw [hSK]; simp only; rw [HST.out])
                have HLTG := hid HGG.out.lt
                have HT2 : Hid (∀ W, Calls Try.prog 39 #[.string (s.extract a' (a' + 32))] W fun e w' => ∃ g o c, e = .returned (.tuple #[.slice (some ⟨g, o, none⟩) 1 c, .bool true]) ∧ w'.rangeAt g o [.int .u64 (xa : Int), .int .u64 (xb : Int), .int .u64 (xc : Int), .int .u64 (xd : Int)] ∧ g < w'.heap.size ∧ W.heap.size ≤ g ∧ Below W.heap.size W w') := hid fun W => (HTK.out W).mono fun e w' ⟨A, c, h1, _, hrd, h2, hnew⟩ => by
                  simp only at hrd
                  rw [rows1] at hrd
                  obtain ⟨g, o, rfl, hg, hc⟩ := hrd (by simp [Tr.cells])
                  exact ⟨g, o, c, h1, fun j v hv => hc j v hv, hg, hnew _ rfl, h2⟩
                have cs_one : ∀ u ∈ ([.int .u64 (xa : Int), .int .u64 (xb : Int), .int .u64 (xc : Int), .int .u64 (xd : Int)] : List Value), u.oneCell' = true := cs_one4 rfl rfl rfl rfl
                clear hes hsz hG hF hN hXN hSK hlen HTK HFL HST
                go_wp2_with (go_at_call 39; refine (HT2.out _).mono ?_; rintro e w3 ⟨g2, o2, c2, rfl, hrg, hg2, hnw, hb3⟩; have HRN := hid hrg; have HB3 := hid hb3; have HG2 := hid hg2; have HNW := hid hnw; clear hrg hb3 hg2 hnw)
                have h3 := hid (HGG.out.below HB3.out)
                have HNE : Hid (∀ b ∈ fpG p va vt, b ≠ g2) := hid fun b hb => by have := HLTG.out b hb; have := HNW.out; omega
                have HNEP : Hid (p ≠ g2) := hid (HNE.out p (by simp [fpG]))
                have HRG : Hid (w3.drew.rangeAt g2 o2 [.int .u64 (xa : Int), .int .u64 (xb : Int), .int .u64 (xc : Int), .int .u64 (xd : Int)]) := hid HRN.out
                have hc3 := h3.out.c1
                have HC := hid hc3
                have HLT := hid h3.out.box.lt
                have HFW := hid (HFF.out.trans (Fr.of_below HB3.out) (by simp))
                clear HT2 HFF
                have HNP : Hid ((⟨p, 1, none⟩ : Addr).block ≠ g2) := HNEP
                refine wp_region_held_drew (S := fun w' => w'.rangeAt g2 o2 [.int .u64 (xa : Int), .int .u64 (xb : Int), .int .u64 (xc : Int), .int .u64 (xd : Int)]) (by kernel_rfl) HRG.out (fun hH => ?_)
                refine wpAnyH_take (i := 0) (v := .pointer (some ⟨p, 0, none⟩)) rfl (by kernel_rfl) (by kernel_rfl) (by kernel_rfl) (fun _ _ _ h => h) (Or.inl ⟨by rfl, fun w' hw' => by clear hw' ; go_simp⟩) hH ?_
                simp only [Act.put]
                refine wpAnyH_take (i := 1) (v := .pointer (some ⟨p, 0, none⟩)) rfl (by kernel_rfl) (by kernel_rfl) (by kernel_rfl) (fun _ _ _ h => h) (Or.inl ⟨by rfl, fun w' hw' => by clear hw' ; go_simp⟩) hH ?_
                simp only [Act.put]
                refine wpAnyH_take (i := 2) (v := .pointer (some ⟨p, 0, none⟩)) rfl (by kernel_rfl) (by kernel_rfl) (by kernel_rfl) (fun _ _ _ h => h) (Or.inl ⟨by rfl, fun w' hw' => by clear hw' ; go_simp⟩) hH ?_
                simp only [Act.put]
                refine wpAnyH_take (i := 3) (v := .pointer (some ⟨p, 1, none⟩)) rfl (by kernel_rfl) (by kernel_rfl) (by kernel_rfl) (fun _ _ _ h => h) (Or.inl ⟨by rfl, fun w' hw' => by clear hw' ; go_simp⟩) hH ?_
                simp only [Act.put]
                refine wpAnyH_take (i := 5) (v := .slice (some ⟨g2, o2, none⟩) 1 c2) rfl (by kernel_rfl) (by kernel_rfl) (by kernel_rfl) (fun _ _ _ h => h) (Or.inl ⟨by rfl, fun w' hw' => by clear hw' ; go_simp⟩) hH ?_
                simp only [Act.put]
                refine wpAnyH_take (i := 6) (v := .pointer (some ⟨g2, o2, none⟩)) rfl (by kernel_rfl) (by kernel_rfl) (by kernel_rfl) (fun _ _ _ h => h) (Or.inl ⟨by rfl, fun w' hw' => by clear hw' ; go_simp⟩) hH ?_
                simp only [Act.put]
                refine wpAnyH_take (i := 7) (v := .agg ([.int .u64 (xa : Int), .int .u64 (xb : Int), .int .u64 (xc : Int), .int .u64 (xd : Int)]).toArray) rfl (by kernel_rfl) (by kernel_rfl) (by kernel_rfl) (fun _ _ _ h => h)
                  (yieldsIf_load_mid (by rfl) 43 (.tmp 99) rfl g2 o2 rfl _ _ (fun _ hw => hw) Try.underlying43 rfl trSize) hH ?_
                simp only [Act.put]
                obtain ⟨i0, hi, hz0, hz1, hz2⟩ := info_parts trInfo
                have hnews : Hid (∀ j u, ([.int .u64 (xa : Int), .int .u64 (xb : Int), .int .u64 (xc : Int), .int .u64 (xd : Int)])[j]? = some u → ((w3).drew.alloc (.cells ([.int .u64 (xa : Int), .int .u64 (xb : Int), .int .u64 (xc : Int), .int .u64 (xd : Int)]).toArray 43)).cell? ((⟨(w3).heap.size, 0, none⟩ : Addr).add j) = some u) := hid (by
                  have := World.news_of_block (heap_alloc_new (w3).drew (.cells ([.int .u64 (xa : Int), .int .u64 (xb : Int), .int .u64 (xc : Int), .int .u64 (xd : Int)]).toArray 43))
                  simpa using this)
                refine wpAnyH_ready (rs := [4, 8]) (by kernel_rfl) (by simp) ?_
                refine AllReadyH.cons rfl (fun K hK => ?_) (AllReadyH.cons rfl (fun K hK => ?_) AllReadyH.nil)
                · go_simp
                  refine hK.out _ _ hH (fun hH => ?_)
                  clear hK K
                  refine wpAnyH_ready (rs := [8]) (by kernel_rfl) (by simp) ?_
                  refine AllReadyH.cons rfl (fun K hK => ?_) AllReadyH.nil
                  rw [if_pos (by rfl)]
                  refine wp_slice1 28 43 (.tmp 100) rfl i0 _ 4 Try.underlying28 hi hz0 hz1 (by decide) (by decide) [.int .u64 (xa : Int), .int .u64 (xb : Int), .int .u64 (xc : Int), .int .u64 (xd : Int)] (by kernel_rfl) rfl ?_
                  simp only [Act.put]
                  refine hK.out _ _ (World.rangeAt_alloc hH _) (fun hH => ?_)
                  clear hK K
                  refine wpAnyH_ready (rs := [9]) (by kernel_rfl) (by simp) ?_
                  refine AllReadyH.cons rfl (fun K hK => ?_) AllReadyH.nil
                  refine step_append_lies _ rfl (.tmp 97) (.tmp 101) 28 rfl 0 43 i0 _ 4 32 Try.underlying28 hi hz0 hz1 hz2 rfl (by decide) vt SK.T.length _ (by kernel_rfl) ((h3.out.trs.drew).alloc _) ⟨w3.heap.size, 0, none⟩ 1 1 [.int .u64 (xa : Int), .int .u64 (xb : Int), .int .u64 (xc : Int), .int .u64 (xd : Int)] (by kernel_rfl) rfl hnews.out cs_one (by decide) (le_maxLen (by omega)) (by omega) (Nat.zero_le _) (w3.heap.size + 1) (by simp) ?_
                  intro g cap w4 ho4 hg4 hat hlt4
                  have HAP := hid (app_ranget h3.out HRN.out HG2.out HNE.out hg4)
                  have hH4 := HAP.out.2.2
                  simp only [Act.put]
                  refine hK.out _ _ hH4 (fun hH => ?_)
                  clear hK K hH4
                  refine wpAnyH_take (i := 10) (v := .pointer (some ⟨p, 0, none⟩)) rfl (by kernel_rfl) (by kernel_rfl) (by kernel_rfl) (fun _ _ _ h => h) (Or.inl ⟨by rfl, fun w' hw' => by clear hw' ; go_simp⟩) hH ?_
                  simp only [Act.put]
                  refine wpAnyH_take (i := 11) (v := .pointer (some ⟨p, 1, none⟩)) rfl (by kernel_rfl) (by kernel_rfl) (by kernel_rfl) (fun _ _ _ h => h) (Or.inl ⟨by rfl, fun w' hw' => by clear hw' ; go_simp⟩) hH ?_
                  simp only [Act.put]
                  have c4 := HAP.out.1.at_ 1 _ rfl
                  have f4 := HAP.out.1.frozen 1
                  have HO4 := hid ho4
                  have HAT := hid hat
                  clear ho4 hat hg4
                  refine wpAnyH_ready (rs := [12]) (by kernel_rfl) (by simp) ?_
                  refine AllReadyH.cons rfl (fun K hK => ?_) AllReadyH.nil
                  go_simp
                  refine hK.out _ _ (fun j v hv => (World.cell?_setCell_far _ _ _ _ HNP.out).trans (hH j v hv)) (fun hH => ?_)
                  clear hK K hH
                  refine wpAnyH_done (by kernel_rfl) ?_ _
                  try simp only [Act.put]
                  have HM := hid (h3.out.moreT (X := 30) (x := ⟨xa, xb, xc, xd⟩) HAP.out.2.1 HO4.out (vend HAT.out) HROOM.out HXN.out)
                  clear c4 f4
                  generalize (w4.setCell ⟨p, 1, none⟩ (.slice (some ⟨g, 0, none⟩) (SK.T.length + 1) cap)) = w5 at *
                  go_wp2_with fail
                  exact ⟨⟨j + 1, a' + 32, by omega, by go_num, by go_num, by omega, hid (by have := HA'.out; omega), by rw [← HSKN.out]; exact Gw.push HFW.out HNN.out HM.out.1 HM.out.2.1 HM.out.2.2⟩, by simp [intOf]; omega⟩
                · rw [if_pos (by rfl)]
                  refine wp_slice1 28 43 (.tmp 100) rfl i0 _ 4 Try.underlying28 hi hz0 hz1 (by decide) (by decide) [.int .u64 (xa : Int), .int .u64 (xb : Int), .int .u64 (xc : Int), .int .u64 (xd : Int)] (by kernel_rfl) rfl ?_
                  simp only [Act.put]
                  refine hK.out _ _ (World.rangeAt_alloc hH _) (fun hH => ?_)
                  clear hK K
                  have c32 : ((w3).alloc (.cells ([.int .u64 (xa : Int), .int .u64 (xb : Int), .int .u64 (xc : Int), .int .u64 (xd : Int)]).toArray 43)).cell? ⟨p, 1, none⟩ = some vt := (World.cell?_alloc_lt _ _ _ HLT.out).trans HC.out
                  refine wpAnyH_ready (rs := [4]) (by kernel_rfl) (by simp) ?_
                  refine AllReadyH.cons rfl (fun K hK => ?_) AllReadyH.nil
                  go_simp
                  refine hK.out _ _ hH (fun hH => ?_)
                  clear hK K c32
                  refine wpAnyH_ready (rs := [9]) (by kernel_rfl) (by simp) ?_
                  refine AllReadyH.cons rfl (fun K hK => ?_) AllReadyH.nil
                  refine step_append_lies _ rfl (.tmp 97) (.tmp 101) 28 rfl 0 43 i0 _ 4 32 Try.underlying28 hi hz0 hz1 hz2 rfl (by decide) vt SK.T.length _ (by kernel_rfl) ((h3.out.trs.drew).alloc _) ⟨w3.heap.size, 0, none⟩ 1 1 [.int .u64 (xa : Int), .int .u64 (xb : Int), .int .u64 (xc : Int), .int .u64 (xd : Int)] (by kernel_rfl) rfl hnews.out cs_one (by decide) (le_maxLen (by omega)) (by omega) (Nat.zero_le _) (w3.heap.size + 1) (by simp) ?_
                  intro g cap w4 ho4 hg4 hat hlt4
                  have HAP := hid (app_ranget h3.out HRN.out HG2.out HNE.out hg4)
                  have hH4 := HAP.out.2.2
                  simp only [Act.put]
                  refine hK.out _ _ hH4 (fun hH => ?_)
                  clear hK K hH4
                  refine wpAnyH_take (i := 10) (v := .pointer (some ⟨p, 0, none⟩)) rfl (by kernel_rfl) (by kernel_rfl) (by kernel_rfl) (fun _ _ _ h => h) (Or.inl ⟨by rfl, fun w' hw' => by clear hw' ; go_simp⟩) hH ?_
                  simp only [Act.put]
                  refine wpAnyH_take (i := 11) (v := .pointer (some ⟨p, 1, none⟩)) rfl (by kernel_rfl) (by kernel_rfl) (by kernel_rfl) (fun _ _ _ h => h) (Or.inl ⟨by rfl, fun w' hw' => by clear hw' ; go_simp⟩) hH ?_
                  simp only [Act.put]
                  have c4 := HAP.out.1.at_ 1 _ rfl
                  have f4 := HAP.out.1.frozen 1
                  have HO4 := hid ho4
                  have HAT := hid hat
                  clear ho4 hat hg4
                  refine wpAnyH_ready (rs := [12]) (by kernel_rfl) (by simp) ?_
                  refine AllReadyH.cons rfl (fun K hK => ?_) AllReadyH.nil
                  go_simp
                  refine hK.out _ _ (fun j v hv => (World.cell?_setCell_far _ _ _ _ HNP.out).trans (hH j v hv)) (fun hH => ?_)
                  clear hK K hH
                  refine wpAnyH_done (by kernel_rfl) ?_ _
                  try simp only [Act.put]
                  have HM := hid (h3.out.moreT (X := 30) (x := ⟨xa, xb, xc, xd⟩) HAP.out.2.1 HO4.out (vend HAT.out) HROOM.out HXN.out)
                  clear c4 f4
                  generalize (w4.setCell ⟨p, 1, none⟩ (.slice (some ⟨g, 0, none⟩) (SK.T.length + 1) cap)) = w5 at *
                  go_wp2_with fail
                  exact ⟨⟨j + 1, a' + 32, by omega, by go_num, by go_num, by omega, hid (by have := HA'.out; omega), by rw [← HSKN.out]; exact Gw.push HFW.out HNN.out HM.out.1 HM.out.2.1 HM.out.2.2⟩, by simp [intOf]; omega⟩
              · obtain rfl : j = m := by omega
                have hnj2 : ¬ j < (s[a]'hal).toNat := by rw [HMM.out]; omega
                have hnj3 : ¬ (j : Int) < ((s[a]'hal).toNat : Int) := by rw [HMM.out]; omega
                clear hgw
                go_wp2_with fail
                go_ret2
                have hg := HGJ.out
                rw [← HDR.out, ← HUN.out] at hg
                obtain ⟨fq, k1, k2, k3⟩ := hg
                refine ⟨fun _ => ⟨p, fq, rfl, k1, fun b hb => ?_, HB1.out.trans (k2.below HFP.out HB1.out.size)⟩, fun q => absurd HOK.out q⟩
                rcases k3 b hb with h | h
                · exact HFP.out b h
                · exact Nat.le_trans HB1.out.size h
          · have HNO : Hid (¬ okU (sb s)) := hid (fun q => by
              have h1 := q.2.1.2.2
              have h2 := q.2.2
              have hr1 : (rest1 25 (sb s)).length = s.size - a := by
                unfold rest1
                rw [HNUM.out, List.length_drop, HSL.out, ← HA.out]
              rw [HM0.out] at h1
              unfold rest1 at h2
              have h3 := congrArg List.length h2
              rw [List.length_drop] at h3
              have h4 : ((sb s).drop (1 + 25 * num0 (sb s))).length = s.size - a := hr1
              rw [h4] at h3
              have h5 : num0 ((sb s).drop (1 + 25 * num0 (sb s))) = m := HM0.out
              rw [h5] at h3
              simp at h3
              omega)
            have hne : ((s.size : Int) - ((a : Int) + 1) != 32 * ((s[a]'hal).toNat : Int)) = true := by
              rw [bne_iff_ne, hmm]
              omega
            clear hgw hbr hmany hmm hlen
            go_wp2_with fail
            go_ret2
            exact RU.no HNO.out HBR.out
theorem runpack_any (s : ByteArray) (w : World) (hs : s.size ≤ 140737488355328) : Calls Try.prog 22 #[.string s] w (RU w (sb s)) := by
  by_cases h0 : s.size = 0
  · exact runpack_none s w h0
  · by_cases h1 : 8 < num0 (sb s)
    · exact runpack_many s w (by omega) h1
    · exact runpack_go s w (by omega) (by omega) hs
end Go.Proofs.Ytbofabmgfkploaa
