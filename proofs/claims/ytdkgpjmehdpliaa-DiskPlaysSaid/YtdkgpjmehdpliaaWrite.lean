/-
  The walk of Write.
-/
import Derived.Test.YtdkgpjmehdpliaaBig
import Derived.BigRegion
import Derived.Deep.RegionHeld
namespace Go.Proofs.Ytdkgpjmehdpliaa
open Go.RowKit

theorem row_of {w : World} {g : Nat} {e : TypeId} {cs : List Value} (h : w.heap[g]? = some (.cells cs.toArray e (0, 0))) : Row w g e cs := h

/-- a write's cells, before its bytes are there -/
def z384 : List Value := List.replicate 384 (.int .u8 0)
theorem z384_len : z384.length = 384 := List.length_replicate
def wrz (i : Int) : List Value := .int .i64 i :: z384
theorem wrz_set (i : Int) : (wrz 0).set 0 (.int .i64 i) = wrz i := rfl
theorem zeroWr (w : World) : (zeroValue 71).run Try.prog w = .ok (.agg (wrz 0).toArray) w := by kernel_rfl
theorem infoWr : (Try.prog.info? 71).map (fun i => (i.zero, i.size, i.bytes)) = some (some (.agg (wrz 0).toArray), 385, 392) := by kernel_rfl
theorem sizeWr : (Try.prog.info? 71).map (·.size) = some 385 := by kernel_rfl
theorem sizeU8 : (Try.prog.info? 5).map (·.size) = some 1 := by kernel_rfl
theorem wrz_len (i : Int) : (wrz i).length = 385 := by rw [wrz, List.length_cons, z384_len]
theorem wrz_one (i : Int) : ∀ u ∈ wrz i, u.oneCell' = true := by
  intro u hu
  rcases List.mem_cons.1 hu with rfl | hu
  · rfl
  · rw [List.eq_of_mem_replicate hu]; rfl
theorem wrz_copy (k : Nat) (s : List UInt8) (h : s.length = 384) : splice (wrz (k : Int)) 1 (bvs s) = wrCells ⟨k, s⟩ := by
  simp only [splice, wrz, wrCells, bvs_len, h, List.take_succ_cons, List.take_zero]
  rw [List.drop_eq_nil_of_le (by rw [List.length_cons, z384_len]; exact Nat.le_refl _)]
  simp

/-- behind the append and the store of the new slice: the disk but for its newest writes -/
theorem app_facts {w3 w4 : World} {p gs : Nat} {vw : Value} {S : Sp} {g1 : Nat} {ob : Obj} {xs : List Value} (h3 : HasD w3 p gs vw S) (hr3 : Row w3 g1 71 xs) (hne : ∀ b ∈ fpD p gs vw, b ≠ g1) (hg : (w3.drew.alloc ob).grownBy w4 vw.ownBlock) :
    Row w4 p 64 [.slice (some ⟨gs, 0, none⟩) S.secs.length S.secs.length, vw, .bool S.on, .int .i64 (S.left : Int), .int .i64 (S.count : Int)] ∧
    Row w4 gs 69 (secRows S.secs (newest S.way)).flatten ∧ w4.rangeAt g1 0 xs ∧ Fr w3 w4 vw.ownBlock.toList := by
  have h1 : (w3.drew.alloc ob).heap.size = w3.heap.size + 1 := by simp
  have far : ∀ b, b < w3.heap.size → vw.ownBlock ≠ some b → w4.heap[b]? = w3.heap[b]? := fun b hb hn => (hg.block b (by omega) (Ne.symm hn)).trans (Below.heap_alloc w3.drew ob b hb)
  refine ⟨(far p h3.disk.lt h3.ne2).trans h3.disk, (far gs h3.secs.lt h3.ne3).trans h3.secs, ?_, ?_⟩
  · have hr4 : Row w4 g1 71 xs := (far g1 hr3.lt (fun e => hne g1 (by simp [fpD, e]) rfl)).trans hr3
    intro j v hv
    rw [Nat.zero_add]
    exact hr4.at_ j v hv
  · exact (((Fr.refl w3 vw.ownBlock.toList).drew.alloc ob).grown hg (by intro b hb; exact .inl (by simp [hb])))

/-- behind the store of the newest write's place -/
theorem write_end {w w1 w3 w4 : World} {p gs : Nat} {vw : Value} {S : Sp} {k g cap : Nat} {s : List UInt8} (hf1 : Fr w w1 [p]) (hf3 : Fr w1 w3 []) (h3 : HasD w3 p gs vw S) (hf4 : Fr w3 w4 vw.ownBlock.toList) (hs : s.length = 384) (hk : k < S.secs.length) (hc : S.way.length < S.count)
    (hp : Row w4 p 64 [.slice (some ⟨gs, 0, none⟩) S.secs.length S.secs.length, vw, .bool S.on, .int .i64 (S.left : Int), .int .i64 (S.count : Int)])
    (hq : Row w4 gs 69 (secRows S.secs (newest S.way)).flatten)
    (ho : w4.ownsRow 0 71 385 (.slice (some ⟨g, 0, none⟩) (S.way.length + 1) cap) (S.way.length + 1) ((wrRows S.way).flatten ++ wrCells ⟨k, s⟩))
    (hat : vw.ownBlock = some g ∨ g = w3.heap.size + 1) :
    let w5 := w4.setCell ⟨p, 1, none⟩ (.slice (some ⟨g, 0, none⟩) (S.way.length + 1) cap)
    let w6 := w5.setCell ⟨gs, k * 386 + 385, none⟩ (.int .i64 ((S.way.length : Int) + 1))
    HasD w6 p gs (.slice (some ⟨g, 0, none⟩) (S.way.length + 1) cap) { S with way := S.way ++ [⟨k, s⟩] } ∧ Fr w w6 (fpD p gs vw) ∧ (vw.ownBlock = some g ∨ w.heap.size ≤ g) := by
  intro w5 w6
  have hgp : g ≠ p := by
    rintro rfl
    rcases hat with h | h
    · exact h3.ne2 h
    · have := h3.disk.lt; omega
  have hgs : g ≠ gs := by
    rintro rfl
    rcases hat with h | h
    · exact h3.ne3 h
    · have := h3.secs.lt; omega
  have hf6 : Fr w w6 (fpD p gs vw) := by
    have a1 : Fr w w3 (fpD p gs vw) := (hf1.mono (fq := fpD p gs vw) (by simp [fpD])).trans hf3 (by simp)
    have a2 : Fr w w4 (fpD p gs vw) := a1.trans hf4 (by intro b hb _; simp at hb; simp [fpD, hb])
    exact (a2.setCell (p := ⟨p, 1, none⟩) (.inl (by simp [fpD])) _).setCell (p := ⟨gs, k * 386 + 385, none⟩) (.inl (by simp [fpD])) _
  refine ⟨⟨?_, ?_, ?_, h3.ne1, ?_, ?_, ?_⟩, hf6, ?_⟩
  · have := (hp.set_ 1 (.slice (some ⟨g, 0, none⟩) (S.way.length + 1) cap)).far (p := ⟨gs, k * 386 + 385, none⟩) h3.ne1 (.int .i64 ((S.way.length : Int) + 1))
    exact this
  · have := (hq.far (p := ⟨p, 1, none⟩) (Ne.symm h3.ne1) (.slice (some ⟨g, 0, none⟩) (S.way.length + 1) cap)).set_ (k * 386 + 385) (.int .i64 ((S.way.length + 1 : Nat) : Int))
    rw [sec_new S.secs (newest S.way) (newest (S.way ++ [⟨k, s⟩])) h3.wf.len k hk (S.way.length + 1) (by rw [newest_snoc, if_pos rfl]) (fun j hj => by rw [newest_snoc, if_neg (Ne.symm hj)])] at this
    exact this
  · have e : (wrRows (S.way ++ [⟨k, s⟩])).flatten = (wrRows S.way).flatten ++ wrCells ⟨k, s⟩ := by simp [wrRows]
    have a0 : Fr w4 w6 [p, gs] := ((Fr.refl w4 [p, gs]).setCell (p := ⟨p, 1, none⟩) (by simp) _).setCell (p := ⟨gs, k * 386 + 385, none⟩) (by simp) _
    have := a0.own ho (by intro b hb; cases hb; simp [hgp, hgs])
    simp only [List.length_append, List.length_cons, List.length_nil, Nat.zero_add]
    rw [e]
    exact this
  · simpa [Value.ownBlock] using hgp
  · simpa [Value.ownBlock] using hgs
  · refine ⟨h3.wf.len, ?_, h3.wf.few, h3.wf.left, ?_⟩
    · intro x hx
      rcases List.mem_append.1 hx with hx | hx
      · exact h3.wf.way x hx
      · simp at hx; subst hx; exact ⟨hk, hs⟩
    · simp only [List.length_append, List.length_cons, List.length_nil]; omega
  · rcases hat with h | h
    · exact .inl h
    · right; have := hf1.size; have := hf3.size; omega

theorem Sp.write_ok {S : Sp} {k : Nat} {s : List UInt8} (hk : k < S.secs.length) (hs : s.length = 384) (ho : S.on = true) (hl : S.left ≠ 1) :
    S.write k s = ({ S with left := S.left - 1, count := S.count + 1, way := S.way ++ [⟨k, s⟩] }, 0) := by
  unfold Sp.write
  rw [if_neg (by rintro (h | h); exact h ⟨by omega, by omega⟩; exact h hs), Sp.goes_more ho hl, if_pos rfl]
  rfl

set_option maxRecDepth 10000 in
set_option maxHeartbeats 1000000 in
theorem write_ok (p gs : Nat) (vw : Value) (S : Sp) (k : Nat) (s : ByteArray) (w : World) (h : HasD w p gs vw S) (hk : k < S.secs.length) (hs : s.size = 384) (ho : S.on = true) (hl : S.left ≠ 1) (hc : S.count ≤ 1048576) :
    Calls Try.prog 24 #[dptr p, .int .i64 (k : Int), .string s] w (DE w p gs vw (S.write k (sb s))) := by
  have hb : (k : Int) < (S.secs.length : Int) := by omega
  have H0 : (0 : Int) ≤ (k : Int) := by omega
  have hsz : (s.size : Int) = 384 := by omega
  have hway := h.wf.less
  have hzw := zeroWr
  have hbw := wrz_set
  rw [Sp.write_ok hk (by rw [sb_len]; exact hs) ho hl]
  have HS := hid hs
  clear hs
  unfold dptr
  go_enter Try.func24, Try.ntmps24
  go_wp2_with (first
    | (go_at_call 38; refine (has_yes _ p gs vw S _ h H0 hb).mono ?_; rintro e w1 ⟨rfl, rfl⟩)
    | (go_at_call 43; refine (goes_more p gs vw S _ h ho hl (by omega)).mono ?_; rintro e w1 ⟨rfl, h1, hf1⟩; have hn := heap_alloc_new w1 (.cells (wrz 0).toArray 71); have HN := hid hn; clear hn)
    | (with_reducible refine wpList_store_row rfl 71 (.tmp 8) (.tmp 26) rfl w1.heap.size (wrz (k : Int)).toArray rfl rfl 71 (wrz 0).toArray HN.out (by simp [sizeWr, wrz_len]) (by simp [wrz_len]) (all_oneCell_toArray (wrz_one _)) ?_; have hn := setRow_heap _ w1.heap.size _ (wrz (k : Int)).toArray 71 (0, 0) HN.out; have HN2 := hid (row_of hn); clear hn)
    | (with_reducible refine wpl_copy_str rfl (.tmp 28) (.tmp 29) 59 9 rfl 5 Try.underlying59 sizeU8 w1.heap.size 1 384 384 rfl s rfl (wrz (k : Int)) 71 HN2.out ?_ (hid (by rw [HS.out]; exact Nat.le_refl _)) (hid (by rw [HS.out, wrz_len]; exact Nat.le_refl _)); intro w3 hr3 hg3))
  have hf3 : Fr w1 w3 [] := (((Fr.refl w1 []).alloc _).grown (grownBy_setRow _ w1.heap.size _) (by intro b hb; cases hb; exact .inr (Nat.le_refl _))).grown hg3 (by intro b hb; cases hb; exact .inr (Nat.le_refl _))
  have h3 := h1.fr hf3 (by simp)
  rw [wrz_copy k (sb s) (by rw [sb_len]; exact HS.out)] at hr3
  have hX : w3.rangeAt w1.heap.size 0 (wrCells ⟨k, sb s⟩) := fun j v hv => by rw [Nat.zero_add]; exact hr3.at_ j v hv
  have hlw : (wrCells ⟨k, sb s⟩).length = 385 := by simp [wrCells, bvs_len, sb_len, HS.out]
  have c31 := h3.c1
  refine wp_region_held_drew (S := fun w' => w'.rangeAt w1.heap.size 0 (wrCells ⟨k, sb s⟩)) (by kernel_rfl) hX (fun hH => ?_)
  refine wpAnyH_take (i := 0) (v := .pointer (some ⟨p, 0, none⟩)) rfl (by kernel_rfl) (by kernel_rfl) (by kernel_rfl) (fun _ _ _ h => h) (Or.inl ⟨by rfl, fun w' hw' => by go_simp⟩) hH ?_
  simp only [Act.put]
  refine wpAnyH_take (i := 1) (v := .pointer (some ⟨p, 0, none⟩)) rfl (by kernel_rfl) (by kernel_rfl) (by kernel_rfl) (fun _ _ _ h => h) (Or.inl ⟨by rfl, fun w' hw' => by go_simp⟩) hH ?_
  simp only [Act.put]
  refine wpAnyH_take (i := 2) (v := .pointer (some ⟨p, 0, none⟩)) rfl (by kernel_rfl) (by kernel_rfl) (by kernel_rfl) (fun _ _ _ h => h) (Or.inl ⟨by rfl, fun w' hw' => by go_simp⟩) hH ?_
  simp only [Act.put]
  refine wpAnyH_take (i := 3) (v := .pointer (some ⟨p, 1, none⟩)) rfl (by kernel_rfl) (by kernel_rfl) (by kernel_rfl) (fun _ _ _ h => h) (Or.inl ⟨by rfl, fun w' hw' => by go_simp⟩) hH ?_
  simp only [Act.put]
  refine wpAnyH_take (i := 5) (v := .agg (wrCells ⟨k, sb s⟩).toArray) rfl (by kernel_rfl) (by kernel_rfl) (by kernel_rfl) (fun _ _ _ h => h)
    (yieldsIf_load_mid (by rfl) 71 (.tmp 8) rfl w1.heap.size 0 rfl _ _ (fun _ hw => hw) Try.underlying71 rfl (by rw [hlw]; exact sizeWr)) hH ?_
  simp only [Act.put]
  obtain ⟨i0, hi, hz0, hz1, hz2⟩ := info_parts infoWr
  have hne : ∀ b ∈ fpD p gs vw, b ≠ w1.heap.size := fun b hb => by have := h1.lt b hb; omega
  have hnews : ∀ j u, (wrCells ⟨k, sb s⟩)[j]? = some u → (w3.drew.alloc (.cells (wrCells ⟨k, sb s⟩).toArray 71)).cell? ((⟨w3.heap.size, 0, none⟩ : Addr).add j) = some u := by
    have := World.news_of_block (heap_alloc_new w3.drew (.cells (wrCells ⟨k, sb s⟩).toArray 71))
    simpa using this
  refine wpAnyH_ready (rs := [4, 6]) (by kernel_rfl) (by simp) ?_
  refine AllReadyH.cons rfl (fun K hK => ?_) (AllReadyH.cons rfl (fun K hK => ?_) AllReadyH.nil)
  · go_simp
    refine hK.out _ _ hH (fun hH2 => ?_)
    refine wpAnyH_ready (rs := [6]) (by kernel_rfl) (by simp) ?_
    refine AllReadyH.cons rfl (fun K hK => ?_) AllReadyH.nil
    rw [if_pos (by rfl)]
    refine wp_slice1 62 71 (.tmp 36) rfl i0 _ 385 Try.underlying62 hi hz0 hz1 (by decide) (by decide) (wrCells ⟨k, sb s⟩) rfl hlw ?_
    simp only [Act.put]
    refine hK.out _ _ (World.rangeAt_alloc hH _) (fun hH3 => ?_)
    refine wpAnyH_ready (rs := [7]) (by kernel_rfl) (by simp) ?_
    refine AllReadyH.cons rfl (fun K hK => ?_) AllReadyH.nil
    refine step_append_lies _ rfl (.tmp 35) (.tmp 37) 62 rfl 0 71 i0 _ 385 392 Try.underlying62 hi hz0 hz1 hz2 (wrz_len 0) (by decide) vw S.way.length (wrRows S.way).flatten rfl ((h3.wrs.drew).alloc _) ⟨w3.heap.size, 0, none⟩ 1 1 (wrCells ⟨k, sb s⟩) rfl (by rw [hlw]) hnews (cells_one_wr _) (by decide) (le_maxLen (by omega)) (by omega) (Nat.zero_le _) (w3.heap.size + 1) (by simp) ?_
    intro g cap w4 ho4 hg4 hat hlt4
    obtain ⟨q1, q2, q3, q4⟩ := app_facts h3 hr3 hne hg4
    simp only [Act.put]
    refine hK.out _ _ q3 (fun hH4 => ?_)
    refine wpAnyH_take (i := 8) (v := .pointer (some ⟨p, 0, none⟩)) rfl (by kernel_rfl) (by kernel_rfl) (by kernel_rfl) (fun _ _ _ h => h) (Or.inl ⟨by rfl, fun w' hw' => by go_simp⟩) hH4 ?_
    simp only [Act.put]
    refine wpAnyH_take (i := 9) (v := .pointer (some ⟨p, 1, none⟩)) rfl (by kernel_rfl) (by kernel_rfl) (by kernel_rfl) (fun _ _ _ h => h) (Or.inl ⟨by rfl, fun w' hw' => by go_simp⟩) hH4 ?_
    simp only [Act.put]
    have c41 := q1.at_ 1 _ rfl
    have f41 := q1.frozen 1
    refine wpAnyH_ready (rs := [10]) (by kernel_rfl) (by simp) ?_
    refine AllReadyH.cons rfl (fun K hK => ?_) AllReadyH.nil
    go_simp
    have hH5 : (w4.setCell ⟨p, 1, none⟩ (.slice (some ⟨g, 0, none⟩) (S.way.length + 1) cap)).rangeAt w1.heap.size 0 (wrCells ⟨k, sb s⟩) := fun j v hv => by
      rw [World.cell?_setCell_far _ _ _ _ (hne p (by simp [fpD]))]
      exact q3 j v hv
    refine hK.out _ _ hH5 (fun hH6 => ?_)
    refine wpAnyH_done (by kernel_rfl) ?_ _
    have WE := hid (write_end (k := k) (s := sb s) hf1 hf3 h3 q4 (by rw [sb_len]; exact HS.out) hk (by show S.way.length < S.count + 1; omega) q1 q2 ho4 hat)
    have r1 := q1.set_ 1 (.slice (some ⟨g, 0, none⟩) (S.way.length + 1) cap)
    have r2 := q2.far (p := ⟨p, 1, none⟩) (Ne.symm h3.ne1) (.slice (some ⟨g, 0, none⟩) (S.way.length + 1) cap)
    have c50 := r1.at_ 0 _ rfl
    have c51 := r1.at_ 1 _ rfl
    have c5n := r2.at_ _ _ (sec_newest S.secs (newest S.way) h3.wf.len k hk)
    have f5n := r2.frozen (k * 386 + 385)
    generalize (w4.setCell ⟨p, 1, none⟩ (.slice (some ⟨g, 0, none⟩) (S.way.length + 1) cap)) = w5 at *
    clear hH hH2 hH3 hH4 hH5 hH6 q1 q2 q3 q4 r1 r2 c41 f41 ho4 hg4 c31 hX hr3 hf3
    go_wp2_with fail
    go_region
    go_wp2_with fail
    go_ret
    exact ⟨_, rfl, (WE.out.1).drew, (WE.out.2.1).drew, fun g' hg' => by cases hg'; exact WE.out.2.2⟩
  · rw [if_pos (by rfl)]
    refine wp_slice1 62 71 (.tmp 36) rfl i0 _ 385 Try.underlying62 hi hz0 hz1 (by decide) (by decide) (wrCells ⟨k, sb s⟩) rfl hlw ?_
    simp only [Act.put]
    refine hK.out _ _ (World.rangeAt_alloc hH _) (fun hH3 => ?_)
    have c32 : (w3.alloc (.cells (wrCells ⟨k, sb s⟩).toArray 71)).cell? ⟨p, 1, none⟩ = some vw := (World.cell?_alloc_lt _ _ _ h3.disk.lt).trans c31
    refine wpAnyH_ready (rs := [4]) (by kernel_rfl) (by simp) ?_
    refine AllReadyH.cons rfl (fun K hK => ?_) AllReadyH.nil
    go_simp
    refine hK.out _ _ hH3 (fun hH2 => ?_)
    refine wpAnyH_ready (rs := [7]) (by kernel_rfl) (by simp) ?_
    refine AllReadyH.cons rfl (fun K hK => ?_) AllReadyH.nil
    refine step_append_lies _ rfl (.tmp 35) (.tmp 37) 62 rfl 0 71 i0 _ 385 392 Try.underlying62 hi hz0 hz1 hz2 (wrz_len 0) (by decide) vw S.way.length (wrRows S.way).flatten rfl ((h3.wrs.drew).alloc _) ⟨w3.heap.size, 0, none⟩ 1 1 (wrCells ⟨k, sb s⟩) rfl (by rw [hlw]) hnews (cells_one_wr _) (by decide) (le_maxLen (by omega)) (by omega) (Nat.zero_le _) (w3.heap.size + 1) (by simp) ?_
    intro g cap w4 ho4 hg4 hat hlt4
    obtain ⟨q1, q2, q3, q4⟩ := app_facts h3 hr3 hne hg4
    simp only [Act.put]
    refine hK.out _ _ q3 (fun hH4 => ?_)
    refine wpAnyH_take (i := 8) (v := .pointer (some ⟨p, 0, none⟩)) rfl (by kernel_rfl) (by kernel_rfl) (by kernel_rfl) (fun _ _ _ h => h) (Or.inl ⟨by rfl, fun w' hw' => by go_simp⟩) hH4 ?_
    simp only [Act.put]
    refine wpAnyH_take (i := 9) (v := .pointer (some ⟨p, 1, none⟩)) rfl (by kernel_rfl) (by kernel_rfl) (by kernel_rfl) (fun _ _ _ h => h) (Or.inl ⟨by rfl, fun w' hw' => by go_simp⟩) hH4 ?_
    simp only [Act.put]
    have c41 := q1.at_ 1 _ rfl
    have f41 := q1.frozen 1
    refine wpAnyH_ready (rs := [10]) (by kernel_rfl) (by simp) ?_
    refine AllReadyH.cons rfl (fun K hK => ?_) AllReadyH.nil
    go_simp
    have hH5 : (w4.setCell ⟨p, 1, none⟩ (.slice (some ⟨g, 0, none⟩) (S.way.length + 1) cap)).rangeAt w1.heap.size 0 (wrCells ⟨k, sb s⟩) := fun j v hv => by
      rw [World.cell?_setCell_far _ _ _ _ (hne p (by simp [fpD]))]
      exact q3 j v hv
    refine hK.out _ _ hH5 (fun hH6 => ?_)
    refine wpAnyH_done (by kernel_rfl) ?_ _
    have WE := hid (write_end (k := k) (s := sb s) hf1 hf3 h3 q4 (by rw [sb_len]; exact HS.out) hk (by show S.way.length < S.count + 1; omega) q1 q2 ho4 hat)
    have r1 := q1.set_ 1 (.slice (some ⟨g, 0, none⟩) (S.way.length + 1) cap)
    have r2 := q2.far (p := ⟨p, 1, none⟩) (Ne.symm h3.ne1) (.slice (some ⟨g, 0, none⟩) (S.way.length + 1) cap)
    have c50 := r1.at_ 0 _ rfl
    have c51 := r1.at_ 1 _ rfl
    have c5n := r2.at_ _ _ (sec_newest S.secs (newest S.way) h3.wf.len k hk)
    have f5n := r2.frozen (k * 386 + 385)
    generalize (w4.setCell ⟨p, 1, none⟩ (.slice (some ⟨g, 0, none⟩) (S.way.length + 1) cap)) = w5 at *
    clear hH hH2 hH3 hH4 hH5 hH6 q1 q2 q3 q4 r1 r2 c41 f41 ho4 hg4 c31 c32 hX hr3 hf3
    go_wp2_with fail
    go_region
    go_wp2_with fail
    go_ret
    exact ⟨_, rfl, (WE.out.1).drew, (WE.out.2.1).drew, fun g' hg' => by cases hg'; exact WE.out.2.2⟩
end Go.Proofs.Ytdkgpjmehdpliaa
