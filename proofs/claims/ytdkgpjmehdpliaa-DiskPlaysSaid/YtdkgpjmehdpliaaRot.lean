/-
  The walk of Rot.
-/
import Derived.Test.YtdkgpjmehdpliaaCalls
namespace Go.Proofs.Ytdkgpjmehdpliaa
open Go.RowKit

theorem wrap8 (n : Nat) (h : n < 256) : IntKind.u8.wrap (n : Int) = n := by
  simp only [IntKind.wrap, IntKind.signed, IntKind.bits]
  simp
  omega
theorem xor_byte (x : UInt8) (m : Nat) (hm : m ≤ 255) : bits .xor .u8 (x.toNat : Int) (m : Int) = ((x ^^^ UInt8.ofNat m).toNat : Int) := by
  have e : ∀ z : BitVec 8, BitVec.ofInt IntKind.u8.bits (z.toNat : Int) = z := fun z => by
    show BitVec.ofInt 8 (z.toNat : Int) = z
    rw [BitVec.ofInt_natCast]; simp
  have hm' : (m : Int) = (((UInt8.ofNat m).toBitVec.toNat : Nat) : Int) := by
    have : (UInt8.ofNat m).toBitVec.toNat = m := by
      show (UInt8.ofNat m).toNat = m
      simp
      omega
    rw [this]
  show IntKind.u8.wrap ((BitVec.ofInt IntKind.u8.bits (x.toBitVec.toNat : Int) ^^^ BitVec.ofInt IntKind.u8.bits (m : Int)).toNat : Int) = _
  rw [hm', e, e]
  exact wrap8 _ (BitVec.isLt _)

theorem rot_end {w : World} {p gs : Nat} {vw : Value} {S : Sp} {k a m : Nat} (h : HasD w p gs vw S) (hk : k < S.secs.length) (ha : a < 384) (hm2 : m ≤ 255) (x : UInt8) (hx : x = S.secs[k].lasts[a]'(by rw [h.wf.len _ (List.getElem_mem hk)]; exact ha)) :
    let w2 := (w.setCell ⟨gs, k * 386 + a, none⟩ (.int .u8 (bits .xor .u8 (x.toNat : Int) (m : Int)))).setCell ⟨gs, k * 386 + 384, none⟩ (.bool true)
    HasD w2 p gs vw { S with secs := S.secs.modify k (fun s => turnS s a m) } ∧ Fr w w2 (fpD p gs vw) := by
  intro w2
  have hf : Fr w w2 [gs] := ((Fr.refl w [gs]).setCell (p := ⟨gs, k * 386 + a, none⟩) (by simp) _).setCell (p := ⟨gs, k * 386 + 384, none⟩) (by simp) _
  have hl := h.wf.len _ (List.getElem_mem hk)
  have r1 := h.secs.set_ (k * 386 + a) (bv (x ^^^ UInt8.ofNat m))
  rw [sec_turn S.secs (newest S.way) h.wf.len k hk a ha] at r1
  have hl2 := set_wf S.secs h.wf.len k ⟨S.secs[k].lasts.set a (x ^^^ UInt8.ofNat m), S.secs[k].marked⟩ (by simpa using hl)
  have hk2 : k < (S.secs.set k ⟨S.secs[k].lasts.set a (x ^^^ UInt8.ofNat m), S.secs[k].marked⟩).length := by simpa using hk
  have r2 := r1.set_ (k * 386 + 384) (.bool true)
  rw [sec_mark _ (newest S.way) hl2 k hk2 true] at r2
  have e : S.secs.modify k (fun s => turnS s a m) = S.secs.set k ⟨S.secs[k].lasts.set a (x ^^^ UInt8.ofNat m), true⟩ := by
    apply List.ext_getElem?
    intro j
    rw [List.getElem?_modify, List.getElem?_set]
    by_cases hj : k = j
    · subst hj
      simp [hk, turnS, hx, hl, ha]
    · simp [hj]
  have ew : Value.int .u8 (bits .xor .u8 (x.toNat : Int) (m : Int)) = bv (x ^^^ UInt8.ofNat m) := by rw [xor_byte x m hm2]; rfl
  rw [e]
  refine ⟨⟨by simpa using hf.row h.disk (by simpa using h.ne1), ?_, hf.own h.wrs (by intro g hg; simp; rintro rfl; exact h.ne3 hg), ?_, h.ne2, h.ne3, ?_⟩, hf.mono (by simp [fpD])⟩
  · show Row ((w.setCell _ (Value.int .u8 (bits .xor .u8 (x.toNat : Int) (m : Int)))).setCell _ _) _ _ _
    rw [ew]
    simpa using r2
  · exact h.ne1
  · refine ⟨set_wf S.secs h.wf.len k _ (by simpa using hl), ?_, by simpa using h.wf.few, h.wf.left, h.wf.less⟩
    intro y hy
    simpa using h.wf.way y hy

set_option maxRecDepth 10000 in
set_option maxHeartbeats 400000 in
theorem rot_ok (p gs : Nat) (vw : Value) (S : Sp) (k a m : Nat) (w : World) (h : HasD w p gs vw S) (hk : k < S.secs.length) (ha : a < 384) (hm : 1 ≤ m) (hm2 : m ≤ 255) (hn : newest S.way k = 0) (hmk : S.secs[k].marked = false) :
    Calls Try.prog 30 #[dptr p, .int .i64 (k : Int), .int .i64 (a : Int), .int .i64 (m : Int)] w (DE w p gs vw ({ S with secs := S.secs.modify k (fun s => turnS s a m) }, 0)) := by
  have hb : (k : Int) < (S.secs.length : Int) := by omega
  have H0 : (0 : Int) ≤ (k : Int) := by omega
  have c0 := h.c0
  have hl := h.wf.len _ (List.getElem_mem hk)
  have cn := h.secs.at_ (k * 386 + 385) _ (sec_newest S.secs (newest S.way) h.wf.len k hk)
  have cm := h.secs.at_ (k * 386 + 384) _ (sec_marked S.secs (newest S.way) h.wf.len k hk)
  have cb := h.secs.at_ (k * 386 + a) _ ((sec_byte S.secs (newest S.way) h.wf.len k a hk ha).trans (by rw [bvs, List.getElem?_map, List.getElem?_eq_getElem (by omega)]; rfl : _ = some (bv (S.secs[k].lasts[a]'(by omega)))))
  have fb := h.secs.frozen (k * 386 + a)
  have fm := h.secs.frozen (k * 386 + 384)
  rw [hn] at cn
  rw [hmk] at cm
  obtain ⟨x, hx⟩ : ∃ x, x = S.secs[k].lasts[a]'(by omega) := ⟨_, rfl⟩
  rw [← hx] at cb
  have hx1 : x.toNat < 256 := UInt8.toNat_lt x
  have HE := hid (rot_end h hk ha hm2 x hx)
  clear hx hn
  unfold bv at cb
  unfold dptr
  go_enter Try.func30, Try.ntmps30
  go_wp2_with (go_at_call 38; refine (has_yes _ p gs vw S _ h H0 hb).mono ?_; rintro e w1 ⟨rfl, rfl⟩)
  go_region
  go_wp2_with fail
  go_ret
  exact ⟨vw, rfl, HE.out.1.drew, HE.out.2.drew, fun _ hg => .inl hg⟩

/-- Rot refuses -/
def rotBad (S : Sp) (i a m : Int) : Prop := ¬ S.is i ∨ a < 0 ∨ 384 ≤ a ∨ m < 1 ∨ 255 < m

set_option maxRecDepth 10000 in
set_option maxHeartbeats 400000 in
theorem rot_bad (p gs : Nat) (vw : Value) (S : Sp) (i a m : Int) (w : World) (h : HasD w p gs vw S) (hb : rotBad S i a m) :
    Calls Try.prog 30 #[dptr p, .int .i64 i, .int .i64 a, .int .i64 m] w (DE w p gs vw (S, 1)) := by
  have HH := hid h
  by_cases hi : S.is i
  · obtain ⟨h2, h3⟩ := hi
    have hq : (decide (a < 0) || decide (384 ≤ a) || decide (m < 1) || decide (255 < m)) = true := by
      rcases hb with hb | hb | hb | hb | hb
      · exact absurd ⟨h2, h3⟩ hb
      · simp [hb]
      · simp [hb]
      · simp [hb]
      · simp [hb]
    clear hb
    unfold dptr
    go_enter Try.func30, Try.ntmps30
    go_wp2_with (go_at_call 38; refine (has_yes _ p gs vw S _ h h2 h3).mono ?_; rintro e w1 ⟨rfl, rfl⟩)
    all_goals (go_ret; exact DE.same HH.out)
  · clear hb
    unfold dptr
    go_enter Try.func30, Try.ntmps30
    go_wp2_with (go_at_call 38; refine (has_no _ p gs vw S _ h hi).mono ?_; rintro e w1 ⟨rfl, rfl⟩)
    go_ret
    exact DE.same HH.out

set_option maxRecDepth 10000 in
set_option maxHeartbeats 400000 in
theorem rot_busy (p gs : Nat) (vw : Value) (S : Sp) (k : Nat) (a m : Int) (w : World) (h : HasD w p gs vw S) (hk : k < S.secs.length) (ha : 0 ≤ a) (ha2 : a < 384) (hm : 1 ≤ m) (hm2 : m ≤ 255) (hn : newest S.way k ≠ 0) :
    Calls Try.prog 30 #[dptr p, .int .i64 (k : Int), .int .i64 a, .int .i64 m] w (DE w p gs vw (S, 10)) := by
  have hb : (k : Int) < (S.secs.length : Int) := by omega
  have H0 : (0 : Int) ≤ (k : Int) := by omega
  have c0 := h.c0
  have cn := h.secs.at_ (k * 386 + 385) _ (sec_newest S.secs (newest S.way) h.wf.len k hk)
  have hn1 : 0 < ((newest S.way k : Nat) : Int) := by omega
  have HH := hid h
  clear hn
  unfold dptr
  go_enter Try.func30, Try.ntmps30
  go_wp2_with (go_at_call 38; refine (has_yes _ p gs vw S _ h H0 hb).mono ?_; rintro e w1 ⟨rfl, rfl⟩)
  go_ret
  exact DE.same HH.out
set_option maxRecDepth 10000 in
set_option maxHeartbeats 400000 in
theorem rot_twice (p gs : Nat) (vw : Value) (S : Sp) (k : Nat) (a m : Int) (w : World) (h : HasD w p gs vw S) (hk : k < S.secs.length) (ha : 0 ≤ a) (ha2 : a < 384) (hm : 1 ≤ m) (hm2 : m ≤ 255) (hn : newest S.way k = 0) (hmk : S.secs[k].marked = true) :
    Calls Try.prog 30 #[dptr p, .int .i64 (k : Int), .int .i64 a, .int .i64 m] w (DE w p gs vw (S, 7)) := by
  have hb : (k : Int) < (S.secs.length : Int) := by omega
  have H0 : (0 : Int) ≤ (k : Int) := by omega
  have c0 := h.c0
  have cn := h.secs.at_ (k * 386 + 385) _ (sec_newest S.secs (newest S.way) h.wf.len k hk)
  have cm := h.secs.at_ (k * 386 + 384) _ (sec_marked S.secs (newest S.way) h.wf.len k hk)
  rw [hn] at cn
  rw [hmk] at cm
  have HH := hid h
  clear hn hmk
  unfold dptr
  go_enter Try.func30, Try.ntmps30
  go_wp2_with (go_at_call 38; refine (has_yes _ p gs vw S _ h H0 hb).mono ?_; rintro e w1 ⟨rfl, rfl⟩)
  go_ret
  exact DE.same HH.out

theorem rot_any (p gs : Nat) (vw : Value) (S : Sp) (i a m : Int) (w : World) (h : HasD w p gs vw S) :
    Calls Try.prog 30 #[dptr p, .int .i64 i, .int .i64 a, .int .i64 m] w (DE w p gs vw (S.rot i a m)) := by
  by_cases hb : rotBad S i a m
  · have e : S.rot i a m = (S, 1) := by unfold Sp.rot; exact if_pos hb
    rw [e]
    exact rot_bad p gs vw S i a m w h hb
  · have hi : S.is i := Classical.byContradiction fun h => hb (.inl h)
    have hb2 : 0 ≤ a ∧ a < 384 ∧ 1 ≤ m ∧ m ≤ 255 := by
      unfold rotBad at hb
      omega
    obtain ⟨b1, b2, b3, b4⟩ := hb2
    obtain ⟨k, rfl⟩ := Int.eq_ofNat_of_zero_le hi.1
    have hk : k < S.secs.length := by have := hi.2; omega
    have eb : S.rot k a m = if newest S.way k ≠ 0 then (S, 10) else if S.secs[k].marked = true then (S, 7) else ({ S with secs := S.secs.modify k (fun s => turnS s a.toNat m.toNat) }, 0) := by
      unfold Sp.rot
      unfold rotBad at hb
      rw [if_neg hb]
      simp [hk]
    rw [eb]
    by_cases hn : newest S.way k = 0
    · rw [if_neg (by simp [hn])]
      cases hmk : S.secs[k].marked with
      | true =>
        rw [if_pos rfl]
        exact rot_twice p gs vw S k a m w h hk b1 b2 b3 b4 hn hmk
      | false =>
        rw [if_neg (by simp)]
        obtain ⟨a', rfl⟩ := Int.eq_ofNat_of_zero_le b1
        obtain ⟨m', rfl⟩ := Int.eq_ofNat_of_zero_le (show 0 ≤ m by omega)
        exact rot_ok p gs vw S k a' m' w h hk (by omega) (by omega) (by omega) hn hmk
    · rw [if_pos hn]
      exact rot_busy p gs vw S k a m w h hk b1 b2 b3 b4 hn

/-! ### Read and Lasts, in every state -/
theorem read_any (p gs : Nat) (vw : Value) (S : Sp) (i : Int) (w : World) (h : HasD w p gs vw S) (hc : S.count ≤ 1048576) :
    Calls Try.prog 17 #[dptr p, .int .i64 i] w fun e w' => TN (S.read i) e ∧ ∃ n, w' = w.drewN n := by
  have hway := h.wf.less
  by_cases hi : S.is i
  · obtain ⟨k, rfl⟩ := Int.eq_ofNat_of_zero_le hi.1
    have hk : k < S.secs.length := by have := hi.2; omega
    cases ho : S.on with
    | false =>
      have e : S.read k = ([], 6) := by unfold Sp.read; rw [if_neg (fun hn => hn hi), if_pos ho]
      rw [e]
      refine (read_off p gs vw S k w h hi.1 hi.2 ho).mono ?_
      rintro e w' ⟨h1, rfl⟩
      exact ⟨h1, 0, rfl⟩
    | true =>
      have e : S.read k = (lastw S.way k S.secs[k].lasts, 0) := by
        unfold Sp.read; rw [if_neg (fun hn => hn hi), if_neg (by simp [ho])]; simp [hk]
      rw [e]
      rcases newest_get S.way k S.secs[k].lasts with ⟨h1, h2, _⟩ | ⟨j, h1, hj, _, h2⟩
      · rw [h2]
        refine (read_old p gs vw S k w h hk ho h1).mono ?_
        rintro e w' ⟨h1, rfl⟩
        exact ⟨h1, 0, rfl⟩
      · obtain ⟨g, c, hv, _, _⟩ := h.wrShape (by omega)
        rw [← h2]
        exact read_new p gs vw S k j g c w h hk ho h1 hj hv (by omega)
  · have e : S.read i = ([], 1) := by unfold Sp.read; rw [if_pos hi]
    rw [e]
    refine (read_no p gs vw S i w h hi).mono ?_
    rintro e w' ⟨h1, rfl⟩
    exact ⟨h1, 0, rfl⟩
theorem lasts_any (p gs : Nat) (vw : Value) (S : Sp) (i : Int) (w : World) (h : HasD w p gs vw S) :
    Calls Try.prog 21 #[dptr p, .int .i64 i] w fun e w' => e = .returned (str (if S.is i then (S.secs.getD i.toNat ⟨[], false⟩).lasts else [])) ∧ w = w' := by
  by_cases hi : S.is i
  · obtain ⟨k, rfl⟩ := Int.eq_ofNat_of_zero_le hi.1
    have hk : k < S.secs.length := by have := hi.2; omega
    rw [if_pos hi]
    have e : S.secs.getD (k : Int).toNat ⟨[], false⟩ = S.secs[k] := by simp [hk]
    rw [e]
    exact lasts_yes p gs vw S k w h hk
  · rw [if_neg hi]
    exact lasts_no p gs vw S i w h hi
end Go.Proofs.Ytdkgpjmehdpliaa
