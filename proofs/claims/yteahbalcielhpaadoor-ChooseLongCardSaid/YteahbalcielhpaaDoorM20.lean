/-
  A string's signs, one by one; strings.ContainsRune.
-/
import Derived.Test.YteahbalcielhpaaDoorM19
import Derived.Lib.OthersKept
import Derived.WalkSmall
import Derived.Shelf.Small.Strs
import Derived.Test.YteahbalcielhpaaDoorM16
import Derived.Test.YteahbalcielhpaaDoorM18
namespace Go.Proofs.YteahbalcielhpaaDoor
open Go.RowKit
set_option maxRecDepth 10000

/-- signs as a string -/
def strL (L : List Nat) : ByteArray := ⟨(L.map UInt8.ofNat).toArray⟩
theorem strL_size (L : List Nat) : (strL L).size = L.length := by simp [strL, ByteArray.size]
theorem strL_get (L : List Nat) (hL : ∀ c ∈ L, c < 128) (k : Nat) (h : k < L.length) : ((strL L)[k]'(by rw [strL_size]; exact h)).toNat = L[k] := by
  have h1 := hL _ (List.getElem_mem h)
  have e : (strL L)[k]'(by rw [strL_size]; exact h) = UInt8.ofNat L[k] := by
    show (strL L).data[k]'_ = _
    simp [strL]
  rw [e]
  simp
  omega
/-- what a step of the iterator leaves -/
structure Stepped (b : Nat) (W W1 : World) : Prop where
  below : ∀ {B : Nat} {w0 : World}, B ≤ b → Below B w0 W → Below B w0 W1
  other : ∀ {j : Nat}, j ≠ b → W1.heap[j]? = W.heap[j]?
  size : W1.heap.size = W.heap.size
theorem sign_next (P : Program) (L : List Nat) (hL : ∀ c ∈ L, c < 128) {W : World} {b k : Nat} (hI : W.heap[b]? = some (.stringIter (strL L) k)) (h : k < L.length) :
    ∃ (c : Nat) (W1 : World), c ∈ L ∧ L.take (k + 1) = L.take k ++ [c] ∧ (∀ ty, (Instr.next (.pointer (some ⟨b, 0, none⟩)) true ty).run P W = .ok (.tuple #[.bool true, .int .i64 (k : Int), .int .i32 (c : Int)]) W1) ∧
      W1.heap[b]? = some (.stringIter (strL L) (k + 1)) ∧ Stepped b W W1 := by
  have hs : k < (strL L).size := by rw [strL_size]; exact h
  have hg := strL_get L hL k h
  refine ⟨L[k], W.iterAt b (strL L) (k + 1), List.getElem_mem h, by rw [List.take_succ_eq_append_getElem h], fun ty => ?_, Lib.iterAt_heap W b _ k (k + 1) hI, ⟨fun hB hb => Lib.below_iterAt hb hB _ _, fun hj => Lib.iterAt_other W b _ _ _ hj, Lib.iterAt_size W b _ _⟩⟩
  rw [Lib.run_next_ascii_at W b (strL L) k ty hI hs (by rw [hg]; exact hL _ (List.getElem_mem h)), hg]
theorem sign_end (P : Program) (L : List Nat) {W : World} {b k : Nat} (hI : W.heap[b]? = some (.stringIter (strL L) k)) (h : ¬ k < L.length) (ty : TypeId) :
    (Instr.next (.pointer (some ⟨b, 0, none⟩)) true ty).run P W = .ok (.tuple #[.bool false]) W := Lib.run_next_end_at W b (strL L) k ty hI (by rw [strL_size]; exact h)
theorem Stepped.row {b : Nat} {W W1 : World} (h : Stepped b W W1) {g : Nat} {e : TypeId} {cs : List Value} (hg : g ≠ b) (hr : Row W g e cs) : Row W1 g e cs := (h.other hg).trans hr
theorem sgA_lt : ∀ c ∈ sgA, c < 128 := by decide
def runeRen : Go.Shelf.Ren := ⟨fun | 137 => 61 | 217 => 69 | 266 => 72 | n => n, fun | 9 => 9 | 3 => 3 | 5 => 5 | n => n, fun n => n⟩
theorem runeLays : Go.Proofs.Lays.n137 Tryd.prog runeRen := by
  constructor
  all_goals first
    | kernel_rfl
    | exact Tryd.isAgg9 | exact Tryd.isAgg3 | exact Tryd.isAgg5 | exact Tryd.sizeOf9 | exact Tryd.sizeOf3 | exact Tryd.sizeOf5 | exact Tryd.zeroValue9 | exact Tryd.zeroValue3 | exact Tryd.zeroValue5
theorem byteIn_any (s : ByteArray) (c : Int) (w : World) :
    Calls Tryd.prog 61 #[.string s, .int .u8 c] w fun e w' => e = .returned (.int .i64 (Lib.indexByte s.data.toList c.toNat.toUInt8)) ∧ w' = w := Any.strings_IndexByte runeLays s c w
set_option maxHeartbeats 2000000 in
theorem runeIn_any (s : ByteArray) (c : Nat) (hc : c < 128) (w : World) :
    Calls Tryd.prog 53 #[.string s, .int .i32 (c : Int)] w fun e w' => e = .returned (.int .i64 (Lib.indexByte s.data.toList (c : Int).toNat.toUInt8)) ∧ w' = w := by
  have h0 : (0 : Int) ≤ (c : Int) := by omega
  have h1 : (c : Int) < 128 := by omega
  have hw8 : IntKind.wrap .u8 (c : Int) = (c : Int) := by
    show (c : Int) % 256 = _
    omega
  have HB := hid (byteIn_any s (c : Int))
  go_enter Tryd.func53, Tryd.ntmps53
  go_wp2_with (go_at_call 61; refine (HB.out _).mono ?_; rintro e w' ⟨rfl, rfl⟩)
  go_ret
  exact ⟨rfl, rfl⟩
def hasR (n : Nat) (c : Nat) : Bool := decide (0 ≤ Lib.indexByte (strL (sgK (n : Int))).data.toList ((c : Int).toNat).toUInt8)
theorem hasR_eq : ∀ n, n < 17 → ∀ c ∈ sgA, hasR n c = decide (c ∈ sgK (n : Int)) := by decide
theorem rune_any (n : Nat) (hn : n < 17) (c : Nat) (hc : c ∈ sgA) (w : World) :
    Calls Tryd.prog 41 #[.string (strL (sgK (n : Int))), .int .i32 (c : Int)] w fun e w' => e = .returned (.bool (decide (c ∈ sgK (n : Int)))) ∧ w' = w := by
  have hlt := sgA_lt c hc
  have HR := hid (runeIn_any (strL (sgK (n : Int))) c hlt)
  have e := hasR_eq n hn c hc
  unfold hasR at e
  rw [← e]
  generalize Lib.indexByte (strL (sgK (n : Int))).data.toList ((c : Int).toNat).toUInt8 = r at *
  clear e
  go_enter Tryd.func41, Tryd.ntmps41
  go_wp2_with (go_at_call 53; refine (HR.out _).mono ?_; rintro e w' ⟨rfl, rfl⟩)
  go_ret
  exact ⟨rfl, rfl⟩
end Go.Proofs.YteahbalcielhpaaDoor
/-
  The program's Right.
-/
namespace Go.Proofs.YteahbalcielhpaaDoor
open Go.RowKit
set_option maxRecDepth 10000

set_option maxHeartbeats 8000000 in
theorem mright_any (m : Ms) (p : Pl) (B : Nat) (w : World) (hm : PlOk w B m p) (hB : B ≤ w.heap.size) (hf : m.fits) (hfd : Fd w) (hmd : Md w) :
    Calls Tryd.prog 26 #[.agg (m.cells p)] w (VE w (.bool (decide (rightM m)))) := by
  have HZS := hid mssize
  have HRS := hid (right_signs m hf)
  have HMAY : Hid (∀ W, Below w.heap.size w W → ∀ c ∈ sgA, Calls Tryd.prog 42 #[.agg (m.cells p), .int .i32 (c : Int)] W (VE W (.bool (decide (mayS m c))))) := hid fun W hW c hc =>
    may_any m p W B ⟨hm.a.below hW hB, hm.b.below hW hB, hm.la, hm.lb, hm.ca, hm.cb⟩ (Nat.le_trans hB hW.size) hf (hfd.below hW hfd.1) c hc
  have HEMP : Hid (∀ W, ∀ c ∈ sgA, Calls Tryd.prog 43 #[.agg (m.cells p), .int .i32 (c : Int)] W (VE W (.bool (decide (emptyS m c))))) := hid fun W c hc => empty_any m p W hf.2.2.2.1.1 c hc
  have HMD : Hid (∀ W, Below w.heap.size w W → Md W) := hid fun W hW => hmd.below hW hmd.1
  have HB0 : Hid (Below w.heap.size w (w.alloc (.cells (m.cells p) 34))) := hid ((Below.refl _ _).alloc (Nat.le_refl _) _)
  have R1 : Hid (Row (w.alloc (.cells (m.cells p) 34)) w.heap.size 34 (m.cells p).toList) := hid (Row.new _ _ _)
  have a0 : (w.alloc (.cells (m.cells p) 34)).cell? ⟨w.heap.size, 0, none⟩ = some (.int .i64 m.kind) := R1.out.cell 0
  have a1 : (w.alloc (.cells (m.cells p) 34)).cell? ⟨w.heap.size, 1, none⟩ = some (.int .i64 m.frm) := R1.out.cell 1
  clear hm hf hfd hmd
  by_cases h1 : m.kind < 1
  · have HD : Hid (decide (rightM m) = false) := hid (decide_eq_false (fun h => by have := h.1.1.1; omega))
    go_enter Tryd.func26, Tryd.ntmps26
    go_wp2_with fail
    go_ret
    exact ⟨by rw [HD.out]; rfl, HB0.out⟩
  by_cases h2 : 16 < m.kind
  · have HD : Hid (decide (rightM m) = false) := hid (decide_eq_false (fun h => by have := h.1.1.2; omega))
    go_enter Tryd.func26, Tryd.ntmps26
    go_wp2_with fail
    go_ret
    exact ⟨by rw [HD.out]; rfl, HB0.out⟩
  have HWV : Hid (∀ (W : World) (g : Nat), g = W.heap.size → Calls Tryd.prog 40 #[.int .i64 255, .slice (some ⟨g, 0, none⟩) 1 1] (W.alloc (.cells #[.int .i64 m.frm] 3)) fun e w' => e = .returned (.bool (wi 0 255 [m.frm])) ∧ Below W.heap.size W w') := hid fun W g hg =>
    (mwiA 255 [m.frm] #[.int .i64 m.frm] 1 (by simp) (by simp) rfl rfl W g hg).mono fun e w' ⟨h1, h2⟩ => ⟨h1, by rw [← h2]; exact (Below.refl _ _).alloc (Nat.le_refl _) _⟩
  by_cases hw : wi 0 255 [m.frm] = true
  case neg =>
    have hwf : wi 0 255 [m.frm] = false := by simpa using hw
    have HD : Hid (decide (rightM m) = false) := hid (decide_eq_false (fun h => hw (by have := h.1.2.1; simp [wi, this.1, this.2])))
    rw [hwf] at HWV
    clear hw hwf
    go_enter Tryd.func26, Tryd.ntmps26
    go_wp2_with (go_at_call 40; refine (HWV.out _ _ (by simp)).mono ?_; rintro e w1 ⟨rfl, hb1⟩)
    go_ret
    exact ⟨by rw [HD.out]; rfl, HB0.out.trans (hb1.mono HB0.out.size)⟩
  rw [hw] at HWV
  obtain ⟨n, hn⟩ : ∃ n : Nat, m.kind = (n : Int) := ⟨m.kind.toNat, by omega⟩
  have hn17 : n < 17 := by omega
  have HKO : Hid (kindOk m) := hid ⟨⟨by omega, by omega⟩, by simpa [wi] using hw⟩
  have HN := hid hn
  have HN17 := hid hn17
  clear hw
  go_enter Tryd.func26, Tryd.ntmps26
  go_wp2_with (go_at_call 40; refine (HWV.out _ _ (by simp)).mono ?_; rintro e w1 ⟨rfl, hb1⟩; have R2 := hid (R1.out.below hb1 R1.out.lt); have HB2 := hid (HB0.out.trans (hb1.mono HB0.out.size)); clear hb1)
  have HLT := hid R2.out.lt
  go_loopw [] (fun wr => ∃ k : Nat, k ≤ 16 ∧ Hid (wr.heap[w1.heap.size]? = some (.stringIter (strL sgA) k)) ∧ Hid (∀ c ∈ sgA.take k, okS m c) ∧ Hid (Row wr w.heap.size 34 (m.cells p).toList) ∧ Hid (Below w.heap.size w wr)) (fun wr => 16 - wr.iterPos w1.heap.size)
  case atStart => exact ⟨0, by omega, hid (World.iter_heap _ _ _), hid (by simp), hid (R2.out.alloc _), hid (HB2.out.alloc HB2.out.size _)⟩
  case round =>
    clear R1 HB0 a0 a1 R2 HB2 h1 h2
    obtain ⟨k, hk, HI, HOK, R3, HB3⟩ := hrel
    have hps := iterPos_of HI.out
    by_cases hlt : k < 16
    · obtain ⟨c, W1, hc, htk, hnx, hI1, hst⟩ := sign_next Tryd.prog sgA sgA_lt HI.out (show k < sgA.length from hlt)
      have R4 := hid (hst.row (by have := HLT.out; omega) R3.out)
      have HB4 := hid (hst.below (Nat.le_of_lt HLT.out) HB3.out)
      have HI1 := hid hI1
      have HTK := hid htk
      have HC := hid hc
      have c0 : W1.cell? ⟨w.heap.size, 0, none⟩ = some (.int .i64 (n : Int)) := by rw [R4.out.cell]; show some (Value.int .i64 m.kind) = _; rw [HN.out]
      have ct : W1.cell? ⟨0, n, none⟩ = some (.string (strL (sgK (n : Int)))) := ((HMD.out W1 HB4.out).get HN17.out).trans rfl
      have hi0 : (0 : Int) ≤ (n : Int) := by omega
      have hi17 : (n : Int) < 17 := by have := HN17.out; omega
      have HRU := hid (rune_any n HN17.out c hc)
      have HKC : Hid (sgK m.kind = sgK (n : Int)) := hid (by rw [HN.out])
      have hsz1 : W1.heap.size = wr.heap.size := hst.size
      have HIL : Hid (w1.heap.size < wr.heap.size) := hid (Array.getElem?_eq_some_iff.1 HI.out).1
      clear hn hn17 htk hst hI1 HI R3 HB3
      by_cases hin : c ∈ sgK (n : Int)
      · rw [decide_eq_true hin] at HRU
        have HIN := hid hin
        have HM := hid (HMAY.out W1 HB4.out c hc)
        clear hin hc
        by_cases hy : mayS m c
        · rw [decide_eq_true hy] at HM
          have HOK2 : Hid (∀ d ∈ sgA.take (k + 1), okS m d) := hid (by
            rw [HTK.out]
            intro d hd
            rcases List.mem_append.1 hd with hd | hd
            · exact HOK.out d hd
            · rw [List.mem_singleton.1 hd]; unfold okS; rw [HKC.out, if_pos HIN.out]; exact hy)
          clear hy
          go_wp2_with (first
            | ((with_reducible show wpList _ _ _ ({ dst := some 30, op := _, type := _, pos := _, after := _, guard := _ } :: _) _ _); refine wpList_load_row rfl 34 (.tmp 1) rfl w.heap.size rfl 34 (m.cells p) (0, 0) _ (Row.arr R4.out) Tryd.underlying34 rfl HZS.out ?_)
            | (go_at_call 41; refine (HRU.out _).mono ?_; rintro e w2 ⟨rfl, rfl⟩)
            | (go_at_call 42; refine HM.out.mono ?_; rintro e w3 ⟨rfl, hb3⟩))
          go_roundw
          case rel => exact ⟨k + 1, by omega, hid ((hb3.block _ (by have := HIL.out; omega)).trans HI1.out), HOK2, hid (R4.out.below hb3 R4.out.lt), hid (HB4.out.trans (hb3.mono HB4.out.size))⟩
          case measure =>
            rw [hps, iterPos_of ((hb3.block _ (by have := HIL.out; omega)).trans HI1.out)]
            omega
        · rw [decide_eq_false hy] at HM
          have HD : Hid (decide (rightM m) = false) := hid (decide_eq_false (fun h => hy (by
            have h := (HRS.out.1 h).2 c HC.out
            unfold okS at h
            rwa [HKC.out, if_pos HIN.out] at h)))
          clear hy
          go_wp2_with (first
            | ((with_reducible show wpList _ _ _ ({ dst := some 30, op := _, type := _, pos := _, after := _, guard := _ } :: _) _ _); refine wpList_load_row rfl 34 (.tmp 1) rfl w.heap.size rfl 34 (m.cells p) (0, 0) _ (Row.arr R4.out) Tryd.underlying34 rfl HZS.out ?_)
            | (go_at_call 41; refine (HRU.out _).mono ?_; rintro e w2 ⟨rfl, rfl⟩)
            | (go_at_call 42; refine HM.out.mono ?_; rintro e w3 ⟨rfl, hb3⟩))
          go_ret
          exact ⟨by rw [HD.out]; rfl, HB4.out.trans (hb3.mono HB4.out.size)⟩
      · rw [decide_eq_false hin] at HRU
        have HIN := hid hin
        have HM := hid (HEMP.out W1 c hc)
        clear hin hc
        by_cases hy : emptyS m c
        · rw [decide_eq_true hy] at HM
          have HOK2 : Hid (∀ d ∈ sgA.take (k + 1), okS m d) := hid (by
            rw [HTK.out]
            intro d hd
            rcases List.mem_append.1 hd with hd | hd
            · exact HOK.out d hd
            · rw [List.mem_singleton.1 hd]; unfold okS; rw [HKC.out, if_neg HIN.out]; exact hy)
          clear hy
          go_wp2_with (first
            | ((with_reducible show wpList _ _ _ ({ dst := some 34, op := _, type := _, pos := _, after := _, guard := _ } :: _) _ _); refine wpList_load_row rfl 34 (.tmp 1) rfl w.heap.size rfl 34 (m.cells p) (0, 0) _ (Row.arr R4.out) Tryd.underlying34 rfl HZS.out ?_)
            | (go_at_call 41; refine (HRU.out _).mono ?_; rintro e w2 ⟨rfl, rfl⟩)
            | (go_at_call 43; refine HM.out.mono ?_; rintro e w3 ⟨rfl, hb3⟩))
          go_roundw
          case rel => exact ⟨k + 1, by omega, hid ((hb3.block _ (by have := HIL.out; omega)).trans HI1.out), HOK2, hid (R4.out.below hb3 R4.out.lt), hid (HB4.out.trans (hb3.mono HB4.out.size))⟩
          case measure =>
            rw [hps, iterPos_of ((hb3.block _ (by have := HIL.out; omega)).trans HI1.out)]
            omega
        · rw [decide_eq_false hy] at HM
          have HD : Hid (decide (rightM m) = false) := hid (decide_eq_false (fun h => hy (by
            have h := (HRS.out.1 h).2 c HC.out
            unfold okS at h
            rwa [HKC.out, if_neg HIN.out] at h)))
          clear hy
          go_wp2_with (first
            | ((with_reducible show wpList _ _ _ ({ dst := some 34, op := _, type := _, pos := _, after := _, guard := _ } :: _) _ _); refine wpList_load_row rfl 34 (.tmp 1) rfl w.heap.size rfl 34 (m.cells p) (0, 0) _ (Row.arr R4.out) Tryd.underlying34 rfl HZS.out ?_)
            | (go_at_call 41; refine (HRU.out _).mono ?_; rintro e w2 ⟨rfl, rfl⟩)
            | (go_at_call 43; refine HM.out.mono ?_; rintro e w3 ⟨rfl, hb3⟩))
          go_ret
          exact ⟨by rw [HD.out]; rfl, HB4.out.trans (hb3.mono HB4.out.size)⟩
    · obtain rfl : k = 16 := by omega
      have hnx := sign_end Tryd.prog sgA HI.out (show ¬ 16 < sgA.length by decide)
      have HD : Hid (decide (rightM m) = true) := hid (decide_eq_true (HRS.out.2 ⟨HKO.out, HOK.out⟩))
      clear hn hn17
      go_wp2_with fail
      go_ret
      exact ⟨by rw [HD.out]; rfl, HB3.out⟩
end Go.Proofs.YteahbalcielhpaaDoor
