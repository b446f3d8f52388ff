/-
  The document's Body.
-/
import Derived.Test.YtcildaeiogdfdaaGreatDoorZ21
import Derived.Test.YtcildaeiogdfdaaGreatDoorZ16
import Derived.Deep.CutBlock
import Derived.Outline
namespace Go.Proofs.YtcildaeiogdfdaaGreatDoor
open Go.RowKit
set_option maxRecDepth 10000

theorem sb_catM (a b : ByteArray) : sb (a ++ b) = sb a ++ sb b := by simp [sb]
theorem eight17 (n : Nat) (hn : U64 n) (W : World) : Calls Tryz.prog 68 #[.int .u64 (n : Int)] W fun e w' => ∃ T : ByteArray, e = .returned (.string T) ∧ Hid (sb T = le n 8) ∧ Hid (T.size = 8) ∧ Below W.heap.size W w' :=
  (eight_any n W hn).mono fun e w' ⟨h1, h2⟩ => ⟨_, h1, hid (sb_mk _), hid (by rw [← sb_len, sb_mk, le_len]), h2⟩
theorem text17 (e : En) (he : e.fits) (W : World) : Calls Tryz.prog 69 #[e.val] W fun x w' => ∃ T : ByteArray, x = .returned (.string T) ∧ Hid (sb T = textE e) ∧ Hid (T.size = (textE e).length) ∧ Below W.heap.size W w' :=
  (text17_any e he W).mono fun x w' ⟨h1, h2⟩ => ⟨_, h1, hid (sb_mk _), hid (by rw [← sb_len, sb_mk]), h2⟩
theorem byt17 (s : St) (hs : s.fits) (W : World) : Calls Tryz.prog 70 #[s.val] W fun e w' => ∃ (T : ByteArray) (b : Bool), e = .returned (.tuple #[.string T, .bool b]) ∧ Hid (sb T = (bytesS s).1) ∧ Hid (T.size ≤ 40) ∧ Below W.heap.size W w' :=
  (rbyT_any s hs W).mono fun e w' ⟨h1, h2⟩ => ⟨_, _, h1, hid (sb_mk _), hid (by
    rw [← sb_len, sb_mk]
    unfold bytesS
    split
    · rw [sbytes_len]; omega
    · simp), h2⟩
/-- the parts of a message's body -/
def P0 (m : Ms) : List UInt8 := if kChk m.kind then chkB m.check else []
def P1 (m : Ms) : List UInt8 := P0 m ++ (if kSz m.kind then nb m.sums else [])
def P2 (m : Ms) : List UInt8 := P1 m ++ (if kEnt m.kind then textE m.entry else [])
def P3 (m : Ms) : List UInt8 := P2 m ++ (if kEs m.kind then [UInt8.ofNat m.es.length] else [])
theorem body_parts (m : Ms) : bodyM m = P3 m ++ m.es.flatMap textE ++ m.xs.flatMap itemB ++ sb m.body := by
  unfold bodyM P3 P2 P1 P0
  simp only [List.append_assoc]
theorem P0_len (m : Ms) : (P0 m).length ≤ 24 := by unfold P0; split <;> simp [chkB_len]
theorem P1_len (m : Ms) (h : m.sums.length = 6) : (P1 m).length ≤ 72 := by
  unfold P1
  have := P0_len m
  have := nb_len m.sums
  rw [List.length_append]
  split
  · omega
  · simp; omega
theorem P2_len (m : Ms) (hf : m.fits) (hr : rightM m) : (P2 m).length ≤ 402 := by
  unfold P2
  have h1 := P1_len m hf.2.2.2.1.1
  rw [List.length_append]
  split
  · rename_i hk
    have h2 := hr.2.2.2.2.2 (by simpa [kEnt] using hk)
    have := textE_len hf.2.2.2.2.1 h2
    omega
  · simp; omega
theorem P3_len (m : Ms) (hf : m.fits) (hr : rightM m) : (P3 m).length ≤ 403 := by
  unfold P3
  have h1 := P2_len m hf hr
  rw [List.length_append]
  split <;> simp <;> omega
theorem flat_take_le {α : Type} (f : α → List UInt8) (c : Nat) (l : List α) (h : ∀ x ∈ l, (f x).length ≤ c) (k : Nat) : ((l.take k).flatMap f).length ≤ c * l.length := by
  refine Nat.le_trans (flat_le f c (l.take k) fun x hx => h x (List.mem_of_mem_take hx)) ?_
  rw [List.length_take]
  exact Nat.mul_le_mul_left _ (Nat.min_le_right _ _)
theorem one_byte (W : World) (n : Nat) (hn : n < 256) : Rd (W.alloc (.cells #[.int .u8 (n : Int)] 5)) (W.heap.size + 1) (some ⟨W.heap.size, 0, none⟩) (bvs [UInt8.ofNat n]) := by
  have h := (Row.new W 5 #[.int .u8 (n : Int)]).rd (B := W.heap.size + 1) (by omega)
  have e : bvs [UInt8.ofNat n] = (#[.int .u8 (n : Int)] : Array Value).toList := by
    simp [bvs, bv]
    omega
  rw [e]
  exact h
theorem sums_cell {W : World} {g : Nat} {m : Ms} {p : Pl} (h : Row W g 32 (m.cells p).toList) (hs : m.sums.length = 6) (k : Nat) (hk : k < 6) : W.cell? ⟨g, 15 + k, none⟩ = some (.int .u64 ((m.sums[k] : Nat) : Int)) := by
  rw [h.cell]
  have e : m.sums[k] = m.sums.getD k 0 := by simp [hs, hk]
  rw [e]
  match k, hk with
  | 0, _ => rfl
  | 1, _ => rfl
  | 2, _ => rfl
  | 3, _ => rfl
  | 4, _ => rfl
  | 5, _ => rfl
set_option maxHeartbeats 8000000 in
theorem body17_any (m : Ms) (p : Pl) (B : Nat) (w : World) (hm : PlOk w B m p) (hB : B ≤ w.heap.size) (hf : m.fits) (hr : rightM m) :
    Calls Tryz.prog 39 #[.agg (m.cells p)] w (SE w (bodyM m)) := by
  have HE8 := hid eight17
  have HTX : Hid (Calls Tryz.prog 69 = Calls Tryz.prog 69) := hid rfl
  have HZS := hid mssize
  have HZE := hid esize
  have HZI := hid isize
  have HF := hid hf
  have HR := hid hr
  have HXA : Hid (∀ W, Below w.heap.size w W → Rd W B p.B (rws (fun x : It => x.cells.toList) m.xs)) := hid fun W hW => hm.b.below hW hB
  have HEA : Hid (∀ W, Below w.heap.size w W → Rd W B p.A (rws (fun x : En => x.cells.toList) m.es)) := hid fun W hW => hm.a.below hW hB
  have hca := hm.ca
  have hcb := hm.cb
  have hes8 : m.es.length ≤ 8 := hr.2.2.1.2.2.1
  have hxs8 : m.xs.length ≤ 8 := by
    by_cases h7 : m.kind = 7
    · rw [hr.2.2.1.2.2.2 h7]; omega
    · rw [right_xs hr h7]; simp
  have HB0 : Hid (Below w.heap.size w (w.alloc (.cells (m.cells p) 32))) := hid ((Below.refl _ _).alloc (Nat.le_refl _) _)
  have R1 : Hid (Row (w.alloc (.cells (m.cells p) 32)) w.heap.size 32 (m.cells p).toList) := hid (Row.new _ _ _)
  have a0 : (w.alloc (.cells (m.cells p) 32)).cell? ⟨w.heap.size, 0, none⟩ = some (.int .i64 m.kind) := R1.out.cell 0
  clear hm hf hr HTX
  go_enter Tryz.func39, Tryz.ntmps39
  go_upto_region 3 with fail
  go_cut [30] from 13 to 30 (fun b wx => ∃ (W1 : World) (ck : Bool), W1 = wx ∧ b = .bool ck ∧ Hid (kChk m.kind = ck) ∧ Hid (Row W1 w.heap.size 32 (m.cells p).toList) ∧ Hid (Below w.heap.size w W1))
  case first =>
    clear HE8 HXA HEA HF HR
    cases h7 : (m.kind == 7)
    case true =>
      go_wp2_with fail
      go_meet
      exact ⟨_, _, rfl, rfl, hid (by simp [kChk, h7]), R1, HB0⟩
    cases h8 : (m.kind == 8)
    case true =>
      go_wp2_with fail
      go_meet
      exact ⟨_, _, rfl, rfl, hid (by simp [kChk, h7, h8]), R1, HB0⟩
    cases h13 : (m.kind == 13)
    case true =>
      go_wp2_with fail
      go_meet
      exact ⟨_, _, rfl, rfl, hid (by simp [kChk, h7, h8, h13]), R1, HB0⟩
    cases h14 : (m.kind == 14)
    case true =>
      go_wp2_with fail
      go_meet
      exact ⟨_, _, rfl, rfl, hid (by simp [kChk, h7, h8, h13, h14]), R1, HB0⟩
    cases h15 : (m.kind == 15)
    case true =>
      go_wp2_with fail
      go_meet
      exact ⟨_, _, rfl, rfl, hid (by simp [kChk, h7, h8, h13, h14, h15]), R1, HB0⟩
    go_wp2_with fail
    go_meet
    exact ⟨_, _, rfl, rfl, hid (by simp [kChk, h7, h8, h13, h14, h15]), R1, HB0⟩
  case rest =>
  obtain ⟨W1, ck, rfl, rfl, HCK, R2, HB2⟩ := hcut
  clear R1 HB0 a0
  go_upto_if 30 with fail
  go_cut [3] from 31 to 46 (fun s wx => ∃ (S : ByteArray) (W1 : World), W1 = wx ∧ s = .string S ∧ Hid (sb S = P0 m) ∧ Hid (Row W1 w.heap.size 32 (m.cells p).toList) ∧ Hid (Below w.heap.size w W1))
  case first =>
    cases ck
    case false =>
      go_wp2_with fail
      go_meet
      exact ⟨_, W1, rfl, rfl, hid (by unfold P0; rw [HCK.out]; rfl), R2, HB2⟩
    case true =>
      have HP0 : Hid (P0 m = le (un m.check.opn) 8 ++ (le (un m.check.view) 8 ++ le m.check.sum 8)) := hid (by unfold P0; rw [HCK.out]; rfl)
      have C12 : Hid (∀ W, Row W w.heap.size 32 (m.cells p).toList ∧ Below w.heap.size w W → W.cell? ⟨w.heap.size, 12, none⟩ = some (.int .i64 m.check.opn)) := hid fun W h => h.1.cell 12
      have C13 : Hid (∀ W, Row W w.heap.size 32 (m.cells p).toList ∧ Below w.heap.size w W → W.cell? ⟨w.heap.size, 13, none⟩ = some (.int .i64 m.check.view)) := hid fun W h => h.1.cell 13
      have C14 : Hid (∀ W, Row W w.heap.size 32 (m.cells p).toList ∧ Below w.heap.size w W → W.cell? ⟨w.heap.size, 14, none⟩ = some (.int .u64 (m.check.sum : Int))) := hid fun W h => h.1.cell 14
      have U0 := hid (un_wrap m.check.opn)
      have U1 := hid (un_wrap m.check.view)
      have E0 := hid (eight17 (un m.check.opn) (un_lt _))
      have E1 := hid (eight17 (un m.check.view) (un_lt _))
      have E2 := hid (eight17 m.check.sum HF.out.2.2.1.2.2)
      go_wp2_with fail
      refine wp_region_held_drew (S := (fun W => Row W w.heap.size 32 (m.cells p).toList ∧ Below w.heap.size w W)) (by kernel_rfl) (⟨R2.out.drew, HB2.out.drew⟩) (fun hH => ?_)
      refine tk_ (i := 0) (v := .pointer (some ⟨w.heap.size, 12, none⟩)) rfl (Or.inl ⟨by kernel_rfl, fun w' _ => by kernel_rfl⟩) hH ?_
      simp only [Act.put, la1, la3, la4, la5, la6]
      refine tk_ (i := 1) (v := .pointer (some ⟨w.heap.size, 12, none⟩)) rfl (Or.inl ⟨by kernel_rfl, fun w' _ => by kernel_rfl⟩) hH ?_
      simp only [Act.put, la1, la2, la3, la4, la5, la6]
      refine tk_ (i := 2) (v := .int .i64 m.check.opn) rfl (Or.inl ⟨by rfl, fun w' hw' => by have h := C12.out w' hw'; go_simp⟩) hH ?_
      simp only [Act.put, la1, la2, la3, la4, la5, la6]
      refine tk_ (i := 3) (v := .int .u64 ((un m.check.opn : Nat) : Int)) rfl (Or.inl ⟨by rfl, fun w' hw' => by have h := U0.out; go_simp⟩) hH ?_
      simp only [Act.put, la1, la2, la3, la4, la5, la6]
      refine tk_ (i := 5) (v := .pointer (some ⟨w.heap.size, 12, none⟩)) rfl (Or.inl ⟨by kernel_rfl, fun w' _ => by kernel_rfl⟩) hH ?_
      simp only [Act.put, la1, la2, la3, la4, la5, la6]
      refine tk_ (i := 6) (v := .pointer (some ⟨w.heap.size, 13, none⟩)) rfl (Or.inl ⟨by kernel_rfl, fun w' _ => by kernel_rfl⟩) hH ?_
      simp only [Act.put, la1, la2, la3, la4, la5, la6]
      refine tk_ (i := 7) (v := .int .i64 m.check.view) rfl (Or.inl ⟨by rfl, fun w' hw' => by have h := C13.out w' hw'; go_simp⟩) hH ?_
      simp only [Act.put, la1, la2, la3, la4, la5, la6]
      refine tk_ (i := 8) (v := .int .u64 ((un m.check.view : Nat) : Int)) rfl (Or.inl ⟨by rfl, fun w' hw' => by have h := U1.out; go_simp⟩) hH ?_
      simp only [Act.put, la1, la2, la3, la4, la5, la6]
      refine tk_ (i := 11) (v := .pointer (some ⟨w.heap.size, 12, none⟩)) rfl (Or.inl ⟨by kernel_rfl, fun w' _ => by kernel_rfl⟩) hH ?_
      simp only [Act.put, la1, la2, la3, la4, la5, la6]
      refine tk_ (i := 12) (v := .pointer (some ⟨w.heap.size, 14, none⟩)) rfl (Or.inl ⟨by kernel_rfl, fun w' _ => by kernel_rfl⟩) hH ?_
      simp only [Act.put, la1, la2, la3, la4, la5, la6]
      refine tk_ (i := 13) (v := .int .u64 (m.check.sum : Int)) rfl (Or.inl ⟨by rfl, fun w' hw' => by have h := C14.out w' hw'; go_simp⟩) hH ?_
      simp only [Act.put, la1, la2, la3, la4, la5, la6]
      refine rd1 (i := 4) (by kernel_rfl) rfl (fun K hK => ?_)
      go_simp
      go_at_call 68
      refine (E0.out _).mono ?_
      rintro e w1 ⟨T0, rfl, B0, Z0, hb1⟩
      go_wp2_with fail
      refine hK.out _ _ (⟨hH.1.below hb1 hH.1.lt, hH.2.trans (hb1.mono hH.2.size)⟩) (fun hH => ?_)
      clear hK K
      try simp only [Act.put, la1, la2, la3, la4, la5, la6]
      refine rd1 (i := 9) (by kernel_rfl) rfl (fun K hK => ?_)
      go_simp
      go_at_call 68
      refine (E1.out _).mono ?_
      rintro e w2 ⟨T1, rfl, B1, Z1, hb1⟩
      go_wp2_with fail
      refine hK.out _ _ (⟨hH.1.below hb1 hH.1.lt, hH.2.trans (hb1.mono hH.2.size)⟩) (fun hH => ?_)
      clear hK K
      try simp only [Act.put, la1, la2, la3, la4, la5, la6]
      have hq1 : ¬ (9223372036854775807 < T0.size + T1.size) := by have := Z0.out; have := Z1.out; omega
      refine tk_ (i := 10) (v := .string (T0 ++ T1)) rfl (Or.inl ⟨by rfl, fun w' hw' => by clear hw'; go_simp⟩) hH ?_
      simp only [Act.put, la1, la2, la3, la4, la5, la6]
      refine rd1 (i := 14) (by kernel_rfl) rfl (fun K hK => ?_)
      go_simp
      go_at_call 68
      refine (E2.out _).mono ?_
      rintro e w3 ⟨T2, rfl, B2, Z2, hb1⟩
      go_wp2_with fail
      refine hK.out _ _ (⟨hH.1.below hb1 hH.1.lt, hH.2.trans (hb1.mono hH.2.size)⟩) (fun hH => ?_)
      clear hK K
      try simp only [Act.put, la1, la2, la3, la4, la5, la6]
      have hq2 : ¬ (9223372036854775807 < T0.size + T1.size + T2.size) := by have := Z0.out; have := Z1.out; have := Z2.out; omega
      refine tk_ (i := 15) (v := .string (T0 ++ T1 ++ T2)) rfl (Or.inl ⟨by rfl, fun w' hw' => by clear hw'; go_simp⟩) hH ?_
      simp only [Act.put, la1, la2, la3, la4, la5, la6]
      refine rd1 (i := 16) (by kernel_rfl) rfl (fun K hK => ?_)
      go_simp
      refine hK.out _ _ (hH) (fun hH => ?_)
      clear hK K
      try simp only [Act.put, la1, la2, la3, la4, la5, la6]
      refine wpAnyH_done (by kernel_rfl) ?_ _
      try simp only [Act.put, la1, la2, la3, la4, la5, la6]
      go_wp2_with fail
      go_meet
      exact ⟨_, _, rfl, rfl, hid (by rw [HP0.out, sb_catM, sb_catM, B0.out, B1.out, B2.out]; simp), hid hH.1, hid hH.2⟩
  case rest =>
  clear R2 HB2
  obtain ⟨S, W1, rfl, rfl, HS, R2, HB2⟩ := hcut
  go_upto_block 0 with fail
  go_cut [3] from 5 to 61 (fun s wx => ∃ (S : ByteArray) (W1 : World), W1 = wx ∧ s = .string S ∧ Hid (sb S = P1 m) ∧ Hid (Row W1 w.heap.size 32 (m.cells p).toList) ∧ Hid (Below w.heap.size w W1))
  case first =>
    have HLN : Hid (∀ k, (P0 m ++ nb (m.sums.take k)).length ≤ 72) := hid (fun k => by
      have h0 := P0_len m
      rw [List.length_append, nb_len, List.length_take, HF.out.2.2.2.1.1]
      omega)
    have HSC : Hid (∀ W, Row W w.heap.size 32 (m.cells p).toList → ∀ (k : Nat) (hk : k < 6) (h : k < m.sums.length), W.cell? ⟨w.heap.size, 15 + k, none⟩ = some (.int .u64 ((m.sums[k] : Nat) : Int))) := hid (fun W h k hk hs => sums_cell h HF.out.2.2.2.1.1 k hk)
    have HS6 := hid HF.out.2.2.2.1
    have HP1 : Hid (∀ b, (m.kind == 13) = b → P1 m = P0 m ++ (if b then nb m.sums else [])) := hid (fun b hb => by
      unfold P1 kSz
      rw [hb])
    clear HXA HEA HF HR
    go_wp2_with fail
    go_loopw [3, 5] (fun s i wr => ∃ (k : Nat) (S : ByteArray), k ≤ 6 ∧ i = .int .i64 (k : Int) ∧ s = .string S ∧ Hid (k = 0 ∨ kSz m.kind = true) ∧ Hid (sb S = P0 m ++ nb (m.sums.take k)) ∧ Hid (Row wr w.heap.size 32 (m.cells p).toList) ∧ Hid (Below w.heap.size w wr)) (fun _ i _ => 6 - (intOf i).toNat)
    case atStart => exact ⟨0, S, by omega, rfl, rfl, hid (.inl rfl), hid (by rw [HS.out]; simp [nb]), R2, HB2⟩
    case round =>
      clear R2 HB2 HS
      obtain ⟨k, S, hk, rfl, rfl, HK, HS, R2, HB2⟩ := hrel
      cases h13 : (m.kind == 13)
      case false =>
        have HE : Hid (sb S = P1 m) := hid (by
          have := HK.out
          rcases this with rfl | h
          · rw [HS.out, HP1.out _ h13]; simp [nb]
          · have h' : (m.kind == 13) = true := h
            rw [h13] at h'; cases h')
        by_cases hlt : k < 6
        · have hi : (k : Int) < 6 := by omega
          go_wp2_with fail
          go_meet
          exact ⟨_, _, rfl, rfl, HE, R2, HB2⟩
        · have hi : ¬ (k : Int) < 6 := by omega
          go_wp2_with fail
          go_meet
          exact ⟨_, _, rfl, rfl, HE, R2, HB2⟩
      have HKS : Hid (kSz m.kind = true) := hid h13
      by_cases hlt : k < 6
      · have hi : (k : Int) < 6 := by omega
        have hks : k < m.sums.length := by have := HS6.out.1; omega
        have c15 := HSC.out _ R2.out k hlt hks
        have HE8 := hid (eight17 m.sums[k] (HS6.out.2 _ (List.getElem_mem hks)))
        have HNX : Hid (P0 m ++ nb (m.sums.take (k + 1)) = P0 m ++ nb (m.sums.take k) ++ le m.sums[k] 8) := hid (by
          rw [List.take_succ_eq_append_getElem hks, nb_app, List.append_assoc]
          simp [nb])
        have HL := hid (HLN.out k)
        generalize m.sums[k] = x at *
        clear hlt hks HLN HSC HS6 HP1 HK
        go_wp2_with (go_at_call 68; refine (HE8.out _).mono ?_; rintro e w4 ⟨T, rfl, BT, ZT, hb4⟩; have hq : ¬ (9223372036854775807 < S.size + T.size) := (by have := ZT.out; have := HL.out; rw [← HS.out, sb_len] at this; omega))
        go_roundw
        case rel => exact ⟨k + 1, _, by omega, by go_num, rfl, hid (.inr HKS.out), hid (by rw [sb_catM, HS.out, BT.out, HNX.out]), hid (R2.out.below hb4 R2.out.lt), hid (HB2.out.trans (hb4.mono HB2.out.size))⟩
        case measure => simp [intOf]; omega
      · have hi : ¬ (k : Int) < 6 := by omega
        have HE : Hid (sb S = P1 m) := hid (by
          rw [HS.out, HP1.out _ h13, List.take_of_length_le (by rw [HS6.out.1]; omega)]; rfl)
        go_wp2_with fail
        go_meet
        exact ⟨_, _, rfl, rfl, HE, R2, HB2⟩
  case rest =>
  clear HS
  obtain ⟨S, W1, rfl, rfl, HS, R2, HB2⟩ := hcut
  go_upto_region 9 with fail
  go_cut [67] from 62 to 67 (fun b wx => ∃ (W1 : World) (ck : Bool), W1 = wx ∧ b = .bool ck ∧ Hid (kEnt m.kind = ck) ∧ Hid (Row W1 w.heap.size 32 (m.cells p).toList) ∧ Hid (Below w.heap.size w W1))
  case first =>
    clear HXA HEA HF HR HCK
    cases h2 : (m.kind == 2)
    case true =>
      go_wp2_with fail
      go_meet
      exact ⟨_, _, rfl, rfl, hid (by simp [kEnt, h2]), R2, HB2⟩
    cases h11 : (m.kind == 11)
    case true =>
      go_wp2_with fail
      go_meet
      exact ⟨_, _, rfl, rfl, hid (by simp [kEnt, h2, h11]), R2, HB2⟩
    go_wp2_with fail
    go_meet
    exact ⟨_, _, rfl, rfl, hid (by simp [kEnt, h2, h11]), R2, HB2⟩
  case rest =>
  clear R2 HB2 HCK
  obtain ⟨W1, ck, rfl, rfl, HCK, R2, HB2⟩ := hcut
  go_upto_if 67 with fail
  go_cut [3] from 68 to 72 (fun s wx => ∃ (S : ByteArray) (W1 : World), W1 = wx ∧ s = .string S ∧ Hid (sb S = P2 m) ∧ Hid (Row W1 w.heap.size 32 (m.cells p).toList) ∧ Hid (Below w.heap.size w W1))
  case first =>
    cases ck
    case false =>
      go_wp2_with fail
      go_meet
      exact ⟨_, _, rfl, rfl, hid (by unfold P2; rw [HS.out, HCK.out]; simp), R2, HB2⟩
    case true =>
      have HT := hid (fun W => text17 m.entry HF.out.2.2.2.2.1 W)
      have HL : Hid (S.size + (textE m.entry).length ≤ 402) := hid (by
        have h := P2_len m HF.out HR.out
        unfold P2 at h
        rw [HCK.out, if_pos rfl, List.length_append, ← HS.out, sb_len] at h
        exact h)
      go_wp2_with (first
        | ((with_reducible show wpList _ _ _ ({ dst := some 70, op := _, type := _, pos := _, after := _, guard := _ } :: _) _ _); refine wpl_load_midw rfl 28 (.tmp 69) rfl w.heap.size 21 rfl (Array.toList m.entry.cells) _ (ms_entry R2.out) Tryz.underlying28 rfl (by exact HZE.out) ?_)
        | (go_at_call 69; refine (HT.out _).mono ?_; rintro e w4 ⟨T, rfl, BT, ZT, hb4⟩; have hq : ¬ (9223372036854775807 < S.size + T.size) := (by have := ZT.out; have := HL.out; omega)))
      go_meet
      exact ⟨_, _, rfl, rfl, hid (by unfold P2; rw [sb_catM, HS.out, BT.out, HCK.out]; simp), hid (R2.out.below hb4 R2.out.lt), hid (HB2.out.trans (hb4.mono HB2.out.size))⟩
  case rest =>
  clear R2 HB2 HCK HS
  obtain ⟨S, W1, rfl, rfl, HS, R2, HB2⟩ := hcut
  obtain ⟨c8, hc8⟩ : ∃ c, (m.kind == 8) = c := ⟨_, rfl⟩
  go_upto_if 74 with fail
  go_cut [3] from 75 to 82 (fun s wx => ∃ (S : ByteArray) (W1 : World), W1 = wx ∧ s = .string S ∧ Hid (sb S = P3 m) ∧ Hid (Row W1 w.heap.size 32 (m.cells p).toList) ∧ Hid (Below w.heap.size w W1))
  case first =>
    have HC8 := hid hc8
    clear hc8
    cases c8
    case false =>
      have HCK : Hid (kEs m.kind = false) := hid HC8.out
      go_wp2_with fail
      go_meet
      exact ⟨_, _, rfl, rfl, hid (by unfold P3; rw [HS.out, HCK.out]; simp), R2, HB2⟩
    case true =>
      have HCK : Hid (kEs m.kind = true) := hid HC8.out
      have c30 : World.cell? W1 ⟨w.heap.size, 30, none⟩ = some (.slice p.A m.es.length p.cA) := R2.out.cell 30
      have hw : IntKind.u8.wrap (m.es.length : Int) = (m.es.length : Int) := by simp [IntKind.wrap, IntKind.bits, IntKind.signed]; omega
      have HOB := hid (one_byte W1 m.es.length (by omega))
      have hq : ¬ (9223372036854775807 < S.size + 1) := by
        have h := P2_len m HF.out HR.out
        rw [← HS.out, sb_len] at h
        omega
      go_wp2_with (with_reducible refine wpl_str rfl _ 47 9 rfl 5 Tryz.underlying47 Tryz.underlying5 Tryz.underlying9 (some ⟨W1.heap.size, 0, none⟩) 1 1 rfl (W1.heap.size + 1) [UInt8.ofNat m.es.length] ?_ HOB (hid rfl))
      go_meet
      exact ⟨_, _, rfl, rfl, hid (by rw [sb_catM, HS.out]; unfold P3; rw [HCK.out]; rfl), hid (R2.out.alloc _), hid (HB2.out.alloc HB2.out.size _)⟩
  case rest =>
  clear R2 HB2 HS hc8
  obtain ⟨S, W1, rfl, rfl, HS, R2, HB2⟩ := hcut
  go_wp2_with fail
  go_loopw [3, 6] (fun s i wr => ∃ (k : Nat) (S : ByteArray), k ≤ m.es.length ∧ i = .int .i64 (k : Int) ∧ s = .string S ∧ Hid (sb S = P3 m ++ (m.es.take k).flatMap textE) ∧ Hid (Row wr w.heap.size 32 (m.cells p).toList) ∧ Hid (Below w.heap.size w wr)) (fun _ i _ => m.es.length - (intOf i).toNat)
  case atStart => exact ⟨0, S, by omega, rfl, rfl, hid (by rw [HS.out]; simp), R2, HB2⟩
  case round =>
    clear R2 HB2 HS
    obtain ⟨k, S, hk, rfl, rfl, HS, R2, HB2⟩ := hrel
    have c30 : wr.cell? ⟨w.heap.size, 30, none⟩ = some (.slice p.A m.es.length p.cA) := R2.out.cell 30
    have HLS : Hid (S.size ≤ 3043) := hid (by
      have h1 := P3_len m HF.out HR.out
      have h2 := flat_take_le textE 330 m.es (fun e he => by have := textE_len (HF.out.2.2.2.2.2.1 e he) (HR.out.2.2.2.1 e he); omega) k
      rw [← sb_len, HS.out, List.length_append]
      omega)
    by_cases hlt : k < m.es.length
    · obtain ⟨g, o, hA, hg, hrg⟩ := rws_at (n := 9) (fun _ => rfl) (HEA.out _ HB2.out) k hlt (by omega)
      rw [hA] at c30
      have hi : (k : Int) < (m.es.length : Int) := by omega
      have hi0 : (0 : Int) ≤ (k : Int) := by omega
      have HRG := hid hrg
      have HTX : Hid (∀ W, Calls Tryz.prog 69 #[(m.es[k]).val] W fun x w' => ∃ T : ByteArray, x = .returned (.string T) ∧ Hid (sb T = textE m.es[k]) ∧ Hid (T.size = (textE m.es[k]).length) ∧ Below W.heap.size W w') := hid fun W => text17 _ (HF.out.2.2.2.2.1.1 |> fun _ => HF.out.2.2.2.2.2.1 _ (List.getElem_mem hlt)) W
      have HTL : Hid ((textE m.es[k]).length ≤ 330) := hid (by have := textE_len (HF.out.2.2.2.2.2.1 _ (List.getElem_mem hlt)) (HR.out.2.2.2.1 _ (List.getElem_mem hlt)); omega)
      have HNX : Hid ((m.es.take (k + 1)).flatMap textE = (m.es.take k).flatMap textE ++ textE m.es[k]) := hid (by
        rw [List.take_succ_eq_append_getElem hlt, List.flatMap_append]; simp)
      generalize m.es[k] = X at *
      clear hA hg hrg hlt
      go_wp2_with (first
        | ((with_reducible show wpList _ _ _ ({ dst := some 95, op := _, type := _, pos := _, after := _, guard := _ } :: _) _ _); refine wpl_load_midw rfl 28 (.tmp 94) rfl g (o + k * 9) rfl (Array.toList X.cells) _ HRG.out Tryz.underlying28 rfl (by exact HZE.out) ?_)
        | (go_at_call 69; refine (HTX.out _).mono ?_; rintro e w4 ⟨T, rfl, BT, ZT, hb4⟩; have hq : ¬ (9223372036854775807 < S.size + T.size) := (by have := ZT.out; have := HTL.out; have := HLS.out; omega)))
      go_roundw
      case rel => exact ⟨k + 1, _, by omega, by go_num, rfl, hid (by rw [sb_catM, HS.out, BT.out, HNX.out, List.append_assoc]), hid (R2.out.below hb4 R2.out.lt), hid (HB2.out.trans (hb4.mono HB2.out.size))⟩
      case measure => simp [intOf]; omega
    · obtain rfl : k = m.es.length := by omega
      have HSE : Hid (sb S = P3 m ++ m.es.flatMap textE) := hid (by have := HS.out; rwa [List.take_of_length_le (Nat.le_refl _)] at this)
      clear HS HEA hk HLS
      go_wp2_with fail
      go_loopw [3, 7] (fun s i wr => ∃ (k : Nat) (S : ByteArray), k ≤ m.xs.length ∧ i = .int .i64 (k : Int) ∧ s = .string S ∧ Hid (sb S = P3 m ++ m.es.flatMap textE ++ (m.xs.take k).flatMap itemB) ∧ Hid (Row wr w.heap.size 32 (m.cells p).toList) ∧ Hid (Below w.heap.size w wr)) (fun _ i _ => m.xs.length - (intOf i).toNat)
      case atStart => exact ⟨0, S, by omega, rfl, rfl, hid (by rw [HSE.out]; simp), R2, HB2⟩
      case round =>
        clear R2 HB2 HSE c30
        obtain ⟨k, S, hk, rfl, rfl, HS, R2, HB2⟩ := hrel
        have c31 : wr.cell? ⟨w.heap.size, 31, none⟩ = some (.slice p.B m.xs.length p.cB) := R2.out.cell 31
        have HLS : Hid (S.size ≤ 3968) := hid (by
          have h := body_len HF.out HR.out
          have h2 : (sb S).length ≤ (bodyM m).length := by
            rw [body_parts, HS.out]
            have h3 : ((m.xs.take k).flatMap itemB).length ≤ (m.xs.flatMap itemB).length := by
              conv => rhs; rw [← List.take_append_drop k m.xs]
              rw [List.flatMap_append, List.length_append]; omega
            simp only [List.length_append]
            omega
          rw [sb_len] at h2
          omega)
        by_cases hlt : k < m.xs.length
        · obtain ⟨g, o, hA, hg, hrg⟩ := rws_at (n := 15) (fun _ => rfl) (HXA.out _ HB2.out) k hlt (by omega)
          rw [hA] at c31
          have hi : (k : Int) < (m.xs.length : Int) := by omega
          have hi0 : (0 : Int) ≤ (k : Int) := by omega
          have HRG := hid hrg
          have HXF := hid (HF.out.2.2.2.2.2.2 _ (List.getElem_mem hlt))
          have HXR := hid (HR.out.2.2.2.2.1 _ (List.getElem_mem hlt))
          have HNX : Hid ((m.xs.take (k + 1)).flatMap itemB = (m.xs.take k).flatMap itemB ++ itemB m.xs[k]) := hid (by
            rw [List.take_succ_eq_append_getElem hlt, List.flatMap_append]; simp)
          generalize m.xs[k] = X at *
          have hne : wr.heap.size ≠ w.heap.size := by have := R2.out.lt; omega
          have HNE := hid hne
          have hks : X.kind = 0 ∨ X.kind = 1 ∨ X.kind = 2 ∨ X.kind = 3 := by
            have h := HXR.out
            unfold itemR at h
            by_cases h1 : X.kind = 1
            · exact .inr (.inl h1)
            · by_cases h2 : X.kind = 2
              · exact .inr (.inr (.inl h2))
              · rw [if_neg h1, if_neg h2] at h
                rcases h.1 with h | h
                · exact .inl h
                · exact .inr (.inr (.inr h))
          clear hA hg hrg hlt hne
          rcases hks with hkk | hkk | hkk | hkk
          · have HIB : Hid (itemB X = [0]) := hid (by unfold itemB; rw [hkk]; rfl)
            have HKK := hid hkk
            clear hkk
            have hq1 : ¬ (9223372036854775807 < S.size + 1) := by have := HLS.out; omega
            go_wp2_with (first
              | ((with_reducible show wpList _ _ _ ({ dst := some 109, op := _, type := _, pos := _, after := _, guard := _ } :: _) _ _); refine wpl_load_midw rfl 62 (.tmp 108) rfl g (o + k * 15) rfl (Array.toList X.cells) _ HRG.out Tryz.underlying62 rfl (by exact HZI.out) ?_)
              | ((with_reducible show wpList _ _ _ ({ dst := none, op := .store _ (.tmp 8) _, type := _, pos := _, after := _, guard := _ } :: _) _ _); refine wpl_store_st rfl (.tmp 8) (.tmp 109) rfl HZI.out wr.heap.size #[.int .i64 0, .int .i64 0, .int .i64 0, .int .i64 0, .int .u64 0, .int .u64 0, .int .i64 0, .int .i64 0, .int .i64 0, .int .u64 0, .int .i64 0, .int .i64 0, .int .i64 0, .int .i64 0, .string ⟨#[]⟩] X.cells rfl rfl (Row.new _ _ _) ?_ (hid rfl) (hid rfl) (hid (by simp [It.cells, Value.oneCell'])); intro w5 hr5 hg5; have RX := hid hr5; have R3 := hid ((R2.out.alloc (.cells #[.int .i64 0, .int .i64 0, .int .i64 0, .int .i64 0, .int .u64 0, .int .u64 0, .int .i64 0, .int .i64 0, .int .i64 0, .int .u64 0, .int .i64 0, .int .i64 0, .int .i64 0, .int .i64 0, .string ⟨#[]⟩] 62)).grown hg5 (by intro e; exact HNE.out (Option.some.inj e).symm)); have HB3 := hid ((HB2.out.alloc HB2.out.size (.cells #[.int .i64 0, .int .i64 0, .int .i64 0, .int .i64 0, .int .u64 0, .int .u64 0, .int .i64 0, .int .i64 0, .int .i64 0, .int .u64 0, .int .i64 0, .int .i64 0, .int .i64 0, .int .i64 0, .string ⟨#[]⟩] 62)).trans (below_grown hg5 HB2.out.size (by simp; exact Nat.le_succ_of_le HB2.out.size))); have x0 : w5.cell? ⟨wr.heap.size, 0, none⟩ = some (.int .i64 0) := (by rw [RX.out.cell 0, ← HKK.out]; rfl); have x1 : (w5.alloc (.cells #[.int .u8 0] 5)).cell? ⟨wr.heap.size, 0, none⟩ = some (.int .i64 0) := (by rw [(RX.out.alloc (.cells #[.int .u8 0] 5)).cell 0, ← HKK.out]; rfl); have HOB : Hid (Rd (w5.alloc (.cells #[.int .u8 0] 5)) (w5.heap.size + 1) (some ⟨w5.heap.size, 0, none⟩) (bvs [0])) := hid (one_byte w5 0 (by omega)))
              | (with_reducible refine wpl_str rfl _ 47 9 rfl 5 Tryz.underlying47 Tryz.underlying5 Tryz.underlying9 (some ⟨w5.heap.size, 0, none⟩) 1 1 rfl (w5.heap.size + 1) [0] ?_ HOB (hid rfl)))
            go_roundw
            case rel => exact ⟨k + 1, _, by omega, by go_num, rfl, hid (by rw [sb_catM, HS.out, HNX.out, HIB.out]; simp only [List.append_assoc]; rfl), hid (R3.out.alloc _), hid (HB3.out.alloc HB3.out.size _)⟩
            case measure => simp [intOf]; omega
          · have HIB : Hid (itemB X = 1 :: textE X.entry) := hid (by unfold itemB; rw [hkk]; rfl)
            have HKK := hid hkk
            clear hkk
            have hq1 : ¬ (9223372036854775807 < S.size + 1) := by have := HLS.out; omega
            have HTX := hid (fun W => text17 X.entry HXF.out.2.2 W)
            have HTL : Hid ((textE X.entry).length ≤ 330) := hid (by
              have h := HXR.out
              unfold itemR at h
              rw [if_pos HKK.out] at h
              have := textE_len HXF.out.2.2 h.1
              omega)
            go_wp2_with (first
              | ((with_reducible show wpList _ _ _ ({ dst := some 109, op := _, type := _, pos := _, after := _, guard := _ } :: _) _ _); refine wpl_load_midw rfl 62 (.tmp 108) rfl g (o + k * 15) rfl (Array.toList X.cells) _ HRG.out Tryz.underlying62 rfl (by exact HZI.out) ?_)
              | ((with_reducible show wpList _ _ _ ({ dst := none, op := .store _ (.tmp 8) _, type := _, pos := _, after := _, guard := _ } :: _) _ _); refine wpl_store_st rfl (.tmp 8) (.tmp 109) rfl HZI.out wr.heap.size #[.int .i64 0, .int .i64 0, .int .i64 0, .int .i64 0, .int .u64 0, .int .u64 0, .int .i64 0, .int .i64 0, .int .i64 0, .int .u64 0, .int .i64 0, .int .i64 0, .int .i64 0, .int .i64 0, .string ⟨#[]⟩] X.cells rfl rfl (Row.new _ _ _) ?_ (hid rfl) (hid rfl) (hid (by simp [It.cells, Value.oneCell'])); intro w5 hr5 hg5; have RX := hid hr5; have R3 := hid ((R2.out.alloc (.cells #[.int .i64 0, .int .i64 0, .int .i64 0, .int .i64 0, .int .u64 0, .int .u64 0, .int .i64 0, .int .i64 0, .int .i64 0, .int .u64 0, .int .i64 0, .int .i64 0, .int .i64 0, .int .i64 0, .string ⟨#[]⟩] 62)).grown hg5 (by intro e; exact HNE.out (Option.some.inj e).symm)); have HB3 := hid ((HB2.out.alloc HB2.out.size (.cells #[.int .i64 0, .int .i64 0, .int .i64 0, .int .i64 0, .int .u64 0, .int .u64 0, .int .i64 0, .int .i64 0, .int .i64 0, .int .u64 0, .int .i64 0, .int .i64 0, .int .i64 0, .int .i64 0, .string ⟨#[]⟩] 62)).trans (below_grown hg5 HB2.out.size (by simp; exact Nat.le_succ_of_le HB2.out.size))); have x0 : w5.cell? ⟨wr.heap.size, 0, none⟩ = some (.int .i64 1) := (by rw [RX.out.cell 0, ← HKK.out]; rfl); have x1 : (w5.alloc (.cells #[.int .u8 1] 5)).cell? ⟨wr.heap.size, 0, none⟩ = some (.int .i64 1) := (by rw [(RX.out.alloc (.cells #[.int .u8 1] 5)).cell 0, ← HKK.out]; rfl); have HOB : Hid (Rd (w5.alloc (.cells #[.int .u8 1] 5)) (w5.heap.size + 1) (some ⟨w5.heap.size, 0, none⟩) (bvs [1])) := hid (one_byte w5 1 (by omega)))
              | (with_reducible refine wpl_str rfl _ 47 9 rfl 5 Tryz.underlying47 Tryz.underlying5 Tryz.underlying9 (some ⟨w5.heap.size, 0, none⟩) 1 1 rfl (w5.heap.size + 1) [1] ?_ HOB (hid rfl))
              | ((with_reducible show wpList _ _ _ ({ dst := some 122, op := _, type := _, pos := _, after := _, guard := _ } :: _) _ _); refine wpl_load_midw rfl 28 (.tmp 121) rfl wr.heap.size 6 rfl (Array.toList X.entry.cells) _ (it_entry (RX.out.alloc (.cells #[.int .u8 1] 5))) Tryz.underlying28 rfl (by exact HZE.out) ?_)
              | (go_at_call 69; refine (HTX.out _).mono ?_; rintro e w7 ⟨T, rfl, BT, ZT, hb7⟩; have hq2 : ¬ (9223372036854775807 < S.size + 1 + T.size) := (by have := ZT.out; have := HTL.out; have := HLS.out; omega); have x2 : w7.cell? ⟨wr.heap.size, 0, none⟩ = some (.int .i64 1) := (by rw [((RX.out.alloc (.cells #[.int .u8 1] 5)).below hb7 (RX.out.alloc (.cells #[.int .u8 1] 5)).lt).cell 0, ← HKK.out]; rfl)))
            go_roundw
            case rel => exact ⟨k + 1, _, by omega, by go_num, rfl, hid (by rw [sb_catM, sb_catM, HS.out, BT.out, HNX.out, HIB.out]; simp only [List.append_assoc]; rfl), hid ((R3.out.alloc _).below hb7 (R3.out.alloc (.cells #[.int .u8 1] 5)).lt), hid ((HB3.out.alloc HB3.out.size _).trans (hb7.mono (HB3.out.alloc HB3.out.size (.cells #[.int .u8 1] 5)).size))⟩
            case measure => simp [intOf]; omega
          · have HIB : Hid (itemB X = 2 :: (bytesS X.stub).1) := hid (by unfold itemB; rw [hkk]; rfl)
            have HKK := hid hkk
            clear hkk
            have hq1 : ¬ (9223372036854775807 < S.size + 1) := by have := HLS.out; omega
            have HBY := hid (fun W => byt17 X.stub HXF.out.2.1 W)
            go_wp2_with (first
              | ((with_reducible show wpList _ _ _ ({ dst := some 109, op := _, type := _, pos := _, after := _, guard := _ } :: _) _ _); refine wpl_load_midw rfl 62 (.tmp 108) rfl g (o + k * 15) rfl (Array.toList X.cells) _ HRG.out Tryz.underlying62 rfl (by exact HZI.out) ?_)
              | ((with_reducible show wpList _ _ _ ({ dst := none, op := .store _ (.tmp 8) _, type := _, pos := _, after := _, guard := _ } :: _) _ _); refine wpl_store_st rfl (.tmp 8) (.tmp 109) rfl HZI.out wr.heap.size #[.int .i64 0, .int .i64 0, .int .i64 0, .int .i64 0, .int .u64 0, .int .u64 0, .int .i64 0, .int .i64 0, .int .i64 0, .int .u64 0, .int .i64 0, .int .i64 0, .int .i64 0, .int .i64 0, .string ⟨#[]⟩] X.cells rfl rfl (Row.new _ _ _) ?_ (hid rfl) (hid rfl) (hid (by simp [It.cells, Value.oneCell'])); intro w5 hr5 hg5; have RX := hid hr5; have R3 := hid ((R2.out.alloc (.cells #[.int .i64 0, .int .i64 0, .int .i64 0, .int .i64 0, .int .u64 0, .int .u64 0, .int .i64 0, .int .i64 0, .int .i64 0, .int .u64 0, .int .i64 0, .int .i64 0, .int .i64 0, .int .i64 0, .string ⟨#[]⟩] 62)).grown hg5 (by intro e; exact HNE.out (Option.some.inj e).symm)); have HB3 := hid ((HB2.out.alloc HB2.out.size (.cells #[.int .i64 0, .int .i64 0, .int .i64 0, .int .i64 0, .int .u64 0, .int .u64 0, .int .i64 0, .int .i64 0, .int .i64 0, .int .u64 0, .int .i64 0, .int .i64 0, .int .i64 0, .int .i64 0, .string ⟨#[]⟩] 62)).trans (below_grown hg5 HB2.out.size (by simp; exact Nat.le_succ_of_le HB2.out.size))); have x0 : w5.cell? ⟨wr.heap.size, 0, none⟩ = some (.int .i64 2) := (by rw [RX.out.cell 0, ← HKK.out]; rfl); have x1 : (w5.alloc (.cells #[.int .u8 2] 5)).cell? ⟨wr.heap.size, 0, none⟩ = some (.int .i64 2) := (by rw [(RX.out.alloc (.cells #[.int .u8 2] 5)).cell 0, ← HKK.out]; rfl); have HOB : Hid (Rd (w5.alloc (.cells #[.int .u8 2] 5)) (w5.heap.size + 1) (some ⟨w5.heap.size, 0, none⟩) (bvs [2])) := hid (one_byte w5 2 (by omega)))
              | (with_reducible refine wpl_str rfl _ 47 9 rfl 5 Tryz.underlying47 Tryz.underlying5 Tryz.underlying9 (some ⟨w5.heap.size, 0, none⟩) 1 1 rfl (w5.heap.size + 1) [2] ?_ HOB (hid rfl))
              | ((with_reducible show wpList _ _ _ ({ dst := some 130, op := _, type := _, pos := _, after := _, guard := _ } :: _) _ _); refine wpl_load_midw rfl 60 (.tmp 129) rfl wr.heap.size 1 rfl (Array.toList X.stub.cells) _ (it_stub (RX.out.alloc (.cells #[.int .u8 2] 5))) Tryz.underlying60 rfl (by exact stsizeM) ?_)
              | (go_at_call 70; refine (HBY.out _).mono ?_; rintro e w7 ⟨T, b, rfl, BT, ZT, hb7⟩; have hq2 : ¬ (9223372036854775807 < S.size + 1 + T.size) := (by have := ZT.out; have := HLS.out; omega)))
            go_roundw
            case rel => exact ⟨k + 1, _, by omega, by go_num, rfl, hid (by rw [sb_catM, sb_catM, HS.out, BT.out, HNX.out, HIB.out]; simp only [List.append_assoc]; rfl), hid ((R3.out.alloc _).below hb7 (R3.out.alloc (.cells #[.int .u8 2] 5)).lt), hid ((HB3.out.alloc HB3.out.size _).trans (hb7.mono (HB3.out.alloc HB3.out.size (.cells #[.int .u8 2] 5)).size))⟩
            case measure => simp [intOf]; omega
          · have HIB : Hid (itemB X = [3]) := hid (by unfold itemB; rw [hkk]; rfl)
            have HKK := hid hkk
            clear hkk
            have hq1 : ¬ (9223372036854775807 < S.size + 1) := by have := HLS.out; omega
            go_wp2_with (first
              | ((with_reducible show wpList _ _ _ ({ dst := some 109, op := _, type := _, pos := _, after := _, guard := _ } :: _) _ _); refine wpl_load_midw rfl 62 (.tmp 108) rfl g (o + k * 15) rfl (Array.toList X.cells) _ HRG.out Tryz.underlying62 rfl (by exact HZI.out) ?_)
              | ((with_reducible show wpList _ _ _ ({ dst := none, op := .store _ (.tmp 8) _, type := _, pos := _, after := _, guard := _ } :: _) _ _); refine wpl_store_st rfl (.tmp 8) (.tmp 109) rfl HZI.out wr.heap.size #[.int .i64 0, .int .i64 0, .int .i64 0, .int .i64 0, .int .u64 0, .int .u64 0, .int .i64 0, .int .i64 0, .int .i64 0, .int .u64 0, .int .i64 0, .int .i64 0, .int .i64 0, .int .i64 0, .string ⟨#[]⟩] X.cells rfl rfl (Row.new _ _ _) ?_ (hid rfl) (hid rfl) (hid (by simp [It.cells, Value.oneCell'])); intro w5 hr5 hg5; have RX := hid hr5; have R3 := hid ((R2.out.alloc (.cells #[.int .i64 0, .int .i64 0, .int .i64 0, .int .i64 0, .int .u64 0, .int .u64 0, .int .i64 0, .int .i64 0, .int .i64 0, .int .u64 0, .int .i64 0, .int .i64 0, .int .i64 0, .int .i64 0, .string ⟨#[]⟩] 62)).grown hg5 (by intro e; exact HNE.out (Option.some.inj e).symm)); have HB3 := hid ((HB2.out.alloc HB2.out.size (.cells #[.int .i64 0, .int .i64 0, .int .i64 0, .int .i64 0, .int .u64 0, .int .u64 0, .int .i64 0, .int .i64 0, .int .i64 0, .int .u64 0, .int .i64 0, .int .i64 0, .int .i64 0, .int .i64 0, .string ⟨#[]⟩] 62)).trans (below_grown hg5 HB2.out.size (by simp; exact Nat.le_succ_of_le HB2.out.size))); have x0 : w5.cell? ⟨wr.heap.size, 0, none⟩ = some (.int .i64 3) := (by rw [RX.out.cell 0, ← HKK.out]; rfl); have x1 : (w5.alloc (.cells #[.int .u8 3] 5)).cell? ⟨wr.heap.size, 0, none⟩ = some (.int .i64 3) := (by rw [(RX.out.alloc (.cells #[.int .u8 3] 5)).cell 0, ← HKK.out]; rfl); have HOB : Hid (Rd (w5.alloc (.cells #[.int .u8 3] 5)) (w5.heap.size + 1) (some ⟨w5.heap.size, 0, none⟩) (bvs [3])) := hid (one_byte w5 3 (by omega)))
              | (with_reducible refine wpl_str rfl _ 47 9 rfl 5 Tryz.underlying47 Tryz.underlying5 Tryz.underlying9 (some ⟨w5.heap.size, 0, none⟩) 1 1 rfl (w5.heap.size + 1) [3] ?_ HOB (hid rfl)))
            go_roundw
            case rel => exact ⟨k + 1, _, by omega, by go_num, rfl, hid (by rw [sb_catM, HS.out, HNX.out, HIB.out]; simp only [List.append_assoc]; rfl), hid (R3.out.alloc _), hid (HB3.out.alloc HB3.out.size _)⟩
            case measure => simp [intOf]; omega
        · obtain rfl : k = m.xs.length := by omega
          have HSF : Hid (sb S ++ sb m.body = bodyM m) := hid (by
            have := HS.out
            rw [List.take_of_length_le (Nat.le_refl _)] at this
            rw [this, body_parts])
          have c32 : wr.cell? ⟨w.heap.size, 32, none⟩ = some (.string m.body) := R2.out.cell 32
          have hq : ¬ (9223372036854775807 < S.size + m.body.size) := by
            have := HLS.out
            have := HR.out.2.2.1.1
            omega
          clear HS hk HLS HXA
          go_wp2_with fail
          go_ret
          exact ⟨by rw [← HSF.out, ← sb_catM, mk_sb]; rfl, HB2.out⟩
end Go.Proofs.YtcildaeiogdfdaaGreatDoor
