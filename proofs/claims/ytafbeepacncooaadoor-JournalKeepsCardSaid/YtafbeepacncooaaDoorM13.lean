/-
  The walks of Lasts and Read.
-/
import Derived.Test.YtafbeepacncooaaDoorM12
import Derived.BigQuiet
import Derived.Deep.QuietTactic
import Derived.Deep.RegionWith
namespace Go.Proofs.YtafbeepacncooaaDoor
open Go.RowKit

/-- a text of these bytes -/
def str (bs : List UInt8) : Value := .string ⟨bs.toArray⟩
theorem HasD.rdSec {w : World} {p gs : Nat} {vw : Value} {S : Sp} (h : HasD w p gs vw S) (k : Nat) (hk : k < S.secs.length) : Rd w w.heap.size (some ⟨gs, k * 386, none⟩) (bvs S.secs[k].lasts) := fun _ =>
  ⟨gs, k * 386, rfl, h.secs.lt, fun j u hu => by
    have hj : j < 384 := by
      have := (List.getElem?_eq_some_iff.1 hu).1
      rw [bvs_len, h.wf.len _ (List.getElem_mem hk)] at this
      exact this
    exact h.secs.at_ _ _ ((sec_byte S.secs (newest S.way) h.wf.len k j hk hj).trans hu)⟩
theorem HasD.wrShape {w : World} {p gs : Nat} {vw : Value} {S : Sp} (h : HasD w p gs vw S) (hk : 0 < S.way.length) : ∃ g c, vw = .slice (some ⟨g, 0, none⟩) S.way.length c ∧ g < w.heap.size ∧ S.way.length ≤ c := by
  rcases h.wrs.2 with ⟨_, h0⟩ | ⟨g, cap, cur, hv, _, hg, hc, _⟩
  · omega
  · exact ⟨g, cap, hv, (Array.getElem?_eq_some_iff.1 hg).1, hc⟩
theorem HasD.rdWr {w : World} {p gs : Nat} {vw : Value} {S : Sp} (h : HasD w p gs vw S) (k : Nat) (hk : k < S.way.length) (g c : Nat) (hv : vw = .slice (some ⟨g, 0, none⟩) S.way.length c) :
    Rd w w.heap.size (some ⟨g, k * 385 + 1, none⟩) (bvs S.way[k].bytes) := fun _ =>
  ⟨g, k * 385 + 1, rfl, (h.wrs.lt g (by rw [hv]; rfl)).2, fun j u hu => by
    have hb := (h.wf.way _ (List.getElem_mem hk)).2
    have hj : j < 384 := by
      have := (List.getElem?_eq_some_iff.1 hu).1
      rw [bvs_len, hb] at this
      exact this
    have ho := h.wrs
    rw [hv] at ho
    rw [ho.cellAt _ (by omega), Nat.add_assoc, wr_cell S.way (fun x hx => (h.wf.way x hx).2) k (1 + j) hk (by omega), wrCells, Nat.add_comm 1 j, List.getElem?_cons_succ]
    exact hu⟩
/-- text and number -/
def TN (r : List UInt8 × Int) (e : Ending) : Prop := e = .returned (.tuple #[str r.1, .int .i64 r.2])
set_option maxRecDepth 10000 in
set_option maxHeartbeats 400000 in
theorem read_no (p gs : Nat) (vw : Value) (S : Sp) (i : Int) (w : World) (h : HasD w p gs vw S) (hi : ¬ S.is i) :
    Calls Tryd.prog 26 #[dptr p, .int .i64 i] w fun e w' => TN ([], 1) e ∧ w = w' := by
  have c0 := h.c0
  unfold dptr
  go_enter Tryd.func26, Tryd.ntmps26
  go_wp2_with (go_at_call 50; refine (has_no _ p gs vw S _ h hi).mono ?_; rintro e w1 ⟨rfl, rfl⟩)
  go_ret2
  exact ⟨rfl, rfl⟩
set_option maxRecDepth 10000 in
set_option maxHeartbeats 400000 in
theorem read_off (p gs : Nat) (vw : Value) (S : Sp) (i : Int) (w : World) (h : HasD w p gs vw S) (h0 : 0 ≤ i) (h1 : i < (S.secs.length : Int)) (ho : S.on = false) :
    Calls Tryd.prog 26 #[dptr p, .int .i64 i] w fun e w' => TN ([], 6) e ∧ w = w' := by
  have c0 := h.c0
  have c2 := h.c2
  rw [ho] at c2
  unfold dptr
  go_enter Tryd.func26, Tryd.ntmps26
  go_wp2_with (go_at_call 50; refine (has_yes _ p gs vw S _ h h0 h1).mono ?_; rintro e w1 ⟨rfl, rfl⟩)
  go_ret2
  exact ⟨rfl, rfl⟩
set_option maxRecDepth 10000 in
set_option maxHeartbeats 400000 in
theorem read_old (p gs : Nat) (vw : Value) (S : Sp) (k : Nat) (w : World) (h : HasD w p gs vw S) (hk : k < S.secs.length) (ho : S.on = true) (hn : newest S.way k = 0) :
    Calls Tryd.prog 26 #[dptr p, .int .i64 (k : Int)] w fun e w' => TN (S.secs[k].lasts, 0) e ∧ w = w' := by
  have c0 := h.c0
  have c2 := h.c2
  have cn := h.secs.at_ (k * 386 + 385) _ (sec_newest S.secs (newest S.way) h.wf.len k hk)
  rw [hn] at cn
  rw [ho] at c2
  have hb : (k : Int) < (S.secs.length : Int) := by omega
  have H0 : (0 : Int) ≤ (k : Int) := by omega
  have HR := hid (h.rdSec k hk)
  have HL : Hid (384 = S.secs[k].lasts.length) := hid (h.wf.len _ (List.getElem_mem hk)).symm
  clear hn
  unfold dptr
  go_enter Tryd.func26, Tryd.ntmps26
  go_wp2_with (first
    | (go_at_call 50; refine (has_yes _ p gs vw S _ h H0 hb).mono ?_; rintro e w1 ⟨rfl, rfl⟩)
    | (with_reducible refine wpl_str rfl (.tmp 48) 96 9 rfl 5 Tryd.underlying96 Tryd.underlying5 Tryd.underlying9 (some ⟨gs, k * 386, none⟩) 384 384 rfl w.heap.size S.secs[k].lasts ?_ HR HL))
  go_ret2
  exact ⟨rfl, rfl⟩
set_option maxRecDepth 10000 in
set_option maxHeartbeats 400000 in
theorem read_new (p gs : Nat) (vw : Value) (S : Sp) (k j g c : Nat) (w : World) (h : HasD w p gs vw S) (hk : k < S.secs.length) (ho : S.on = true) (hn : newest S.way k = j + 1) (hj : j < S.way.length)
    (hv : vw = .slice (some ⟨g, 0, none⟩) S.way.length c) (hle : S.way.length ≤ 9223372036854775807) :
    Calls Tryd.prog 26 #[dptr p, .int .i64 (k : Int)] w fun e w' => TN (S.way[j].bytes, 0) e ∧ ∃ n, w' = w.drewN n := by
  have c0 := h.c0
  have c1 := h.c1
  have c2 := h.c2
  have cn := h.secs.at_ (k * 386 + 385) _ (sec_newest S.secs (newest S.way) h.wf.len k hk)
  rw [hn] at cn
  rw [ho] at c2
  have hb : (k : Int) < (S.secs.length : Int) := by omega
  have H0 : (0 : Int) ≤ (k : Int) := by omega
  have hb2 : (j : Int) < (S.way.length : Int) := by omega
  have HC : ∀ n, (convert 96 9 (.slice (some ⟨g, j * 385 + 1, none⟩) 384 384)).run Tryd.prog (w.drewN n) = .ok (.string ⟨S.way[j].bytes.toArray⟩) (w.drewN n) := by
    intro n
    have HL : 384 = S.way[j].bytes.length := (h.wf.way _ (List.getElem_mem hj)).2.symm
    refine run_str _ 96 5 Tryd.underlying96 Tryd.underlying5 9 Tryd.underlying9 w.heap.size _ _ 384 384 HL ?_
    intro hne
    obtain ⟨g0, o, e, h1, h2⟩ := h.rdWr j hj g c hv hne
    exact ⟨g0, o, e, h1, fun j u hu => by rw [World.cell?_drewN]; exact h2 j u hu⟩
  rw [hv] at c1 h
  clear hn hv
  unfold dptr
  go_enter Tryd.func26, Tryd.ntmps26
  go_wp2_with (go_at_call 50; refine (has_yes _ p gs _ S _ h H0 hb).mono ?_; rintro e w1 ⟨rfl, rfl⟩)
  go_quiet (fail)
  go_wp2
  go_ret2
  exact ⟨rfl, _, rfl⟩
end Go.Proofs.YtafbeepacncooaaDoor
/-
  The walk of take: the first bytes of a write last.
-/
namespace Go.Proofs.YtafbeepacncooaaDoor
open Go.RowKit

theorem splice_zero (s : Sec) (n : Nat) (b : List UInt8) (c : Nat) (hb : c ≤ b.length) (hs : s.lasts.length = 384) (hc : c ≤ 384) :
    splice (secCells s n) 0 (bvs (b.take c)) = secCells ⟨b.take c ++ s.lasts.drop c, s.marked⟩ n := by
  have hl : (bvs (b.take c)).length = c := by rw [bvs_len, List.length_take]; omega
  simp only [splice, secCells, List.take_zero, List.nil_append, Nat.zero_add, hl, bvs_app]
  rw [List.drop_append_of_le_length (by rw [bvs_len]; omega)]
  simp [bvs]
theorem sec_copy (secs : List Sec) (f : Nat → Nat) (h : ∀ s ∈ secs, s.lasts.length = 384) (i : Nat) (hi : i < secs.length) (b : List UInt8) (c : Nat) (hb : c ≤ b.length) (hc : c ≤ 384) :
    splice (secRows secs f).flatten (i * 386) (bvs (b.take c)) = (secRows (secs.set i ⟨b.take c ++ secs[i].lasts.drop c, secs[i].marked⟩) f).flatten := by
  have hl : (bvs (b.take c)).length = c := by rw [bvs_len, List.length_take]; omega
  have := flat_splice 386 (secRows secs f) i 0 (bvs (b.take c)) (by rw [secRows_n]; exact hi) (secRows_len secs f h) (by omega)
  rw [Nat.add_zero] at this
  rw [this, secRows_get secs f i hi, splice_zero _ _ b c hb (h _ (List.getElem_mem hi)) hc, secRows_set secs f f i _ _ hi rfl (fun _ _ => rfl)]
theorem sec_mark (secs : List Sec) (f : Nat → Nat) (h : ∀ s ∈ secs, s.lasts.length = 384) (i : Nat) (hi : i < secs.length) (m : Bool) :
    (secRows secs f).flatten.set (i * 386 + 384) (.bool m) = (secRows (secs.set i ⟨secs[i].lasts, m⟩) f).flatten := by
  rw [flat_set 386 (secRows secs f) i 384 _ (by rw [secRows_n]; exact hi) (secRows_len secs f h) (by omega), secRows_get secs f i hi]
  have hs := h _ (List.getElem_mem hi)
  have e : (secCells secs[i] (f i)).set 384 (.bool m) = secCells ⟨secs[i].lasts, m⟩ (f i) := by
    simp only [secCells]
    rw [List.set_append_right _ _ (by rw [bvs_len]; omega), bvs_len, hs]
    rfl
  rw [e, secRows_set secs f f i _ _ hi rfl (fun _ _ => rfl)]
theorem sec_new (secs : List Sec) (f f' : Nat → Nat) (h : ∀ s ∈ secs, s.lasts.length = 384) (i : Nat) (hi : i < secs.length) (n : Nat) (hn : n = f' i) (hf : ∀ j, j ≠ i → f' j = f j) :
    (secRows secs f).flatten.set (i * 386 + 385) (.int .i64 (n : Int)) = (secRows secs f').flatten := by
  rw [flat_set 386 (secRows secs f) i 385 _ (by rw [secRows_n]; exact hi) (secRows_len secs f h) (by omega), secRows_get secs f i hi]
  have hs := h _ (List.getElem_mem hi)
  have e : (secCells secs[i] (f i)).set 385 (.int .i64 (n : Int)) = secCells secs[i] n := by
    simp only [secCells]
    rw [List.set_append_right _ _ (by rw [bvs_len]; omega), bvs_len, hs]
    rfl
  rw [e, secRows_set secs f f' i _ _ hi hn hf]
  congr 2
  exact List.set_getElem_self hi
theorem sec_turn (secs : List Sec) (f : Nat → Nat) (h : ∀ s ∈ secs, s.lasts.length = 384) (i : Nat) (hi : i < secs.length) (a : Nat) (ha : a < 384) (b : UInt8) :
    (secRows secs f).flatten.set (i * 386 + a) (bv b) = (secRows (secs.set i ⟨secs[i].lasts.set a b, secs[i].marked⟩) f).flatten := by
  rw [flat_set 386 (secRows secs f) i a _ (by rw [secRows_n]; exact hi) (secRows_len secs f h) (by omega), secRows_get secs f i hi]
  have hs := h _ (List.getElem_mem hi)
  have e : (secCells secs[i] (f i)).set a (bv b) = secCells ⟨secs[i].lasts.set a b, secs[i].marked⟩ (f i) := by
    simp only [secCells]
    rw [List.set_append_left _ _ (by rw [bvs_len]; omega)]
    simp [bvs, List.map_set]
  rw [e, secRows_set secs f f i _ _ hi rfl (fun _ _ => rfl)]
theorem set_wf (secs : List Sec) (h : ∀ s ∈ secs, s.lasts.length = 384) (i : Nat) (s : Sec) (hs : s.lasts.length = 384) : ∀ s' ∈ secs.set i s, s'.lasts.length = 384 := by
  intro s' hs'
  rcases List.mem_or_eq_of_mem_set hs' with h' | rfl
  · exact h s' h'
  · exact hs
theorem takeS_len (s : Sec) (b : List UInt8) (c : Nat) (hs : s.lasts.length = 384) (hb : b.length = 384) (hc : c ≤ 384) : (takeS3 s b c).lasts.length = 384 := by
  simp only [takeS3, List.length_append, List.length_take, List.length_drop, hs, hb]; omega
/-- what take does to a row of sectors -/
theorem take_row {w1 : World} {gs i c : Nat} {secs : List Sec} {f : Nat → Nat} {b : List UInt8} (h : ∀ s ∈ secs, s.lasts.length = 384) (hi : i < secs.length) (hb : b.length = 384) (hc : c ≤ 384)
    (hr : Row w1 gs 95 (splice (secRows secs f).flatten (i * 386) (bvs (b.take c)))) :
    (c = 0 → Row w1 gs 95 (secRows (secs.set i (takeS3 secs[i] b c)) f).flatten) ∧
    (0 < c → ∀ m, m = decide (c < 384) → Row (w1.setCell ⟨gs, i * 386 + 384, none⟩ (.bool m)) gs 95 (secRows (secs.set i (takeS3 secs[i] b c)) f).flatten) ∧ (∃ u, w1.cell? ⟨gs, i * 386 + 384, none⟩ = some u) := by
  rw [sec_copy secs f h i hi b c (by omega) hc] at hr
  have hl : ∀ s' ∈ secs.set i ⟨b.take c ++ secs[i].lasts.drop c, secs[i].marked⟩, s'.lasts.length = 384 := by
    refine set_wf secs h i _ ?_
    have := takeS_len secs[i] b c (h _ (List.getElem_mem hi)) hb hc
    exact this
  have hi' : i < (secs.set i ⟨b.take c ++ secs[i].lasts.drop c, secs[i].marked⟩).length := by simpa using hi
  refine ⟨?_, ?_, ?_⟩
  · intro h0
    have e : takeS3 secs[i] b c = ⟨b.take c ++ secs[i].lasts.drop c, secs[i].marked⟩ := by unfold takeS3; rw [if_pos h0]
    rw [e]
    exact hr
  · intro h0 m hm
    have e : takeS3 secs[i] b c = ⟨b.take c ++ secs[i].lasts.drop c, m⟩ := by unfold takeS3; rw [if_neg (by omega), hm]
    have := hr.set_ (i * 386 + 384) (.bool m)
    rw [sec_mark _ f hl i hi' m, List.set_set] at this
    rw [e]
    simpa using this
  · exact ⟨_, hr.at_ _ _ (sec_marked _ f hl i hi')⟩
set_option maxRecDepth 10000 in
set_option maxHeartbeats 400000 in
theorem take_any3 (gs i c : Nat) (secs : List Sec) (f : Nat → Nat) (b : List UInt8) (A : Option Addr) (B : Nat) (w : World) (h : ∀ s ∈ secs, s.lasts.length = 384) (hi : i < secs.length) (hb : b.length = 384) (hc : c ≤ 384)
    (hr : Row w gs 95 (secRows secs f).flatten) (ha : Rd w B A (bvs (b.take c))) :
    Calls Tryd.prog 72 #[.pointer (some ⟨gs, i * 386, none⟩), .slice A c 384] w fun e w' => e = .returned (.tuple #[]) ∧ Row w' gs 95 (secRows (secs.set i (takeS3 secs[i] b c)) f).flatten ∧ Fr w w' [gs] := by
  have hl : (bvs (b.take c)).length = c := by rw [bvs_len, List.length_take]; omega
  have f1 : Hid (Rd w B A (bvs (b.take c))) := hid ha
  have f2 : Hid ((bvs (b.take c)).length = Nat.min c 384) := hid (by rw [hl]; exact (Nat.min_eq_left hc).symm)
  have f3 : Hid (0 < (bvs (b.take c)).length → (some (⟨gs, i * 386, none⟩ : Addr)) = some ⟨gs, i * 386, none⟩) := hid (fun _ => rfl)
  have f4 : Hid (i * 386 + (bvs (b.take c)).length ≤ (secRows secs f).flatten.length) := hid (by rw [hl, flat_length 386 _ (secRows_len secs f h), secRows_n]; omega)
  have f5 := hid (bvs_one (b.take c))
  have HT := hid (fun w1 hr1 => take_row (w1 := w1) (gs := gs) (c := c) (f := f) h hi hb hc hr1)
  have HR := hid hr
  clear hl hr ha h hb
  by_cases h0 : c = 0
  · subst h0
    go_enter Tryd.func72, Tryd.ntmps72
    go_wp2_with (with_reducible refine wpl_copy rfl (.tmp 7) (.tmp 8) 96 96 rfl 5 Tryd.underlying96 rfl (some ⟨gs, i * 386, none⟩) A 384 384 0 384 rfl rfl gs (i * 386) _ _ HR.out B (bvs (b.take 0)) ?_ f1 f2 f3 f4 f5; intro w1 HR1 HG1; obtain ⟨k1, k2, u, hu⟩ := HT.out w1 HR1; have hfz := HR1.frozen (i * 386 + 384); have K1 := hid k1; have K2 := hid k2; clear k1 k2)
    go_end0
    exact ⟨rfl, K1.out (by trivial), (Fr.refl w [gs]).grown HG1 (by intro k hk; cases hk; simp)⟩
  · by_cases h3 : c = 384
    · subst h3
      go_enter Tryd.func72, Tryd.ntmps72
      go_wp2_with (with_reducible refine wpl_copy rfl (.tmp 7) (.tmp 8) 96 96 rfl 5 Tryd.underlying96 rfl (some ⟨gs, i * 386, none⟩) A 384 384 384 384 rfl rfl gs (i * 386) _ _ HR.out B (bvs (b.take 384)) ?_ f1 f2 f3 f4 f5; intro w1 HR1 HG1; obtain ⟨k1, k2, u, hu⟩ := HT.out w1 HR1; have hfz := HR1.frozen (i * 386 + 384); have K1 := hid k1; have K2 := hid k2; clear k1 k2)
      go_end0
      exact ⟨rfl, K2.out (by omega) false rfl, ((Fr.refl w [gs]).grown HG1 (by intro k hk; cases hk; simp)).setCell (p := ⟨gs, i * 386 + 384, none⟩) (by simp) _⟩
    · have h0' : ((c : Int) == 0) = false := by simp; omega
      have h3' : ((c : Int) == 384) = false := by simp; omega
      have HC := hid h0
      have HC3 := hid h3
      clear h0 h3
      go_enter Tryd.func72, Tryd.ntmps72
      go_wp2_with (with_reducible refine wpl_copy rfl (.tmp 7) (.tmp 8) 96 96 rfl 5 Tryd.underlying96 rfl (some ⟨gs, i * 386, none⟩) A 384 384 c 384 rfl rfl gs (i * 386) _ _ HR.out B (bvs (b.take c)) ?_ f1 f2 f3 f4 f5; intro w1 HR1 HG1; obtain ⟨k1, k2, u, hu⟩ := HT.out w1 HR1; have hfz := HR1.frozen (i * 386 + 384); have K1 := hid k1; have K2 := hid k2; clear k1 k2)
      go_end0
      exact ⟨rfl, K2.out (by have := HC.out; omega) true (by have := HC3.out; simp; omega), ((Fr.refl w [gs]).grown HG1 (by intro k hk; cases hk; simp)).setCell (p := ⟨gs, i * 386 + 384, none⟩) (by simp) _⟩
end Go.Proofs.YtafbeepacncooaaDoor
/-
  The walks of lasting and of the closures: how many bytes of a write last.
-/
namespace Go.Proofs.YtafbeepacncooaaDoor
open Go.RowKit

theorem quiet_eq {P : Program} {f : FuncId} {args : Array Value} {w : World} {n : Nat} {v : Value}
    (h : Calls P f args (w.drewN n) fun e w' => e = .returned v ∧ w.drewN n = w') : Calls P f args (w.drewN n) fun e w'' => e = .returned v ∧ ∃ m, w'' = w.drewN m :=
  h.mono fun _ _ ⟨he, hm⟩ => ⟨he, n, hm.symm⟩
def ints (l : List Int) : List Value := l.map (Value.int .i64)
theorem ints_len (l : List Int) : (ints l).length = l.length := by simp [ints]
theorem kept_two (p : Int) (h : 0 ≤ p) (h1 : ¬ p % 3 = 1) (h2 : p % 3 = 2) : p / 3 % 385 = ((keptS p : Nat) : Int) := by
  unfold keptS
  rw [if_neg (by omega), if_neg h1]
  omega
theorem kept_one (p : Int) (h : 0 ≤ p) (h1 : p % 3 = 1) : (384 : Int) = ((keptS p : Nat) : Int) := by
  unfold keptS
  rw [if_neg (by omega), if_pos h1]
  rfl
theorem kept_none (p : Int) (h : p < 0 ∨ p % 3 = 0) : (0 : Int) = ((keptS p : Nat) : Int) := by
  unfold keptS
  rw [if_pos h]
  rfl
theorem retN {a : Int} {n : Nat} (h : a = (n : Int)) : Ending.returned (.int .i64 a) = .returned (.int .i64 (n : Int)) := by rw [h]
theorem lasting_any (p : Int) (w : World) (hp : p ≤ 9223372036854775807) :
    Calls Tryd.prog 56 #[.int .i64 p] w fun e w' => e = .returned (.int .i64 (keptS p : Int)) ∧ w = w' := by
  by_cases h0 : 0 ≤ p
  · have hm : ¬ p < 0 := by omega
    by_cases h1 : p % 3 = 1
    · have HK := hid (kept_one p h0 h1)
      have t1 : (p % 3 == 1) = true := by simp [h1]
      clear h1
      go_enter Tryd.func56, Tryd.ntmps56
      go_wp2_with fail
      all_goals (go_ret; exact ⟨retN (by first | exact HK.out | (rw [show max p 0 = p by omega]; exact HK.out)), rfl⟩)
    · have t1 : (p % 3 == 1) = false := by simp [h1]
      by_cases h2 : p % 3 = 2
      · have t2 : (p % 3 == 2) = true := by simp [h2]
        have HK := hid (kept_two p h0 h1 h2)
        clear h1 h2
        go_enter Tryd.func56, Tryd.ntmps56
        go_wp2_with fail
        all_goals (go_ret; exact ⟨retN (by first | exact HK.out | (rw [show max p 0 = p by omega]; exact HK.out)), rfl⟩)
      · have t2 : (p % 3 == 2) = false := by simp [h2]
        have HK := hid (kept_none p (by omega))
        clear h1 h2
        go_enter Tryd.func56, Tryd.ntmps56
        go_wp2_with fail
        all_goals (go_ret; exact ⟨retN (by first | exact HK.out | (rw [show max p 0 = p by omega]; exact HK.out)), rfl⟩)
  · have HK := hid (kept_none p (by omega))
    have hm : p < 0 := by omega
    clear h0
    go_enter Tryd.func56, Tryd.ntmps56
    go_wp2_with fail
    all_goals (go_ret; exact ⟨retN (by first | exact HK.out | (rw [show max p 0 = p by omega]; exact HK.out)), rfl⟩)
theorem flush1_any (k : Nat) (w : World) :
    Calls Tryd.prog 67 #[.int .i64 (k : Int)] w fun e w' => e = .returned (.int .i64 384) ∧ w = w' := by
  go_enter Tryd.func67, Tryd.ntmps67
  go_wp2
  go_ret
  exact ⟨rfl, rfl⟩
theorem start1_none (k pb : Nat) (A : Option Addr) (c : Nat) (w : World) (hb : w.cell? ⟨pb, 0, none⟩ = some (.slice A 0 c)) :
    Calls Tryd.prog 55 #[.int .i64 (k : Int), .pointer (some ⟨pb, 0, none⟩)] w fun e w' => e = .returned (.int .i64 0) ∧ w = w' := by
  go_enter Tryd.func55, Tryd.ntmps55
  go_wp2
  go_ret
  exact ⟨rfl, rfl⟩
set_option maxRecDepth 10000 in
theorem start1_some (k pb g o n c : Nat) (x : Int) (w : World) (hb : w.cell? ⟨pb, 0, none⟩ = some (.slice (some ⟨g, o, none⟩) n c)) (hn : 0 < n) (hn2 : n ≤ 9223372036854775807) (hk : k ≤ 9223372036854775807)
    (hx : w.cell? ⟨g, o + k % n, none⟩ = some (.int .i64 x)) (hx2 : x ≤ 9223372036854775807) :
    Calls Tryd.prog 55 #[.int .i64 (k : Int), .pointer (some ⟨pb, 0, none⟩)] w fun e w' => e = .returned (.int .i64 (keptS x : Int)) ∧ ∃ m, w' = w.drewN m := by
  have h1 : ((n : Int) == 0) = false := by simp; omega
  have h2 : ¬ n = 0 := by omega
  have h3 : (k : Int) % (n : Int) < (n : Int) := Int.emod_lt_of_pos _ (by omega)
  have h4 : 0 ≤ (k : Int) % (n : Int) := Int.emod_nonneg _ (by omega)
  have h5 : ((k : Int) % (n : Int)).toNat = k % n := by rw [← Int.natCast_emod]; rfl
  have h6 : (k : Int).tmod (n : Int) = (k : Int) % (n : Int) := Int.tmod_eq_emod_of_nonneg (by omega)
  go_enter Tryd.func55, Tryd.ntmps55
  go_wp2_with fail
  go_quiet (first | (go_at_call 56; exact quiet_eq (lasting_any x _ hx2)))
  go_wp2
  go_ret
  exact ⟨rfl, _, rfl⟩
theorem start1_any (k pb : Nat) (picks : List Int) (A : Option Addr) (c B : Nat) (w : World) (hb : w.cell? ⟨pb, 0, none⟩ = some (.slice A picks.length c)) (hr : Rd w B A (ints picks)) (hp : ∀ x ∈ picks, x ≤ 9223372036854775807)
    (hn : picks.length ≤ 9223372036854775807) (hk : k ≤ 9223372036854775807) :
    Calls Tryd.prog 55 #[.int .i64 (k : Int), .pointer (some ⟨pb, 0, none⟩)] w fun e w' => e = .returned (.int .i64 (pickOf picks k : Int)) ∧ ∃ m, w' = w.drewN m := by
  by_cases h0 : picks = []
  · subst h0
    refine (start1_none k pb A c w hb).mono ?_
    rintro e w' ⟨rfl, rfl⟩
    exact ⟨by simp [pickOf], 0, rfl⟩
  · have hl : 0 < picks.length := List.length_pos_iff.2 h0
    have hm : k % picks.length < picks.length := Nat.mod_lt _ hl
    obtain ⟨g, o, rfl, _, hc⟩ := hr.at_ (j := k % picks.length) (by rw [ints_len]; exact hm)
    have e1 : pickOf picks k = keptS picks[k % picks.length] := by
      unfold pickOf
      rw [if_neg h0]
      simp [hm]
    rw [e1]
    refine start1_some k pb g o picks.length c _ w hb hl hn hk ?_ (hp _ (List.getElem_mem hm))
    rw [hc]
    simp [ints]
end Go.Proofs.YtafbeepacncooaaDoor
/-
  Lemmas for the walk of settle: what has been settled behind k writes.
-/
namespace Go.Proofs.YtafbeepacncooaaDoor
open Go.RowKit

def nz (way : List Wr) (k i : Nat) : Nat := if (way.take k).any (fun x => x.place == i) then 0 else newest way i
theorem nz_zero (way : List Wr) : nz way 0 = newest way := by funext i; simp [nz]
theorem nz_full (way : List Wr) : nz way way.length = newest [] := by
  funext i
  simp only [nz, List.take_length, newest_nil]
  split
  · rfl
  · rename_i h
    rw [newest_zero]
    intro x hx e
    apply h
    rw [List.any_eq_true]
    exact ⟨x, hx, by simp [e]⟩
theorem nz_here (way : List Wr) (k : Nat) (hk : k < way.length) : 0 = nz way (k + 1) way[k].place := by
  simp only [nz]
  rw [if_pos]
  rw [List.any_eq_true]
  exact ⟨way[k], List.mem_take_iff_getElem.2 ⟨k, by omega, rfl⟩, by simp⟩
theorem nz_there (way : List Wr) (k : Nat) (hk : k < way.length) (j : Nat) (hj : j ≠ way[k].place) : nz way (k + 1) j = nz way k j := by
  simp only [nz]
  rw [List.take_succ_eq_append_getElem hk, List.any_append]
  simp [Ne.symm hj]
theorem sett_step (F : Nat → Nat) (way : List Wr) (secs : List Sec) (k : Nat) (hk : k < way.length) (hi : way[k].place < (sett F (way.take k) secs).length) :
    sett F (way.take (k + 1)) secs = (sett F (way.take k) secs).set way[k].place (takeS3 (sett F (way.take k) secs)[way[k].place] way[k].bytes (F k)) := by
  have e : (List.take k way).length = k := by rw [List.length_take]; omega
  rw [List.take_succ_eq_append_getElem hk, sett_snoc, e]
  apply List.ext_getElem?
  intro j
  rw [List.getElem?_modify, List.getElem?_set]
  by_cases hj : way[k].place = j
  · subst hj
    simp [hi]
  · simp [hj]
theorem Fr.undrew {w w' : World} {n : Nat} {fp : List Nat} (h : Fr (w.drewN n) w' fp) : Fr w w' fp := ⟨h.os, h.tape, h.output, h.size, h.block⟩
set_option maxRecDepth 10000 in
theorem slice_head (a : Addr) (c : Nat) (hc : c ≤ 384) (w : World) :
    (Instr.sliceAt 93 (.pointer (some a)) none (some (.int .i64 (c : Int))) none).run Tryd.prog w = .ok (.slice (some a) c 384) w := by
  simp [Instr.sliceAt, Instr.sliceBounds, Instr.sliceBound, go_sem]
  omega
/-- the facts of round k -/
structure Rnd (wr : World) (gs : Nat) (S : Sp) (F : Nat → Nat) (k : Nat) : Prop where
  row : Row wr gs 95 (secRows (sett F (S.way.take k) S.secs) (nz S.way k)).flatten
theorem rnd_end {w1 : World} {gs : Nat} {S : Sp} {F : Nat → Nat} {k : Nat} (hw : S.WF) (hF : ∀ k, F k ≤ 384) (hk : k < S.way.length) (hi : S.way[k].place < (sett F (S.way.take k) S.secs).length)
    (hr : Row w1 gs 95 (secRows ((sett F (S.way.take k) S.secs).set S.way[k].place (takeS3 (sett F (S.way.take k) S.secs)[S.way[k].place] S.way[k].bytes (F k))) (nz S.way k)).flatten) :
    (∃ u, w1.cell? ⟨gs, S.way[k].place * 386 + 385, none⟩ = some u) ∧ Rnd (w1.setCell ⟨gs, S.way[k].place * 386 + 385, none⟩ (.int .i64 0)) gs S F (k + 1) := by
  have hl := sett_wf F hF (S.way.take k) S.secs hw.len (fun x hx => (hw.way x (List.mem_of_mem_take hx)).2)
  have hl2 := set_wf _ hl S.way[k].place _ (takeS_len _ S.way[k].bytes (F k) (hl _ (List.getElem_mem hi)) (hw.way _ (List.getElem_mem hk)).2 (hF k))
  have hi2 : S.way[k].place < ((sett F (S.way.take k) S.secs).set S.way[k].place (takeS3 (sett F (S.way.take k) S.secs)[S.way[k].place] S.way[k].bytes (F k))).length := by simpa using hi
  refine ⟨⟨_, hr.at_ _ _ (sec_newest _ _ hl2 _ hi2)⟩, ⟨?_⟩⟩
  have h2 := hr.set_ (S.way[k].place * 386 + 385) (.int .i64 ((0 : Nat) : Int))
  rw [sec_new _ (nz S.way k) (nz S.way (k + 1)) hl2 _ hi2 0 (nz_here S.way k hk) (fun j hj => nz_there S.way k hk j hj)] at h2
  rw [sett_step F S.way S.secs k hk hi]
  exact h2
theorem HasD.settled {w w1 : World} {p gs : Nat} {vw : Value} {S : Sp} {F : Nat → Nat} (hF : ∀ k, F k ≤ 384) (h : HasD w p gs vw S) (hf : Fr w w1 [gs]) (hr : Rnd w1 gs S F S.way.length) :
    HasD (w1.setCell ⟨p, 1, none⟩ (.slice none 0 0)) p gs (.slice none 0 0) { S with secs := sett F S.way S.secs, way := [] } ∧ Fr w (w1.setCell ⟨p, 1, none⟩ (.slice none 0 0)) [p, gs] := by
  have hd := (hf.row h.disk (by simpa using h.ne1)).set_ 1 (.slice none 0 0)
  have hr' := hr.row
  rw [List.take_length, nz_full] at hr'
  refine ⟨⟨?_, hr'.far (p := ⟨p, 1, none⟩) (Ne.symm h.ne1) _, World.ownsRow_nil _ _ _ _, h.ne1, by simp [Value.ownBlock], by simp [Value.ownBlock], ?_⟩, ?_⟩
  · have e := sett_length F S.way S.secs
    simpa [e] using hd
  · exact ⟨sett_wf F hF S.way S.secs h.wf.len (fun x hx => (h.wf.way x hx).2), by simp, by simpa [sett_length] using h.wf.few, h.wf.left, by simp⟩
  · exact (hf.mono (fq := [p, gs]) (by simp)).setCell (p := ⟨p, 1, none⟩) (by simp) _
end Go.Proofs.YtafbeepacncooaaDoor
/-
  The walk of settle, as Flush calls it.
-/
namespace Go.Proofs.YtafbeepacncooaaDoor
open Go.RowKit

set_option maxRecDepth 10000 in
set_option maxHeartbeats 1000000 in
theorem settF_calls (p gs : Nat) (vw : Value) (S : Sp) (w : World) (h : HasD w p gs vw S) (hn : S.way.length ≤ 4611686018427387904) :
    Calls Tryd.prog 54 #[dptr p, .func (.func 67) #[] #[]] w fun e w' => e = .returned (.tuple #[]) ∧ HasD w' p gs (.slice none 0 0) { S with secs := sett (fun _ => 384) S.way S.secs, way := [] } ∧ Fr w w' [p, gs] := by
  have c1 := h.c1
  obtain ⟨A, c, hv⟩ := vw_shape h.wrs
  rw [hv] at c1
  have HV := hid hv
  clear hv
  unfold dptr
  go_enter Tryd.func54, Tryd.ntmps54
  go_wp2_with fail
  go_loopw [12] (fun i wr => ∃ k : Nat, k ≤ S.way.length ∧ i = .int .i64 k ∧ Rnd wr gs S (fun _ => 384) k ∧ Fr w wr [gs]) (fun i _ => S.way.length - (intOf i).toNat)
  case atStart =>
    refine ⟨0, by omega, rfl, ⟨?_⟩, Fr.refl _ _⟩
    rw [List.take_zero, sett_nil, nz_zero]
    exact h.secs
  case round =>
    obtain ⟨k, hk, rfl, hrd, hfr⟩ := hrel
    by_cases hlt : k < S.way.length
    · obtain ⟨g, c', hv, hg, hcap⟩ := h.wrShape (by omega)
      have hwr := h.wf.way _ (List.getElem_mem hlt)
      have ho := hfr.own h.wrs (by intro b hb; simp; rintro rfl; exact h.ne3 hb)
      rw [hv] at ho
      have cp1 := (hfr.row h.disk (by simpa using h.ne1)).at_ 1 _ rfl
      have cp0 := (hfr.row h.disk (by simpa using h.ne1)).at_ 0 _ rfl
      rw [hv] at cp1
      have cpl : wr.cell? ⟨g, k * 385, none⟩ = some (.int .i64 (S.way[k].place : Int)) := by
        have := ho.cellAt (k * 385 + 0) (by omega)
        rw [wr_cell S.way (fun x hx => (h.wf.way x hx).2) k 0 hlt (by omega)] at this
        simpa [wrCells] using this
      have hi : S.way[k].place < (sett (fun _ => 384) (S.way.take k) S.secs).length := by rw [sett_length]; exact hwr.1
      have hl := sett_wf (fun _ => 384) (fun _ => Nat.le_refl _) (S.way.take k) S.secs h.wf.len (fun x hx => (h.wf.way x (List.mem_of_mem_take hx)).2)
      have HI := hid hi
      have HL := hid hl
      have HB := hid hwr.2
      have HRD : Hid (∀ n, Row (wr.drewN n) gs 95 (secRows (sett (fun _ => 384) (S.way.take k) S.secs) (nz S.way k)).flatten) := fun n => hrd.row
      have HA : Hid (∀ n, Rd (wr.drewN n) w.heap.size (some ⟨g, k * 385 + 1, none⟩) (bvs (S.way[k].bytes.take 384))) := by
        intro n
        rw [List.take_of_length_le (by have := hwr.2; omega)]
        exact hfr.rd' (h.rdWr k hlt g c' hv) (by simp; rintro rfl; exact h.ne3 (by rw [hv]; rfl))
      have HE := hid (fun w1 hr1 => rnd_end (w1 := w1) (gs := gs) (F := fun _ => 384) (k := k) h.wf (fun _ => Nat.le_refl _) hlt hi hr1)
      have HF := hid hfr
      clear hl hrd hfr ho
      have hb1 : (k : Int) < (S.way.length : Int) := by omega
      have hb2 : ((S.way[k].place : Nat) : Int) < (S.secs.length : Int) := by have := hwr.1; omega
      go_wp2_with fail
      go_quiet (fail)
      go_wp2_with fail
      go_region_with (first
        | (go_at_call 67; refine (flush1_any k _).mono ?_; rintro e w1 ⟨rfl, rfl⟩)
        | (go_at_call 72; refine (take_any3 gs S.way[k].place 384 _ _ S.way[k].bytes (some ⟨g, k * 385 + 1, none⟩) w.heap.size _ HL.out HI.out HB.out (Nat.le_refl _) (HRD.out _) (HA.out _)).mono ?_; rintro e w1 ⟨rfl, hr1, hf1⟩; obtain ⟨⟨u, hu⟩, HE2⟩ := HE.out w1 hr1; have hfz := hr1.frozen (S.way[k].place * 386 + 385); have HX := hid HE2; have HR1 := hid hr1; clear HE2 hr1))
      all_goals go_wp2_with fail
      go_roundw
      case rel => exact ⟨k + 1, by omega, by go_num, HX.out, (HF.out.trans hf1.undrew (by simp)).setCell (p := ⟨gs, S.way[k].place * 386 + 385, none⟩) (by simp) _⟩
      case measure => simp [intOf]; omega
    · obtain rfl : k = S.way.length := by omega
      have cp1 := (hfr.row h.disk (by simpa using h.ne1)).at_ 1 _ rfl
      have fp1 := (hfr.row h.disk (by simpa using h.ne1)).frozen 1
      have HH := hid (HasD.settled (by simp) h hfr hrd)
      clear hrd hfr
      go_wp2_with fail
      go_end0
      exact ⟨rfl, HH.out⟩
end Go.Proofs.YtafbeepacncooaaDoor
/-
  The walk of settle, as Start calls it.
-/
namespace Go.Proofs.YtafbeepacncooaaDoor
open Go.RowKit

set_option maxRecDepth 10000 in
set_option maxHeartbeats 1000000 in
theorem settP_calls (p gs : Nat) (vw : Value) (S : Sp) (w : World) (h : HasD w p gs vw S) (hn : S.way.length ≤ 4611686018427387904)
    (picks : List Int) (pb : Nat) (Ap : Option Addr) (cp B : Nat) (hbox : Row w pb 30 [.slice Ap picks.length cp]) (hrp : Rd w B Ap (ints picks)) (hp : ∀ x ∈ picks, x ≤ 9223372036854775807) (hpn : picks.length ≤ 9223372036854775807)
    (hpb : pb ≠ p ∧ pb ≠ gs) (hB : picks ≠ [] → ∀ g o, Ap = some ⟨g, o, none⟩ → g ≠ gs) :
    Calls Tryd.prog 54 #[dptr p, .func (.func 55) #[] #[.pointer (some ⟨pb, 0, none⟩)]] w fun e w' => e = .returned (.tuple #[]) ∧ HasD w' p gs (.slice none 0 0) { S with secs := sett (pickOf picks) S.way S.secs, way := [] } ∧ Fr w w' [p, gs] := by
  have c1 := h.c1
  obtain ⟨A, c, hv⟩ := vw_shape h.wrs
  rw [hv] at c1
  have HV := hid hv
  clear hv
  unfold dptr
  go_enter Tryd.func54, Tryd.ntmps54
  go_wp2_with fail
  go_loopw [12] (fun i wr => ∃ k : Nat, k ≤ S.way.length ∧ i = .int .i64 k ∧ Rnd wr gs S (pickOf picks) k ∧ Fr w wr [gs]) (fun i _ => S.way.length - (intOf i).toNat)
  case atStart =>
    refine ⟨0, by omega, rfl, ⟨?_⟩, Fr.refl _ _⟩
    rw [List.take_zero, sett_nil, nz_zero]
    exact h.secs
  case round =>
    obtain ⟨k, hk, rfl, hrd, hfr⟩ := hrel
    by_cases hlt : k < S.way.length
    · obtain ⟨g, c', hv, hg, hcap⟩ := h.wrShape (by omega)
      have hwr := h.wf.way _ (List.getElem_mem hlt)
      have ho := hfr.own h.wrs (by intro b hb; simp; rintro rfl; exact h.ne3 hb)
      rw [hv] at ho
      have cp1 := (hfr.row h.disk (by simpa using h.ne1)).at_ 1 _ rfl
      have cp0 := (hfr.row h.disk (by simpa using h.ne1)).at_ 0 _ rfl
      rw [hv] at cp1
      have cpl : wr.cell? ⟨g, k * 385, none⟩ = some (.int .i64 (S.way[k].place : Int)) := by
        have := ho.cellAt (k * 385 + 0) (by omega)
        rw [wr_cell S.way (fun x hx => (h.wf.way x hx).2) k 0 hlt (by omega)] at this
        simpa [wrCells] using this
      have hi : S.way[k].place < (sett (pickOf picks) (S.way.take k) S.secs).length := by rw [sett_length]; exact hwr.1
      have hl := sett_wf (pickOf picks) (pickOf_le picks) (S.way.take k) S.secs h.wf.len (fun x hx => (h.wf.way x (List.mem_of_mem_take hx)).2)
      have HI := hid hi
      have HL := hid hl
      have HB := hid hwr.2
      have HRD : Hid (∀ n, Row (wr.drewN n) gs 95 (secRows (sett (pickOf picks) (S.way.take k) S.secs) (nz S.way k)).flatten) := fun n => hrd.row
      have HA : Hid (∀ n, Rd (wr.drewN n) w.heap.size (some ⟨g, k * 385 + 1, none⟩) (bvs (S.way[k].bytes.take (pickOf picks k)))) := by
        intro n
        have h1 := (h.rdWr k hlt g c' hv).take (pickOf picks k)
        have e1 : (bvs S.way[k].bytes).take (pickOf picks k) = bvs (S.way[k].bytes.take (pickOf picks k)) := by simp [bvs]
        rw [e1] at h1
        exact hfr.rd' h1 (by simp; rintro rfl; exact h.ne3 (by rw [hv]; rfl))
      have HBX : Hid (∀ n, (wr.drewN n).cell? ⟨pb, 0, none⟩ = some (.slice Ap picks.length cp)) := fun n => (hfr.row hbox (by simpa using hpb.2)).at_ 0 _ rfl
      have HPK : Hid (∀ n, Rd (wr.drewN n) B Ap (ints picks)) := fun n => by
        intro hne
        obtain ⟨g0, o0, e0, hg0, hc0⟩ := hrp hne
        exact ⟨g0, o0, e0, hg0, fun j u hu => (World.cell?_of_block (w := w) (a := ⟨g0, o0 + j, none⟩) (hfr.block g0 (World.block_lt_of_cell? w _ (hc0 j u hu)) (by simpa using hB (fun e => hne (by rw [e]; rfl)) g0 o0 e0))).trans (hc0 j u hu)⟩
      have hle := pickOf_le picks k
      have hsl := slice_head ⟨g, k * 385 + 1, none⟩ (pickOf picks k) hle
      have HE := hid (fun w1 hr1 => rnd_end (w1 := w1) (gs := gs) (F := pickOf picks) (k := k) h.wf (pickOf_le picks) hlt hi hr1)
      have HF := hid hfr
      clear hl hrd hfr ho
      have hb1 : (k : Int) < (S.way.length : Int) := by omega
      have hb2 : ((S.way[k].place : Nat) : Int) < (S.secs.length : Int) := by have := hwr.1; omega
      go_wp2_with fail
      go_quiet (fail)
      go_wp2_with fail
      go_region_with (first
        | (go_at_call 55; refine (start1_any k pb picks Ap cp B _ (HBX.out _) (HPK.out _) hp hpn (by omega)).mono ?_; rintro e w1 ⟨rfl, m, rfl⟩)
        | (go_at_call 72; refine (take_any3 gs S.way[k].place (pickOf picks k) _ _ S.way[k].bytes (some ⟨g, k * 385 + 1, none⟩) w.heap.size _ HL.out HI.out HB.out (pickOf_le picks k) (HRD.out _) (HA.out _)).mono ?_; rintro e w1 ⟨rfl, hr1, hf1⟩; obtain ⟨⟨u, hu⟩, HE2⟩ := HE.out w1 hr1; have hfz := hr1.frozen (S.way[k].place * 386 + 385); have HX := hid HE2; have HR1 := hid hr1; clear HE2 hr1))
      all_goals go_wp2_with fail
      go_roundw
      case rel => exact ⟨k + 1, by omega, by go_num, HX.out, (HF.out.trans hf1.undrew (by simp)).setCell (p := ⟨gs, S.way[k].place * 386 + 385, none⟩) (by simp) _⟩
      case measure => simp [intOf]; omega
    · obtain rfl : k = S.way.length := by omega
      have cp1 := (hfr.row h.disk (by simpa using h.ne1)).at_ 1 _ rfl
      have fp1 := (hfr.row h.disk (by simpa using h.ne1)).frozen 1
      have HH := hid (HasD.settled (pickOf_le picks) h hfr hrd)
      clear hrd hfr
      go_wp2_with fail
      go_end0
      exact ⟨rfl, HH.out⟩
end Go.Proofs.YtafbeepacncooaaDoor
