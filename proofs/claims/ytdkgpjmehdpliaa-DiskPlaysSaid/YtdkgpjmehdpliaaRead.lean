/-
  The walks of Lasts and Read.
-/
import Derived.Test.YtdkgpjmehdpliaaGoes
import Derived.BigQuiet
import Derived.Deep.QuietTactic
namespace Go.Proofs.Ytdkgpjmehdpliaa
open Go.RowKit

/-- a text of these bytes -/
def str (bs : List UInt8) : Value := .string ⟨bs.toArray⟩

theorem HasD.rdSec {w : World} {p gs : Nat} {vw : Value} {S : Sp} (h : HasD w p gs vw S) (k : Nat) (hk : k < S.secs.length) : Rd w w.heap.size (some ⟨gs, k * 386, none⟩) (bvs S.secs[k].lasts) := fun _ =>
  ⟨gs, k * 386, rfl, h.secs.lt, fun j u hu => by
    have hj : j < 384 := by
      have := (List.getElem?_eq_some_iff.1 hu).1
      rw [bvs_len, h.wf.len _ (List.getElem_mem hk)] at this
      exact this
    exact h.secs.at_ _ _ ((sec_byte S.secs (newest S.way) h.wf.len k j hk hj).trans hu)⟩

theorem HasD.wrShape {w : World} {p gs : Nat} {vw : Value} {S : Sp} (h : HasD w p gs vw S) (hk : 0 < S.way.length) : ∃ g c, vw = .slice (some ⟨g, 0, none⟩) S.way.length c ∧ g < w.heap.size ∧ S.way.length ≤ c := by
  rcases h.wrs.2 with ⟨_, h0⟩ | ⟨g, cap, cur, hv, _, hg, hc, _⟩
  · omega
  · exact ⟨g, cap, hv, (Array.getElem?_eq_some_iff.1 hg).1, hc⟩
theorem HasD.rdWr {w : World} {p gs : Nat} {vw : Value} {S : Sp} (h : HasD w p gs vw S) (k : Nat) (hk : k < S.way.length) (g c : Nat) (hv : vw = .slice (some ⟨g, 0, none⟩) S.way.length c) :
    Rd w w.heap.size (some ⟨g, k * 385 + 1, none⟩) (bvs S.way[k].bytes) := fun _ =>
  ⟨g, k * 385 + 1, rfl, (h.wrs.lt g (by rw [hv]; rfl)).2, fun j u hu => by
    have hb := (h.wf.way _ (List.getElem_mem hk)).2
    have hj : j < 384 := by
      have := (List.getElem?_eq_some_iff.1 hu).1
      rw [bvs_len, hb] at this
      exact this
    have ho := h.wrs
    rw [hv] at ho
    rw [ho.cellAt _ (by omega), Nat.add_assoc, wr_cell S.way (fun x hx => (h.wf.way x hx).2) k (1 + j) hk (by omega), wrCells, Nat.add_comm 1 j, List.getElem?_cons_succ]
    exact hu⟩

def SE (s : List UInt8) (e : Ending) : Prop := e = .returned (str s)

set_option maxRecDepth 10000 in
set_option maxHeartbeats 400000 in
theorem lasts_yes (p gs : Nat) (vw : Value) (S : Sp) (k : Nat) (w : World) (h : HasD w p gs vw S) (hk : k < S.secs.length) :
    Calls Try.prog 21 #[dptr p, .int .i64 (k : Int)] w fun e w' => e = .returned (str S.secs[k].lasts) ∧ w = w' := by
  have c0 := h.c0
  have hb : (k : Int) < (S.secs.length : Int) := by omega
  have H0 : (0 : Int) ≤ (k : Int) := by omega
  have HR := hid (h.rdSec k hk)
  have HL : Hid (384 = S.secs[k].lasts.length) := hid (h.wf.len _ (List.getElem_mem hk)).symm
  unfold dptr
  go_enter Try.func21, Try.ntmps21
  go_wp2_with (first
    | (go_at_call 38; refine (has_yes _ p gs vw S _ h H0 hb).mono ?_; rintro e w1 ⟨rfl, rfl⟩)
    | (with_reducible refine wpl_str rfl (.tmp 20) 59 9 rfl 5 Try.underlying59 Try.underlying5 Try.underlying9 (some ⟨gs, k * 386, none⟩) 384 384 rfl w.heap.size S.secs[k].lasts ?_ HR HL))
  go_ret
  exact ⟨rfl, rfl⟩
theorem lasts_no (p gs : Nat) (vw : Value) (S : Sp) (i : Int) (w : World) (h : HasD w p gs vw S) (hi : ¬ S.is i) :
    Calls Try.prog 21 #[dptr p, .int .i64 i] w fun e w' => e = .returned (str []) ∧ w = w' := by
  have c0 := h.c0
  unfold dptr
  go_enter Try.func21, Try.ntmps21
  go_wp2_with (go_at_call 38; refine (has_no _ p gs vw S _ h hi).mono ?_; rintro e w1 ⟨rfl, rfl⟩)
  go_ret
  exact ⟨rfl, rfl⟩

/-- text and number -/
def TN (r : List UInt8 × Int) (e : Ending) : Prop := e = .returned (.tuple #[str r.1, .int .i64 r.2])

set_option maxRecDepth 10000 in
set_option maxHeartbeats 400000 in
theorem read_no (p gs : Nat) (vw : Value) (S : Sp) (i : Int) (w : World) (h : HasD w p gs vw S) (hi : ¬ S.is i) :
    Calls Try.prog 17 #[dptr p, .int .i64 i] w fun e w' => TN ([], 1) e ∧ w = w' := by
  have c0 := h.c0
  unfold dptr
  go_enter Try.func17, Try.ntmps17
  go_wp2_with (go_at_call 38; refine (has_no _ p gs vw S _ h hi).mono ?_; rintro e w1 ⟨rfl, rfl⟩)
  go_ret2
  exact ⟨rfl, rfl⟩
set_option maxRecDepth 10000 in
set_option maxHeartbeats 400000 in
theorem read_off (p gs : Nat) (vw : Value) (S : Sp) (i : Int) (w : World) (h : HasD w p gs vw S) (h0 : 0 ≤ i) (h1 : i < (S.secs.length : Int)) (ho : S.on = false) :
    Calls Try.prog 17 #[dptr p, .int .i64 i] w fun e w' => TN ([], 6) e ∧ w = w' := by
  have c0 := h.c0
  have c2 := h.c2
  rw [ho] at c2
  unfold dptr
  go_enter Try.func17, Try.ntmps17
  go_wp2_with (go_at_call 38; refine (has_yes _ p gs vw S _ h h0 h1).mono ?_; rintro e w1 ⟨rfl, rfl⟩)
  go_ret2
  exact ⟨rfl, rfl⟩
set_option maxRecDepth 10000 in
set_option maxHeartbeats 400000 in
theorem read_old (p gs : Nat) (vw : Value) (S : Sp) (k : Nat) (w : World) (h : HasD w p gs vw S) (hk : k < S.secs.length) (ho : S.on = true) (hn : newest S.way k = 0) :
    Calls Try.prog 17 #[dptr p, .int .i64 (k : Int)] w fun e w' => TN (S.secs[k].lasts, 0) e ∧ w = w' := by
  have c0 := h.c0
  have c2 := h.c2
  have cn := h.secs.at_ (k * 386 + 385) _ (sec_newest S.secs (newest S.way) h.wf.len k hk)
  rw [hn] at cn
  rw [ho] at c2
  have hb : (k : Int) < (S.secs.length : Int) := by omega
  have H0 : (0 : Int) ≤ (k : Int) := by omega
  have HR := hid (h.rdSec k hk)
  have HL : Hid (384 = S.secs[k].lasts.length) := hid (h.wf.len _ (List.getElem_mem hk)).symm
  clear hn
  unfold dptr
  go_enter Try.func17, Try.ntmps17
  go_wp2_with (first
    | (go_at_call 38; refine (has_yes _ p gs vw S _ h H0 hb).mono ?_; rintro e w1 ⟨rfl, rfl⟩)
    | (with_reducible refine wpl_str rfl (.tmp 48) 59 9 rfl 5 Try.underlying59 Try.underlying5 Try.underlying9 (some ⟨gs, k * 386, none⟩) 384 384 rfl w.heap.size S.secs[k].lasts ?_ HR HL))
  go_ret2
  exact ⟨rfl, rfl⟩

set_option maxRecDepth 10000 in
set_option maxHeartbeats 400000 in
theorem read_new (p gs : Nat) (vw : Value) (S : Sp) (k j g c : Nat) (w : World) (h : HasD w p gs vw S) (hk : k < S.secs.length) (ho : S.on = true) (hn : newest S.way k = j + 1) (hj : j < S.way.length)
    (hv : vw = .slice (some ⟨g, 0, none⟩) S.way.length c) (hle : S.way.length ≤ 9223372036854775807) :
    Calls Try.prog 17 #[dptr p, .int .i64 (k : Int)] w fun e w' => TN (S.way[j].bytes, 0) e ∧ ∃ n, w' = w.drewN n := by
  have c0 := h.c0
  have c1 := h.c1
  have c2 := h.c2
  have cn := h.secs.at_ (k * 386 + 385) _ (sec_newest S.secs (newest S.way) h.wf.len k hk)
  rw [hn] at cn
  rw [ho] at c2
  have hb : (k : Int) < (S.secs.length : Int) := by omega
  have H0 : (0 : Int) ≤ (k : Int) := by omega
  have hb2 : (j : Int) < (S.way.length : Int) := by omega
  have HC : ∀ n, (convert 59 9 (.slice (some ⟨g, j * 385 + 1, none⟩) 384 384)).run Try.prog (w.drewN n) = .ok (.string ⟨S.way[j].bytes.toArray⟩) (w.drewN n) := by
    intro n
    have HL : 384 = S.way[j].bytes.length := (h.wf.way _ (List.getElem_mem hj)).2.symm
    refine run_str _ 59 5 Try.underlying59 Try.underlying5 9 Try.underlying9 w.heap.size _ _ 384 384 HL ?_
    intro hne
    obtain ⟨g0, o, e, h1, h2⟩ := h.rdWr j hj g c hv hne
    exact ⟨g0, o, e, h1, fun j u hu => by rw [World.cell?_drewN]; exact h2 j u hu⟩
  rw [hv] at c1 h
  clear hn hv
  unfold dptr
  go_enter Try.func17, Try.ntmps17
  go_wp2_with (go_at_call 38; refine (has_yes _ p gs _ S _ h H0 hb).mono ?_; rintro e w1 ⟨rfl, rfl⟩)
  go_quiet (fail)
  go_wp2
  go_ret2
  exact ⟨rfl, _, rfl⟩
end Go.Proofs.Ytdkgpjmehdpliaa
