/-
  The answer's own disk: New.
-/
import Derived.Test.YtdkgpjmehdpliaaRof
namespace Go.Proofs.Ytdkgpjmehdpliaa
open Go.RowKit

theorem one_news (w : World) (a : Value) (e : TypeId) : ∀ j u, ([a] : List Value)[j]? = some u → (w.alloc (.cells #[a] e)).cell? ((⟨w.heap.size, 0, none⟩ : Addr).add j) = some u := by
  have := World.news_of_block (heap_alloc_new w (.cells #[a] e))
  simpa using this
/-- make([]T, n), as one operation -/
theorem wp_mk {P : Program} {o : Oper} {a : Act} {w : World} {K : Act → World → Prop} {Q : Exit → Act → World → Prop} (l c : Operand) (t : TypeId) (hop : o.op = Op.makeSlice t l c)
    (e : TypeId) (i : TypeInfo) (z : Value) (h1 : P.underlying t = some (.slice e)) (h2 : P.info? e = some i) (h3 : i.zero = some z) (h4 : i.size = 1) (hz : z.cells = #[z])
    (n : Nat) (hl : a.eval l = .int .i64 (n : Int)) (hc : a.eval c = .int .i64 (n : Int)) (b2 : i.bytes * n ≤ 281474976710656) (b3 : n ≤ maxLen)
    (h : ∀ w', Row w' w.heap.size e (List.replicate n z) → w.grownBy w' none → K (a.put o.dst (.slice (some ⟨w.heap.size, 0, none⟩) n n)) w') : o.wp P a w K Q := by
  obtain ⟨w', hrun, r1, r2⟩ := run_make_full (P := P) w w.heap.size t e i z 1 h1 h2 h3 h4 .i64 .i64 n b2 b3 (Nat.le_refl _)
  unfold Oper.wp
  simp [execOp, hop, hl, hc, hrun, Result.andThen]
  refine h w' ?_ r2
  rcases r1.2 with ⟨hv, _⟩ | ⟨g, cap, cur, hv, _, hh, _, _, h5, h6⟩
  · simp at hv
  · simp only [Value.slice.injEq, Option.some.injEq, Addr.mk.injEq, true_and, and_true] at hv
    obtain ⟨rfl, rfl⟩ := hv
    have : cur = (List.replicate n z).toArray := by
      apply Array.toList_inj.1
      have h7 : cur.toList.take (n * 1) = cur.toList := List.take_of_length_le (by simp only [Array.length_toList]; omega)
      rw [← h7, h6, hz, toList_madeCells_one]
      simp
    subst this
    exact hh
/-- string(b), as one operation -/
theorem wp_st {P : Program} {o : Oper} {a : Act} {w : World} {K : Act → World → Prop} {Q : Exit → Act → World → Prop} (x : Operand) (src dst : TypeId)
    (ho : o.op = .convert src dst x) (e : TypeId) (hs : P.underlying src = some (.slice e)) (he : P.underlying e = some (.int .u8)) (hd : P.underlying dst = some .string)
    (A : Option Addr) (l c : Nat) (hx : a.eval x = .slice A l c) (B : Nat) (bs : List UInt8) (hr : Rd w B A (bvs bs)) (hl : l = bs.length)
    (h : K (a.put o.dst (.string ⟨bs.toArray⟩)) w) : o.wp P a w K Q := by
  unfold Oper.wp execOp
  simp only [ho, Sem.run_bind, Sem.run_pure, Result.andThen_ok, hx, run_str w src e hs he dst hd B A bs l c hl hr]
  exact h

theorem infoS9 : (Try.prog.info? 9).map (fun i => (i.zero, i.size, i.bytes)) = some (some (.string ⟨#[]⟩), 1, 16) := by kernel_rfl
theorem infoB4 : (Try.prog.info? 4).map (fun i => (i.zero, i.size, i.bytes)) = some (some (.bool false), 1, 1) := by kernel_rfl
def zs : Value := str (b384 0)
/-- a disk that is being made: a texts, b marks -/
structure NwR (w wr : World) (p a b : Nat) (v1 v2 : Value) : Prop where
  disk : Row wr p 40 [v1, v2, .slice none 0 0, .bool false, .int .i64 0, .int .i64 0]
  la : wr.ownsRow 0 9 1 v1 a (List.replicate a zs)
  ma : wr.ownsRow 0 4 1 v2 b (List.replicate b (.bool false))
  n1 : v1.ownBlock ≠ some p
  n2 : v2.ownBlock ≠ some p
  n3 : ∀ g, v1.ownBlock = some g → v2.ownBlock ≠ some g
  g1 : ∀ g, v1.ownBlock = some g → w.heap.size ≤ g
  g2 : ∀ g, v2.ownBlock = some g → w.heap.size ≤ g
  fr : Fr w wr []
  hp : w.heap.size ≤ p
theorem nw_la {w wr w3 w4 : World} {p a b : Nat} {v1 v2 : Value} {g cap : Nat} (h : NwR w wr p a b v1 v2) (hf : Fr wr w3 []) (ho : w4.ownsRow 0 9 1 (.slice (some ⟨g, 0, none⟩) (a + 1) cap) (a + 1) (List.replicate a zs ++ [zs]))
    (hg : w3.grownBy w4 v1.ownBlock) (hat : v1.ownBlock = some g ∨ g = w3.heap.size) :
    NwR w (w4.setCell ⟨p, 0, none⟩ (.slice (some ⟨g, 0, none⟩) (a + 1) cap)) p (a + 1) b (.slice (some ⟨g, 0, none⟩) (a + 1) cap) v2 := by
  have hs := hf.size
  have f34 : Fr w3 w4 v1.ownBlock.toList := (Fr.refl w3 _).grown hg (by intro b hb; exact .inl (by simp [hb]))
  have f14 : Fr wr w4 v1.ownBlock.toList := (hf.mono (by simp)).trans f34 (fun b hb _ => hb)
  have hpl := h.disk.lt
  have hgp : g ≠ p := by
    rintro rfl
    rcases hat with h' | h'
    · exact h.n1 h'
    · omega
  have hg2 : v2.ownBlock ≠ some g := by
    intro e
    rcases hat with h' | h'
    · exact h.n3 g h' e
    · have := (h.ma.lt _ e).2; omega
  have hgw : w.heap.size ≤ g := by
    rcases hat with h' | h'
    · exact h.g1 g h'
    · have := h.fr.size; omega
  have f5 : Fr w4 (w4.setCell ⟨p, 0, none⟩ (.slice (some ⟨g, 0, none⟩) (a + 1) cap)) [p] := (Fr.refl w4 [p]).setCell (p := ⟨p, 0, none⟩) (by simp) _
  have f15 : Fr wr (w4.setCell ⟨p, 0, none⟩ (.slice (some ⟨g, 0, none⟩) (a + 1) cap)) (p :: v1.ownBlock.toList) := (f14.mono (by intro b hb; exact List.mem_cons_of_mem _ hb)).trans f5 (by intro b hb _; simp at hb; subst hb; simp)
  refine ⟨?_, ?_, ?_, by simpa [Value.ownBlock] using hgp, h.n2, ?_, ?_, h.g2, ?_, h.hp⟩
  · exact (f14.row h.disk (by simpa using h.n1)).set_ 0 _
  · have := f5.own ho (fun b hb => by cases hb; simpa using hgp)
    rw [List.replicate_succ']
    exact this
  · exact f15.own h.ma (fun b hb => by simp; exact ⟨fun e => h.n2 (by rw [hb, e]), fun e => h.n3 b e hb⟩)
  · intro x hx e; cases hx; exact hg2 e
  · intro x hx; cases hx; exact hgw
  · refine h.fr.trans f15 ?_
    intro b hb hlt
    simp at hb
    rcases hb with rfl | hb
    · have := h.hp; omega
    · have := h.g1 b hb; omega
theorem nw_ma {w wr w3 w4 : World} {p a b : Nat} {v1 v2 : Value} {g cap : Nat} (h : NwR w wr p a b v1 v2) (hf : Fr wr w3 []) (ho : w4.ownsRow 0 4 1 (.slice (some ⟨g, 0, none⟩) (b + 1) cap) (b + 1) (List.replicate b (.bool false) ++ [.bool false]))
    (hg : w3.grownBy w4 v2.ownBlock) (hat : v2.ownBlock = some g ∨ g = w3.heap.size) :
    NwR w (w4.setCell ⟨p, 1, none⟩ (.slice (some ⟨g, 0, none⟩) (b + 1) cap)) p a (b + 1) v1 (.slice (some ⟨g, 0, none⟩) (b + 1) cap) := by
  have hs := hf.size
  have f34 : Fr w3 w4 v2.ownBlock.toList := (Fr.refl w3 _).grown hg (by intro b hb; exact .inl (by simp [hb]))
  have f14 : Fr wr w4 v2.ownBlock.toList := (hf.mono (by simp)).trans f34 (fun b hb _ => hb)
  have hpl := h.disk.lt
  have hgp : g ≠ p := by
    rintro rfl
    rcases hat with h' | h'
    · exact h.n2 h'
    · omega
  have hg2 : v1.ownBlock ≠ some g := by
    intro e
    rcases hat with h' | h'
    · exact h.n3 g e h'
    · have := (h.la.lt _ e).2; omega
  have hgw : w.heap.size ≤ g := by
    rcases hat with h' | h'
    · exact h.g2 g h'
    · have := h.fr.size; omega
  have f5 : Fr w4 (w4.setCell ⟨p, 1, none⟩ (.slice (some ⟨g, 0, none⟩) (b + 1) cap)) [p] := (Fr.refl w4 [p]).setCell (p := ⟨p, 1, none⟩) (by simp) _
  have f15 : Fr wr (w4.setCell ⟨p, 1, none⟩ (.slice (some ⟨g, 0, none⟩) (b + 1) cap)) (p :: v2.ownBlock.toList) := (f14.mono (by intro b hb; exact List.mem_cons_of_mem _ hb)).trans f5 (by intro b hb _; simp at hb; subst hb; simp)
  refine ⟨?_, ?_, ?_, h.n1, by simpa [Value.ownBlock] using hgp, ?_, h.g1, ?_, ?_, h.hp⟩
  · exact (f14.row h.disk (by simpa using h.n2)).set_ 1 _
  · exact f15.own h.la (fun b hb => by simp; exact ⟨fun e => h.n1 (by rw [hb, e]), fun e => h.n3 b hb e⟩)
  · have := f5.own ho (fun b hb => by cases hb; simpa using hgp)
    rw [List.replicate_succ']
    exact this
  · intro x hx e; cases e; exact hg2 hx
  · intro x hx; cases hx; exact hgw
  · refine h.fr.trans f15 ?_
    intro b hb hlt
    simp at hb
    rcases hb with rfl | hb
    · have := h.hp; omega
    · have := h.g2 b hb; omega

/-- a new disk of the answer's own -/
def NewR (w : World) (n : Nat) (e : Ending) (w' : World) : Prop :=
  ∃ q gl gm cl cm, e = .returned (.tuple #[dptr q, .int .i64 0]) ∧ HasR w' q gl gm cl cm (.slice none 0 0) (Sp.mk0 n) ∧ Fr w w' [] ∧ w.heap.size ≤ q ∧ w.heap.size ≤ gl ∧ w.heap.size ≤ gm
theorem nw_end {w wr : World} {p n : Nat} {v1 v2 : Value} (h : NwR w wr p n n v1 v2) (h1 : 1 ≤ n) (h2 : n ≤ 64) : NewR w n (.returned (.tuple #[dptr p, .int .i64 0])) wr := by
  rcases h.la.2 with ⟨_, h0⟩ | ⟨gl, cl, cur, hv1, _⟩
  · omega
  rcases h.ma.2 with ⟨_, h0⟩ | ⟨gm, cm, cur', hv2, _⟩
  · omega
  subst hv1 hv2
  have e1 : laCells (Sp.mk0 n) = List.replicate n zs := by simp [laCells, Sp.mk0, zs, sec0]
  have e2 : maCells (Sp.mk0 n) = List.replicate n (.bool false) := by simp [maCells, Sp.mk0, sec0]
  have el : (Sp.mk0 n).secs.length = n := by simp [Sp.mk0]
  refine ⟨p, gl, gm, cl, cm, rfl, ⟨?_, ?_, ?_, World.ownsRow_nil _ _ _ _, ?_, ?_, ?_, by simp [Value.ownBlock], by simp [Value.ownBlock], by simp [Value.ownBlock], mk0_wf n h2⟩, h.fr, h.hp, h.g1 gl rfl, h.g2 gm rfl⟩
  · rw [el]; exact h.disk
  · rw [e1, el]; exact h.la
  · rw [e2, el]; exact h.ma
  · have := h.n1; simp [Value.ownBlock] at this; exact fun e => this e.symm
  · have := h.n2; simp [Value.ownBlock] at this; exact fun e => this e.symm
  · have := h.n3 gl rfl; simp [Value.ownBlock] at this; exact fun e => this e.symm

set_option maxRecDepth 10000 in
theorem rnew_no (i : Int) (w : World) (h : ¬ (1 ≤ i ∧ i ≤ 64)) :
    Calls Try.prog 11 #[.int .i64 i] w fun e w' => e = .returned (.tuple #[.pointer none, .int .i64 1]) ∧ w = w' := by
  have hq : (decide (i < 1) || decide (64 < i)) = true := by simp; omega
  clear h
  go_enter Try.func11, Try.ntmps11
  go_wp2_with fail
  all_goals (go_ret2; exact ⟨rfl, rfl⟩)

set_option maxRecDepth 10000 in
set_option maxHeartbeats 2000000 in
theorem rnew_yes (n : Nat) (w : World) (h1 : 1 ≤ n) (h2 : n ≤ 64) :
    Calls Try.prog 11 #[.int .i64 (n : Int)] w (NewR w n) := by
  obtain ⟨i8, hi8, hz80, hz81, hz82⟩ := info_parts infoU8
  obtain ⟨i9, hi9, hz90, hz91, hz92⟩ := info_parts infoS9
  obtain ⟨i4, hi4, hz40, hz41, hz42⟩ := info_parts infoB4
  have HB1 : Hid (∀ u ∈ ([.bool false] : List Value), u.oneCell' = true) := hid (by intro u hu; simp at hu; subst hu; rfl)
  have H0 := hid (Row.new w 40 #[.slice none 0 0, .slice none 0 0, .slice none 0 0, .bool false, .int .i64 0, .int .i64 0])
  have HF0 := hid ((Fr.refl w []).alloc (.cells #[.slice none 0 0, .slice none 0 0, .slice none 0 0, .bool false, .int .i64 0, .int .i64 0] 40))
  go_enter Try.func11, Try.ntmps11
  go_wp2_with fail
  go_loopw [5] (fun i wr => ∃ k : Nat, k ≤ n ∧ i = .int .i64 k ∧ ∃ v1 v2, NwR w wr w.heap.size k k v1 v2) (fun i _ => n - (intOf i).toNat)
  case atStart => exact ⟨0, by omega, rfl, .slice none 0 0, .slice none 0 0, ⟨H0.out, World.ownsRow_nil _ _ _ _, World.ownsRow_nil _ _ _ _, by simp [Value.ownBlock], by simp [Value.ownBlock], by simp [Value.ownBlock], by simp [Value.ownBlock], by simp [Value.ownBlock], HF0.out, Nat.le_refl _⟩⟩
  case round =>
    obtain ⟨k, hk, rfl, v1, v2, hnw⟩ := hrel
    have c0 := hnw.disk.at_ 0 _ rfl
    have HN := hid hnw
    clear hnw
    by_cases hlt : k < n
    · have hki : (k : Int) < (n : Int) := by omega
      go_wp2_with fail
      refine wp_region_held_drew (S := fun _ => True) (by kernel_rfl) trivial (fun hH => ?_)
      clear hH
      refine wpAnyH_take (i := 0) (v := .pointer (some ⟨w.heap.size, 0, none⟩)) rfl (by kernel_rfl) (by kernel_rfl) (by kernel_rfl) (fun _ _ _ h => h) (Or.inl ⟨by rfl, fun w' hw' => by go_simp⟩) trivial ?_
      simp only [Act.put]
      refine wpAnyH_take (i := 1) (v := .pointer (some ⟨w.heap.size, 0, none⟩)) rfl (by kernel_rfl) (by kernel_rfl) (by kernel_rfl) (fun _ _ _ h => h) (Or.inl ⟨by rfl, fun w' hw' => by go_simp⟩) trivial ?_
      simp only [Act.put]
      refine wpAnyH_take (i := 2) (v := .pointer (some ⟨w.heap.size, 0, none⟩)) rfl (by kernel_rfl) (by kernel_rfl) (by kernel_rfl) (fun _ _ _ h => h) (Or.inl ⟨by rfl, fun w' hw' => by go_simp⟩) trivial ?_
      simp only [Act.put]
      refine wpAnyH_take (i := 3) (v := .pointer (some ⟨w.heap.size, 0, none⟩)) rfl (by kernel_rfl) (by kernel_rfl) (by kernel_rfl) (fun _ _ _ h => h) (Or.inl ⟨by rfl, fun w' hw' => by go_simp⟩) trivial ?_
      simp only [Act.put]
      refine wpAnyH_ready (rs := [4, 5]) (by kernel_rfl) (by simp) ?_
      refine AllReadyH.cons rfl (fun K hK => ?_) (AllReadyH.cons rfl (fun K hK => ?_) AllReadyH.nil)
      · go_simp
        refine hK.out _ _ trivial (fun _ => ?_)
        clear hK K
        try simp only [Act.put]
        refine wpAnyH_ready (rs := [5]) (by kernel_rfl) (by simp) ?_
        refine AllReadyH.cons rfl (fun K hK => ?_) AllReadyH.nil
        rw [if_pos (by rfl)]
        refine wp_mk (.const (.int .i64 384)) (.const (.int .i64 384)) 59 rfl 5 i8 (.int .u8 0) Try.underlying59 hi8 hz80 hz81 rfl 384 rfl rfl (by rw [hz82]; decide) (le_maxLen (by decide)) ?_
        intro w1 hr1 hg1
        have hf1 : Fr wr w1 [] := (Fr.drew (Fr.refl wr [])).grown hg1 (by intro k hk; cases hk)
        have c1 := (hf1.row HN.out.disk (by simp)).at_ 0 _ rfl
        have HR1 : Hid (Rd w1 w1.heap.size (some ⟨wr.heap.size, 0, none⟩) (bvs (b384 0))) := hid (by have := hr1.rd (B := w1.heap.size) hr1.lt; simpa [b384, bvs, bv] using this)
        have HF1 := hid hf1
        clear hr1 hg1 hf1 c0
        refine hK.out _ _ trivial (fun _ => ?_)
        clear hK K
        try simp only [Act.put]
        refine wpAnyH_ready (rs := [6]) (by kernel_rfl) (by simp) ?_
        refine AllReadyH.cons rfl (fun K hK => ?_) AllReadyH.nil
        rw [if_pos (by rfl)]
        refine wp_st (.tmp 24) 59 9 rfl 5 Try.underlying59 Try.underlying5 Try.underlying9 (some ⟨wr.heap.size, 0, none⟩) 384 384 rfl w1.heap.size (b384 0) HR1.out (b384_len 0).symm ?_
        refine hK.out _ _ trivial (fun _ => ?_)
        clear hK K
        try simp only [Act.put]
        refine wpAnyH_ready (rs := [7]) (by kernel_rfl) (by simp) ?_
        refine AllReadyH.cons rfl (fun K hK => ?_) AllReadyH.nil
        go_simp
        refine hK.out _ _ trivial (fun _ => ?_)
        clear hK K
        try simp only [Act.put]
        obtain ⟨w2, hw2⟩ : ∃ w2, w1.alloc (.cells #[.string ⟨(b384 0).toArray⟩] 9) = w2 := ⟨_, rfl⟩
        rw [hw2]
        have hf2 : Fr wr w2 [] := by rw [← hw2]; exact HF1.out.alloc _
        have hs2 : w2.heap.size = w1.heap.size + 1 := by rw [← hw2]; simp
        have c2 := (hf2.row HN.out.disk (by simp)).at_ 0 _ rfl
        have hn2 : w2.cell? ⟨w1.heap.size, 0, none⟩ = some zs := by rw [← hw2]; exact (Row.new w1 9 #[zs]).at_ 0 _ rfl
        have HF2 := hid hf2
        have HW2 := hid hw2
        have HN2 := hid hn2
        clear hf2 hw2 hn2 c1
        refine wpAnyH_ready (rs := [8]) (by kernel_rfl) (by simp) ?_
        refine AllReadyH.cons rfl (fun K hK => ?_) AllReadyH.nil
        refine step_append_lies _ rfl (.tmp 23) (.tmp 26) 36 rfl 0 9 i9 _ 1 16 Try.underlying36 hi9 hz90 hz91 hz92 rfl (by decide) v1 k (List.replicate k zs) rfl (HF2.out.own HN.out.la (by simp)) ⟨w1.heap.size, 0, none⟩ 1 1 [zs] rfl rfl (fun j u hu => by match j, hu with | 0, hu => (simp at hu; subst hu; exact HN2.out)) (by intro u hu; simp at hu; subst hu; rfl) (by decide) (le_maxLen (by omega)) (by omega) (Nat.zero_le _) (w1.heap.size + 1) hs2 ?_
        intro g cap w4 ho4 hg4 hat hlt4
        have NW := nw_la HN.out HF2.out ho4 hg4 (by rw [hs2]; exact hat)
        have f40 : w4.frozen? ⟨w.heap.size, 0, none⟩ = false := (Fr.row ((Fr.refl w2 v1.ownBlock.toList).grown hg4 (by intro b hb; exact .inl (by simp [hb]))) (HF2.out.row HN.out.disk (by simp)) (by simpa using HN.out.n1)).frozen 0
        have c40 := (Fr.row ((Fr.refl w2 v1.ownBlock.toList).grown hg4 (by intro b hb; exact .inl (by simp [hb]))) (HF2.out.row HN.out.disk (by simp)) (by simpa using HN.out.n1)).at_ 0 _ rfl
        have HNW := hid NW
        clear NW ho4 hg4 hat hlt4
        simp only [Act.put]
        refine hK.out _ _ trivial (fun _ => ?_)
        clear hK K c2
        refine wpAnyH_take (i := 9) (v := .pointer (some ⟨w.heap.size, 0, none⟩)) rfl (by kernel_rfl) (by kernel_rfl) (by kernel_rfl) (fun _ _ _ h => h) (Or.inl ⟨by rfl, fun w' hw' => by go_simp⟩) trivial ?_
        simp only [Act.put]
        refine wpAnyH_take (i := 10) (v := .pointer (some ⟨w.heap.size, 0, none⟩)) rfl (by kernel_rfl) (by kernel_rfl) (by kernel_rfl) (fun _ _ _ h => h) (Or.inl ⟨by rfl, fun w' hw' => by go_simp⟩) trivial ?_
        simp only [Act.put]
        refine wpAnyH_ready (rs := [11]) (by kernel_rfl) (by simp) ?_
        refine AllReadyH.cons rfl (fun K hK => ?_) AllReadyH.nil
        go_simp
        refine hK.out _ _ trivial (fun _ => ?_)
        clear hK K
        try simp only [Act.put]
        refine wpAnyH_done (by kernel_rfl) ?_ _
        obtain ⟨w5, hw5⟩ : ∃ w5, w4.setCell ⟨w.heap.size, 0, none⟩ (.slice (some ⟨g, 0, none⟩) (k + 1) cap) = w5 := ⟨_, rfl⟩
        rw [hw5] at HNW ⊢
        have c51 := HNW.out.disk.at_ 1 _ rfl
        clear hw5 c40 f40
        go_wp2_with (with_reducible refine wpList_append_lies _ rfl (.tmp 34) (.tmp 35) 37 rfl 0 4 i4 _ 1 1 Try.underlying37 hi4 hz40 hz41 hz42 rfl (by decide) v2 k (List.replicate k (.bool false)) rfl (HNW.out.ma.alloc _) ⟨w5.heap.size, 0, none⟩ 1 1 [.bool false] rfl rfl (one_news _ _ _) HB1.out (by decide) (le_maxLen (by omega)) (by omega) (Nat.zero_le _) (w5.heap.size + 1) (by simp) ?_; intro g' cap' w6 ho6 hg6 hat6 hlt6; have NW := nw_ma HNW.out ((Fr.refl w5 []).alloc _) ho6 hg6 (by simpa using hat6); have r6 := (Fr.grown ((Fr.refl w5 v2.ownBlock.toList).alloc _) hg6 (by intro b hb; exact .inl (by simp [hb]))).row HNW.out.disk (by simpa using HNW.out.n2); have c61 := r6.at_ 1 _ rfl; have f61 := r6.frozen 1; have HNZ := hid NW; clear NW r6 ho6 hg6 hat6 hlt6)
        go_roundw
        case rel => exact ⟨k + 1, by omega, by go_num, _, _, HNZ.out⟩
        case measure => simp [intOf]; omega
      · rw [if_pos (by rfl)]
        refine wp_mk (.const (.int .i64 384)) (.const (.int .i64 384)) 59 rfl 5 i8 (.int .u8 0) Try.underlying59 hi8 hz80 hz81 rfl 384 rfl rfl (by rw [hz82]; decide) (le_maxLen (by decide)) ?_
        intro w1 hr1 hg1
        have hf1 : Fr wr w1 [] := (Fr.drew (Fr.refl wr [])).grown hg1 (by intro k hk; cases hk)
        have c1 := (hf1.row HN.out.disk (by simp)).at_ 0 _ rfl
        have HR1 : Hid (Rd w1 w1.heap.size (some ⟨wr.heap.size, 0, none⟩) (bvs (b384 0))) := hid (by have := hr1.rd (B := w1.heap.size) hr1.lt; simpa [b384, bvs, bv] using this)
        have HF1 := hid hf1
        clear hr1 hg1 hf1 c0
        refine hK.out _ _ trivial (fun _ => ?_)
        clear hK K
        try simp only [Act.put]
        refine wpAnyH_ready (rs := [4, 6]) (by kernel_rfl) (by simp) ?_
        refine AllReadyH.cons rfl (fun K hK => ?_) (AllReadyH.cons rfl (fun K hK => ?_) AllReadyH.nil)
        · go_simp
          refine hK.out _ _ trivial (fun _ => ?_)
          clear hK K
          try simp only [Act.put]
          refine wpAnyH_ready (rs := [6]) (by kernel_rfl) (by simp) ?_
          refine AllReadyH.cons rfl (fun K hK => ?_) AllReadyH.nil
          rw [if_pos (by rfl)]
          refine wp_st (.tmp 24) 59 9 rfl 5 Try.underlying59 Try.underlying5 Try.underlying9 (some ⟨wr.heap.size, 0, none⟩) 384 384 rfl w1.heap.size (b384 0) HR1.out (b384_len 0).symm ?_
          refine hK.out _ _ trivial (fun _ => ?_)
          clear hK K
          try simp only [Act.put]
          refine wpAnyH_ready (rs := [7]) (by kernel_rfl) (by simp) ?_
          refine AllReadyH.cons rfl (fun K hK => ?_) AllReadyH.nil
          go_simp
          refine hK.out _ _ trivial (fun _ => ?_)
          clear hK K
          try simp only [Act.put]
          obtain ⟨w2, hw2⟩ : ∃ w2, w1.alloc (.cells #[.string ⟨(b384 0).toArray⟩] 9) = w2 := ⟨_, rfl⟩
          rw [hw2]
          have hf2 : Fr wr w2 [] := by rw [← hw2]; exact HF1.out.alloc _
          have hs2 : w2.heap.size = w1.heap.size + 1 := by rw [← hw2]; simp
          have c2 := (hf2.row HN.out.disk (by simp)).at_ 0 _ rfl
          have hn2 : w2.cell? ⟨w1.heap.size, 0, none⟩ = some zs := by rw [← hw2]; exact (Row.new w1 9 #[zs]).at_ 0 _ rfl
          have HF2 := hid hf2
          have HW2 := hid hw2
          have HN2 := hid hn2
          clear hf2 hw2 hn2 c1
          refine wpAnyH_ready (rs := [8]) (by kernel_rfl) (by simp) ?_
          refine AllReadyH.cons rfl (fun K hK => ?_) AllReadyH.nil
          refine step_append_lies _ rfl (.tmp 23) (.tmp 26) 36 rfl 0 9 i9 _ 1 16 Try.underlying36 hi9 hz90 hz91 hz92 rfl (by decide) v1 k (List.replicate k zs) rfl (HF2.out.own HN.out.la (by simp)) ⟨w1.heap.size, 0, none⟩ 1 1 [zs] rfl rfl (fun j u hu => by match j, hu with | 0, hu => (simp at hu; subst hu; exact HN2.out)) (by intro u hu; simp at hu; subst hu; rfl) (by decide) (le_maxLen (by omega)) (by omega) (Nat.zero_le _) (w1.heap.size + 1) hs2 ?_
          intro g cap w4 ho4 hg4 hat hlt4
          have NW := nw_la HN.out HF2.out ho4 hg4 (by rw [hs2]; exact hat)
          have f40 : w4.frozen? ⟨w.heap.size, 0, none⟩ = false := (Fr.row ((Fr.refl w2 v1.ownBlock.toList).grown hg4 (by intro b hb; exact .inl (by simp [hb]))) (HF2.out.row HN.out.disk (by simp)) (by simpa using HN.out.n1)).frozen 0
          have c40 := (Fr.row ((Fr.refl w2 v1.ownBlock.toList).grown hg4 (by intro b hb; exact .inl (by simp [hb]))) (HF2.out.row HN.out.disk (by simp)) (by simpa using HN.out.n1)).at_ 0 _ rfl
          have HNW := hid NW
          clear NW ho4 hg4 hat hlt4
          simp only [Act.put]
          refine hK.out _ _ trivial (fun _ => ?_)
          clear hK K c2
          refine wpAnyH_take (i := 9) (v := .pointer (some ⟨w.heap.size, 0, none⟩)) rfl (by kernel_rfl) (by kernel_rfl) (by kernel_rfl) (fun _ _ _ h => h) (Or.inl ⟨by rfl, fun w' hw' => by go_simp⟩) trivial ?_
          simp only [Act.put]
          refine wpAnyH_take (i := 10) (v := .pointer (some ⟨w.heap.size, 0, none⟩)) rfl (by kernel_rfl) (by kernel_rfl) (by kernel_rfl) (fun _ _ _ h => h) (Or.inl ⟨by rfl, fun w' hw' => by go_simp⟩) trivial ?_
          simp only [Act.put]
          refine wpAnyH_ready (rs := [11]) (by kernel_rfl) (by simp) ?_
          refine AllReadyH.cons rfl (fun K hK => ?_) AllReadyH.nil
          go_simp
          refine hK.out _ _ trivial (fun _ => ?_)
          clear hK K
          try simp only [Act.put]
          refine wpAnyH_done (by kernel_rfl) ?_ _
          obtain ⟨w5, hw5⟩ : ∃ w5, w4.setCell ⟨w.heap.size, 0, none⟩ (.slice (some ⟨g, 0, none⟩) (k + 1) cap) = w5 := ⟨_, rfl⟩
          rw [hw5] at HNW ⊢
          have c51 := HNW.out.disk.at_ 1 _ rfl
          clear hw5 c40 f40
          go_wp2_with (with_reducible refine wpList_append_lies _ rfl (.tmp 34) (.tmp 35) 37 rfl 0 4 i4 _ 1 1 Try.underlying37 hi4 hz40 hz41 hz42 rfl (by decide) v2 k (List.replicate k (.bool false)) rfl (HNW.out.ma.alloc _) ⟨w5.heap.size, 0, none⟩ 1 1 [.bool false] rfl rfl (one_news _ _ _) HB1.out (by decide) (le_maxLen (by omega)) (by omega) (Nat.zero_le _) (w5.heap.size + 1) (by simp) ?_; intro g' cap' w6 ho6 hg6 hat6 hlt6; have NW := nw_ma HNW.out ((Fr.refl w5 []).alloc _) ho6 hg6 (by simpa using hat6); have r6 := (Fr.grown ((Fr.refl w5 v2.ownBlock.toList).alloc _) hg6 (by intro b hb; exact .inl (by simp [hb]))).row HNW.out.disk (by simpa using HNW.out.n2); have c61 := r6.at_ 1 _ rfl; have f61 := r6.frozen 1; have HNZ := hid NW; clear NW r6 ho6 hg6 hat6 hlt6)
          go_roundw
          case rel => exact ⟨k + 1, by omega, by go_num, _, _, HNZ.out⟩
          case measure => simp [intOf]; omega
        · rw [if_pos (by rfl)]
          refine wp_st (.tmp 24) 59 9 rfl 5 Try.underlying59 Try.underlying5 Try.underlying9 (some ⟨wr.heap.size, 0, none⟩) 384 384 rfl w1.heap.size (b384 0) HR1.out (b384_len 0).symm ?_
          refine hK.out _ _ trivial (fun _ => ?_)
          clear hK K
          try simp only [Act.put]
          refine wpAnyH_ready (rs := [4, 7]) (by kernel_rfl) (by simp) ?_
          refine AllReadyH.cons rfl (fun K hK => ?_) (AllReadyH.cons rfl (fun K hK => ?_) AllReadyH.nil)
          · go_simp
            refine hK.out _ _ trivial (fun _ => ?_)
            clear hK K
            try simp only [Act.put]
            refine wpAnyH_ready (rs := [7]) (by kernel_rfl) (by simp) ?_
            refine AllReadyH.cons rfl (fun K hK => ?_) AllReadyH.nil
            go_simp
            refine hK.out _ _ trivial (fun _ => ?_)
            clear hK K
            try simp only [Act.put]
            obtain ⟨w2, hw2⟩ : ∃ w2, w1.alloc (.cells #[.string ⟨(b384 0).toArray⟩] 9) = w2 := ⟨_, rfl⟩
            rw [hw2]
            have hf2 : Fr wr w2 [] := by rw [← hw2]; exact HF1.out.alloc _
            have hs2 : w2.heap.size = w1.heap.size + 1 := by rw [← hw2]; simp
            have c2 := (hf2.row HN.out.disk (by simp)).at_ 0 _ rfl
            have hn2 : w2.cell? ⟨w1.heap.size, 0, none⟩ = some zs := by rw [← hw2]; exact (Row.new w1 9 #[zs]).at_ 0 _ rfl
            have HF2 := hid hf2
            have HW2 := hid hw2
            have HN2 := hid hn2
            clear hf2 hw2 hn2 c1
            refine wpAnyH_ready (rs := [8]) (by kernel_rfl) (by simp) ?_
            refine AllReadyH.cons rfl (fun K hK => ?_) AllReadyH.nil
            refine step_append_lies _ rfl (.tmp 23) (.tmp 26) 36 rfl 0 9 i9 _ 1 16 Try.underlying36 hi9 hz90 hz91 hz92 rfl (by decide) v1 k (List.replicate k zs) rfl (HF2.out.own HN.out.la (by simp)) ⟨w1.heap.size, 0, none⟩ 1 1 [zs] rfl rfl (fun j u hu => by match j, hu with | 0, hu => (simp at hu; subst hu; exact HN2.out)) (by intro u hu; simp at hu; subst hu; rfl) (by decide) (le_maxLen (by omega)) (by omega) (Nat.zero_le _) (w1.heap.size + 1) hs2 ?_
            intro g cap w4 ho4 hg4 hat hlt4
            have NW := nw_la HN.out HF2.out ho4 hg4 (by rw [hs2]; exact hat)
            have f40 : w4.frozen? ⟨w.heap.size, 0, none⟩ = false := (Fr.row ((Fr.refl w2 v1.ownBlock.toList).grown hg4 (by intro b hb; exact .inl (by simp [hb]))) (HF2.out.row HN.out.disk (by simp)) (by simpa using HN.out.n1)).frozen 0
            have c40 := (Fr.row ((Fr.refl w2 v1.ownBlock.toList).grown hg4 (by intro b hb; exact .inl (by simp [hb]))) (HF2.out.row HN.out.disk (by simp)) (by simpa using HN.out.n1)).at_ 0 _ rfl
            have HNW := hid NW
            clear NW ho4 hg4 hat hlt4
            simp only [Act.put]
            refine hK.out _ _ trivial (fun _ => ?_)
            clear hK K c2
            refine wpAnyH_take (i := 9) (v := .pointer (some ⟨w.heap.size, 0, none⟩)) rfl (by kernel_rfl) (by kernel_rfl) (by kernel_rfl) (fun _ _ _ h => h) (Or.inl ⟨by rfl, fun w' hw' => by go_simp⟩) trivial ?_
            simp only [Act.put]
            refine wpAnyH_take (i := 10) (v := .pointer (some ⟨w.heap.size, 0, none⟩)) rfl (by kernel_rfl) (by kernel_rfl) (by kernel_rfl) (fun _ _ _ h => h) (Or.inl ⟨by rfl, fun w' hw' => by go_simp⟩) trivial ?_
            simp only [Act.put]
            refine wpAnyH_ready (rs := [11]) (by kernel_rfl) (by simp) ?_
            refine AllReadyH.cons rfl (fun K hK => ?_) AllReadyH.nil
            go_simp
            refine hK.out _ _ trivial (fun _ => ?_)
            clear hK K
            try simp only [Act.put]
            refine wpAnyH_done (by kernel_rfl) ?_ _
            obtain ⟨w5, hw5⟩ : ∃ w5, w4.setCell ⟨w.heap.size, 0, none⟩ (.slice (some ⟨g, 0, none⟩) (k + 1) cap) = w5 := ⟨_, rfl⟩
            rw [hw5] at HNW ⊢
            have c51 := HNW.out.disk.at_ 1 _ rfl
            clear hw5 c40 f40
            go_wp2_with (with_reducible refine wpList_append_lies _ rfl (.tmp 34) (.tmp 35) 37 rfl 0 4 i4 _ 1 1 Try.underlying37 hi4 hz40 hz41 hz42 rfl (by decide) v2 k (List.replicate k (.bool false)) rfl (HNW.out.ma.alloc _) ⟨w5.heap.size, 0, none⟩ 1 1 [.bool false] rfl rfl (one_news _ _ _) HB1.out (by decide) (le_maxLen (by omega)) (by omega) (Nat.zero_le _) (w5.heap.size + 1) (by simp) ?_; intro g' cap' w6 ho6 hg6 hat6 hlt6; have NW := nw_ma HNW.out ((Fr.refl w5 []).alloc _) ho6 hg6 (by simpa using hat6); have r6 := (Fr.grown ((Fr.refl w5 v2.ownBlock.toList).alloc _) hg6 (by intro b hb; exact .inl (by simp [hb]))).row HNW.out.disk (by simpa using HNW.out.n2); have c61 := r6.at_ 1 _ rfl; have f61 := r6.frozen 1; have HNZ := hid NW; clear NW r6 ho6 hg6 hat6 hlt6)
            go_roundw
            case rel => exact ⟨k + 1, by omega, by go_num, _, _, HNZ.out⟩
            case measure => simp [intOf]; omega
          · go_simp
            refine hK.out _ _ trivial (fun _ => ?_)
            clear hK K
            try simp only [Act.put]
            obtain ⟨w2, hw2⟩ : ∃ w2, w1.alloc (.cells #[.string ⟨(b384 0).toArray⟩] 9) = w2 := ⟨_, rfl⟩
            rw [hw2]
            have hf2 : Fr wr w2 [] := by rw [← hw2]; exact HF1.out.alloc _
            have hs2 : w2.heap.size = w1.heap.size + 1 := by rw [← hw2]; simp
            have c2 := (hf2.row HN.out.disk (by simp)).at_ 0 _ rfl
            have hn2 : w2.cell? ⟨w1.heap.size, 0, none⟩ = some zs := by rw [← hw2]; exact (Row.new w1 9 #[zs]).at_ 0 _ rfl
            have HF2 := hid hf2
            have HW2 := hid hw2
            have HN2 := hid hn2
            clear hf2 hw2 hn2 c1
            refine wpAnyH_ready (rs := [4]) (by kernel_rfl) (by simp) ?_
            refine AllReadyH.cons rfl (fun K hK => ?_) AllReadyH.nil
            go_simp
            refine hK.out _ _ trivial (fun _ => ?_)
            clear hK K
            try simp only [Act.put]
            refine wpAnyH_ready (rs := [8]) (by kernel_rfl) (by simp) ?_
            refine AllReadyH.cons rfl (fun K hK => ?_) AllReadyH.nil
            refine step_append_lies _ rfl (.tmp 23) (.tmp 26) 36 rfl 0 9 i9 _ 1 16 Try.underlying36 hi9 hz90 hz91 hz92 rfl (by decide) v1 k (List.replicate k zs) rfl (HF2.out.own HN.out.la (by simp)) ⟨w1.heap.size, 0, none⟩ 1 1 [zs] rfl rfl (fun j u hu => by match j, hu with | 0, hu => (simp at hu; subst hu; exact HN2.out)) (by intro u hu; simp at hu; subst hu; rfl) (by decide) (le_maxLen (by omega)) (by omega) (Nat.zero_le _) (w1.heap.size + 1) hs2 ?_
            intro g cap w4 ho4 hg4 hat hlt4
            have NW := nw_la HN.out HF2.out ho4 hg4 (by rw [hs2]; exact hat)
            have f40 : w4.frozen? ⟨w.heap.size, 0, none⟩ = false := (Fr.row ((Fr.refl w2 v1.ownBlock.toList).grown hg4 (by intro b hb; exact .inl (by simp [hb]))) (HF2.out.row HN.out.disk (by simp)) (by simpa using HN.out.n1)).frozen 0
            have c40 := (Fr.row ((Fr.refl w2 v1.ownBlock.toList).grown hg4 (by intro b hb; exact .inl (by simp [hb]))) (HF2.out.row HN.out.disk (by simp)) (by simpa using HN.out.n1)).at_ 0 _ rfl
            have HNW := hid NW
            clear NW ho4 hg4 hat hlt4
            simp only [Act.put]
            refine hK.out _ _ trivial (fun _ => ?_)
            clear hK K c2
            refine wpAnyH_take (i := 9) (v := .pointer (some ⟨w.heap.size, 0, none⟩)) rfl (by kernel_rfl) (by kernel_rfl) (by kernel_rfl) (fun _ _ _ h => h) (Or.inl ⟨by rfl, fun w' hw' => by go_simp⟩) trivial ?_
            simp only [Act.put]
            refine wpAnyH_take (i := 10) (v := .pointer (some ⟨w.heap.size, 0, none⟩)) rfl (by kernel_rfl) (by kernel_rfl) (by kernel_rfl) (fun _ _ _ h => h) (Or.inl ⟨by rfl, fun w' hw' => by go_simp⟩) trivial ?_
            simp only [Act.put]
            refine wpAnyH_ready (rs := [11]) (by kernel_rfl) (by simp) ?_
            refine AllReadyH.cons rfl (fun K hK => ?_) AllReadyH.nil
            go_simp
            refine hK.out _ _ trivial (fun _ => ?_)
            clear hK K
            try simp only [Act.put]
            refine wpAnyH_done (by kernel_rfl) ?_ _
            obtain ⟨w5, hw5⟩ : ∃ w5, w4.setCell ⟨w.heap.size, 0, none⟩ (.slice (some ⟨g, 0, none⟩) (k + 1) cap) = w5 := ⟨_, rfl⟩
            rw [hw5] at HNW ⊢
            have c51 := HNW.out.disk.at_ 1 _ rfl
            clear hw5 c40 f40
            go_wp2_with (with_reducible refine wpList_append_lies _ rfl (.tmp 34) (.tmp 35) 37 rfl 0 4 i4 _ 1 1 Try.underlying37 hi4 hz40 hz41 hz42 rfl (by decide) v2 k (List.replicate k (.bool false)) rfl (HNW.out.ma.alloc _) ⟨w5.heap.size, 0, none⟩ 1 1 [.bool false] rfl rfl (one_news _ _ _) HB1.out (by decide) (le_maxLen (by omega)) (by omega) (Nat.zero_le _) (w5.heap.size + 1) (by simp) ?_; intro g' cap' w6 ho6 hg6 hat6 hlt6; have NW := nw_ma HNW.out ((Fr.refl w5 []).alloc _) ho6 hg6 (by simpa using hat6); have r6 := (Fr.grown ((Fr.refl w5 v2.ownBlock.toList).alloc _) hg6 (by intro b hb; exact .inl (by simp [hb]))).row HNW.out.disk (by simpa using HNW.out.n2); have c61 := r6.at_ 1 _ rfl; have f61 := r6.frozen 1; have HNZ := hid NW; clear NW r6 ho6 hg6 hat6 hlt6)
            go_roundw
            case rel => exact ⟨k + 1, by omega, by go_num, _, _, HNZ.out⟩
            case measure => simp [intOf]; omega
    · obtain rfl : k = n := by omega
      go_wp2_with fail
      go_ret2
      exact nw_end HN.out h1 h2
end Go.Proofs.Ytdkgpjmehdpliaa
