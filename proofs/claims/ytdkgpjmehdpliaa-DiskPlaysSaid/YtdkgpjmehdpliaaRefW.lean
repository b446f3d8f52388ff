/-
  The answer's own disk: Write, Fuse, Cut, Read.
-/
import Derived.Test.YtdkgpjmehdpliaaRef
namespace Go.Proofs.Ytdkgpjmehdpliaa
open Go.RowKit

theorem RE.same {w : World} {q gl gm cl cm : Nat} {vw : Value} {S : Sp} {x : Int} (h : HasR w q gl gm cl cm vw S) : RE w q gl gm cl cm vw (S, x) (.returned (.int .i64 x)) w := ⟨vw, rfl, h, Fr.refl _ _, fun _ hg => .inl hg⟩
theorem RE.one {w w' : World} {q gl gm cl cm : Nat} {vw : Value} {S : Sp} {x : Int} (h : HasR w' q gl gm cl cm vw S) (hf : Fr w w' [q]) : RE w q gl gm cl cm vw (S, x) (.returned (.int .i64 x)) w' :=
  ⟨vw, rfl, h, hf.mono (by simp [fpR]), fun _ hg => .inl hg⟩

theorem infoRw : (Try.prog.info? 73).map (fun i => (i.zero, i.size, i.bytes)) = some (some (.agg #[.int .i64 0, .string ⟨#[]⟩]), 2, 24) := by kernel_rfl
theorem two_news (w : World) (a b : Value) (e : TypeId) : ∀ j u, ([a, b] : List Value)[j]? = some u → (w.alloc (.cells #[a, b] e)).cell? ((⟨w.heap.size, 0, none⟩ : Addr).add j) = some u := by
  have := World.news_of_block (heap_alloc_new w (.cells #[a, b] e))
  simpa using this
theorem rapp_facts {w1 w4 : World} {q gl gm cl cm : Nat} {vw : Value} {S : Sp} {ob : Obj} (h : HasR w1 q gl gm cl cm vw S) (hg : (w1.alloc ob).grownBy w4 vw.ownBlock) :
    Row w4 q 40 [.slice (some ⟨gl, 0, none⟩) S.secs.length cl, .slice (some ⟨gm, 0, none⟩) S.secs.length cm, vw, .bool (!S.on), .int .i64 (S.left : Int), .int .i64 (S.count : Int)] ∧ Fr w1 w4 vw.ownBlock.toList := by
  have hf : Fr w1 w4 vw.ownBlock.toList := ((Fr.refl w1 vw.ownBlock.toList).alloc ob).grown hg (by intro b hb; exact .inl (by simp [hb]))
  exact ⟨hf.row h.disk (by simpa using h.n4), hf⟩
theorem rwrite_end {w w1 w4 : World} {q gl gm cl cm : Nat} {vw : Value} {S : Sp} {k g cap : Nat} {s : List UInt8} (hf1 : Fr w w1 [q]) (h : HasR w1 q gl gm cl cm vw S) (hf4 : Fr w1 w4 vw.ownBlock.toList) (hs : s.length = 384) (hk : k < S.secs.length) (hc : S.way.length < S.count)
    (hp : Row w4 q 40 [.slice (some ⟨gl, 0, none⟩) S.secs.length cl, .slice (some ⟨gm, 0, none⟩) S.secs.length cm, vw, .bool (!S.on), .int .i64 (S.left : Int), .int .i64 (S.count : Int)])
    (ho : w4.ownsRow 0 73 2 (.slice (some ⟨g, 0, none⟩) (S.way.length + 1) cap) (S.way.length + 1) ((wyRows S.way).flatten ++ [.int .i64 (k : Int), str s]))
    (hat : vw.ownBlock = some g ∨ g = w1.heap.size + 1) :
    let w5 := w4.setCell ⟨q, 2, none⟩ (.slice (some ⟨g, 0, none⟩) (S.way.length + 1) cap)
    HasR w5 q gl gm cl cm (.slice (some ⟨g, 0, none⟩) (S.way.length + 1) cap) { S with way := S.way ++ [⟨k, s⟩] } ∧ Fr w w5 (fpR q gl gm vw) ∧ (vw.ownBlock = some g ∨ w.heap.size ≤ g) := by
  intro w5
  have hlt := h.lt
  have hgq : g ≠ q := by
    rintro rfl
    rcases hat with h' | h'
    · exact h.n4 h'
    · have := hlt g (by simp [fpR]); omega
  have hgl : g ≠ gl := by
    rintro rfl
    rcases hat with h' | h'
    · exact h.n5 h'
    · have := hlt g (by simp [fpR]); omega
  have hgm : g ≠ gm := by
    rintro rfl
    rcases hat with h' | h'
    · exact h.n6 h'
    · have := hlt g (by simp [fpR]); omega
  have hf5 : Fr w4 w5 [q] := (Fr.refl w4 [q]).setCell (p := ⟨q, 2, none⟩) (by simp) _
  have hf15 : Fr w1 w5 (q :: vw.ownBlock.toList) := (hf4.mono (by intro b hb; exact List.mem_cons_of_mem _ hb)).trans hf5 (by intro b hb _; simp at hb; subst hb; simp)
  refine ⟨⟨?_, ?_, ?_, ?_, h.n1, h.n2, h.n3, ?_, ?_, ?_, ?_⟩, ?_, ?_⟩
  · exact hp.set_ 2 _
  · exact hf15.own h.la (fun b hb => by cases hb; simp; exact ⟨Ne.symm h.n1, h.n5⟩)
  · exact hf15.own h.ma (fun b hb => by cases hb; simp; exact ⟨Ne.symm h.n2, h.n6⟩)
  · have e : (wyRows (S.way ++ [⟨k, s⟩])).flatten = (wyRows S.way).flatten ++ [.int .i64 (k : Int), str s] := by simp [wyRows]
    have := hf5.own ho (fun b hb => by cases hb; simpa using hgq)
    simp only [List.length_append, List.length_cons, List.length_nil, Nat.zero_add]
    rw [e]
    exact this
  · simpa [Value.ownBlock] using hgq
  · simpa [Value.ownBlock] using hgl
  · simpa [Value.ownBlock] using hgm
  · refine ⟨h.wf.len, ?_, h.wf.few, h.wf.left, ?_⟩
    · intro x hx
      rcases List.mem_append.1 hx with hx | hx
      · exact h.wf.way x hx
      · simp at hx; subst hx; exact ⟨hk, hs⟩
    · simp only [List.length_append, List.length_cons, List.length_nil]; omega
  · exact (hf1.mono (by simp [fpR])).trans hf15 (by intro b hb _; simp at hb; rcases hb with rfl | hb <;> simp [fpR, *])
  · rcases hat with h' | h'
    · exact .inl h'
    · right; have := hf1.size; omega

set_option maxRecDepth 10000 in
set_option maxHeartbeats 400000 in
theorem rwrite_ok (q gl gm cl cm : Nat) (vw : Value) (S : Sp) (k : Nat) (s : ByteArray) (w : World) (h : HasR w q gl gm cl cm vw S) (hk : k < S.secs.length) (hs : s.size = 384) (ho : S.on = true) (hl : S.left ≠ 1) (hc : S.count ≤ 1048576) :
    Calls Try.prog 32 #[dptr q, .int .i64 (k : Int), .string s] w (RE w q gl gm cl cm vw (S.write k (sb s))) := by
  obtain ⟨i0, hi, hz0, hz1, hz2⟩ := info_parts infoRw
  have hway := h.wf.less
  have hsz : (s.size : Int) = 384 := by omega
  have HIS := hid (ris_any k q gl gm cl cm vw S w h)
  have hisk : decide (S.is k) = true := decide_eq_true ⟨by omega, by omega⟩
  rw [hisk] at HIS
  have HG := rgoes_any q gl gm cl cm vw S w h (by omega)
  rw [Sp.goes_more ho hl, show ((0 : Int) == 0) = true from rfl] at HG
  have HGG := hid HG
  have HONE : Hid (∀ u ∈ ([.int .i64 (k : Int), .string s] : List Value), u.oneCell' = true) := hid (by intro u hu; simp at hu; rcases hu with rfl | rfl <;> rfl)
  rw [Sp.write_ok hk (by rw [sb_len]; exact hs) ho hl]
  have hstr : Value.string s = str (sb s) := by simp [str, sb]
  have HSTR := hid hstr
  have HS := hid hs
  clear hs HG hisk hstr ho
  unfold dptr at *
  go_enter Try.func32, Try.ntmps32
  go_wp2_with (first
    | (go_at_call 20; refine HIS.out.mono ?_; rintro e w1 ⟨rfl, rfl⟩)
    | (go_at_call 45; refine HGG.out.mono ?_; rintro e w1 ⟨rfl, h1, hf1⟩; have c12 := h1.c2)
    | (with_reducible refine wpList_append_lies _ rfl (.tmp 23) (.tmp 27) 38 rfl 0 73 i0 _ 2 24 Try.underlying38 hi hz0 hz1 hz2 rfl (by decide) vw S.way.length (wyRows S.way).flatten rfl (h1.wy.alloc _) ⟨w1.heap.size, 0, none⟩ 1 1 [.int .i64 (k : Int), .string s] rfl rfl (two_news _ _ _ _) HONE.out (by decide) (le_maxLen (by omega)) (by omega) (Nat.zero_le _) (w1.heap.size + 1) (by simp) ?_; intro g cap w4 ho4 hg4 hat hlt4; obtain ⟨r4, hf4⟩ := rapp_facts h1 hg4; have c42 := r4.at_ 2 _ rfl; have f42 := r4.frozen 2; rw [HSTR.out] at ho4; have WE := hid (rwrite_end (k := k) (s := sb s) hf1 h1 hf4 (by rw [sb_len]; exact HS.out) hk (by show S.way.length < S.count + 1; omega) r4 ho4 hat); clear r4 ho4 hf4))
  go_ret
  exact ⟨.slice (some ⟨g, 0, none⟩) (S.way.length + 1) cap, rfl, WE.out.1, WE.out.2.1, fun g' hg' => by cases hg'; exact WE.out.2.2⟩

set_option maxRecDepth 10000 in
theorem rwrite_arg (q gl gm cl cm : Nat) (vw : Value) (S : Sp) (i : Int) (s : ByteArray) (w : World) (h : HasR w q gl gm cl cm vw S) (hi : ¬ S.is i ∨ s.size ≠ 384) :
    Calls Try.prog 32 #[dptr q, .int .i64 i, .string s] w (RE w q gl gm cl cm vw (S, 1)) := by
  have HH := hid h
  have HIS := ris_any i q gl gm cl cm vw S w h
  by_cases h1 : S.is i
  · have hsz : ((s.size : Int) != 384) = true := by
      rcases hi with hi | hi
      · exact absurd h1 hi
      · exact bne_iff_ne.2 (by omega)
    rw [decide_eq_true h1] at HIS
    have HI := hid HIS
    clear hi HIS h1
    unfold dptr at *
    go_enter Try.func32, Try.ntmps32
    go_wp2_with (go_at_call 20; refine HI.out.mono ?_; rintro e w1 ⟨rfl, rfl⟩)
    go_ret
    exact RE.same HH.out
  · rw [decide_eq_false h1] at HIS
    have HI := hid HIS
    clear hi HIS h1
    unfold dptr at *
    go_enter Try.func32, Try.ntmps32
    go_wp2_with (go_at_call 20; refine HI.out.mono ?_; rintro e w1 ⟨rfl, rfl⟩)
    go_ret
    exact RE.same HH.out
set_option maxRecDepth 10000 in
theorem rwrite_down (q gl gm cl cm : Nat) (vw : Value) (S : Sp) (i : Int) (s : ByteArray) (w : World) (h : HasR w q gl gm cl cm vw S) (hi : S.is i) (hs : s.size = 384) (hc : S.count ≤ 1048576) (hg : S.goes.2 = 6) :
    Calls Try.prog 32 #[dptr q, .int .i64 i, .string s] w (RE w q gl gm cl cm vw (S.goes.1, 6)) := by
  have hsz : (s.size : Int) = 384 := by omega
  have HIS := ris_any i q gl gm cl cm vw S w h
  rw [decide_eq_true hi] at HIS
  have HG := rgoes_any q gl gm cl cm vw S w h (by omega)
  rw [hg, show ((6 : Int) == 0) = false from rfl] at HG
  have HI := hid HIS
  have HGG := hid HG
  clear HG hg hs HIS hi
  unfold dptr at *
  go_enter Try.func32, Try.ntmps32
  go_wp2_with (first
    | (go_at_call 20; refine HI.out.mono ?_; rintro e w1 ⟨rfl, rfl⟩)
    | (go_at_call 45; refine HGG.out.mono ?_; rintro e w1 ⟨rfl, h1, hf1⟩; have H1 := hid h1; have HF1 := hid hf1; clear h1 hf1))
  go_ret
  exact RE.one H1.out HF1.out
theorem rwrite_any (q gl gm cl cm : Nat) (vw : Value) (S : Sp) (i : Int) (s : ByteArray) (w : World) (h : HasR w q gl gm cl cm vw S) (hc : S.count ≤ 1048576) :
    Calls Try.prog 32 #[dptr q, .int .i64 i, .string s] w (RE w q gl gm cl cm vw (S.write i (sb s))) := by
  by_cases h1 : ¬ S.is i ∨ s.size ≠ 384
  · have e : S.write i (sb s) = (S, 1) := by unfold Sp.write; rw [if_pos (by rw [sb_len]; exact h1)]
    rw [e]
    exact rwrite_arg q gl gm cl cm vw S i s w h h1
  · have h2 : S.is i := Classical.byContradiction fun h => h1 (.inl h)
    have h3 : s.size = 384 := Classical.byContradiction fun h => h1 (.inr h)
    rcases S.goes_cases with hg | ⟨ho, hl, _⟩
    · have e : S.write i (sb s) = (S.goes.1, 6) := by unfold Sp.write; rw [if_neg (by rw [sb_len]; exact h1), if_neg (by rw [hg]; decide), Sp.goes_six hg]
      rw [e]
      exact rwrite_down q gl gm cl cm vw S i s w h h2 h3 hc hg
    · obtain ⟨k, rfl⟩ := Int.eq_ofNat_of_zero_le h2.1
      exact rwrite_ok q gl gm cl cm vw S k s w h (by have := h2.2; omega) h3 ho hl hc
end Go.Proofs.Ytdkgpjmehdpliaa
