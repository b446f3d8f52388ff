/-
  The walk of ChooseLong.
-/
import Derived.Test.YteahbalcielhpaaDoorM29
import Derived.Test.YteahbalcielhpaaDoorM18
import Derived.Test.YteahbalcielhpaaDoorM30
namespace Go.Proofs.YteahbalcielhpaaDoor
open Go.RowKit
set_option maxRecDepth 10000

/-! ### in plain words -/
/-- the mark behind a list of entries -/
def lastM : Mk → List En → Mk
  | m, [] => m
  | _, e :: r => lastM (markE e) r
theorem lastM_snoc : ∀ (m : Mk) (l : List En) (e : En), lastM m (l ++ [e]) = markE e
  | _, [], _ => rfl
  | _, x :: l, e => lastM_snoc (markE x) l e
theorem link_snoc : ∀ {m : Mk} {l : List En} {e : En}, LinkC m l → Fol (lastM m l) e → LinkC m (l ++ [e])
  | _, [], _, _, h => ⟨h, trivial⟩
  | _, _ :: _, _, h, hf => ⟨h.1, link_snoc h.2 hf⟩
/-- an entry whose view is not less than the one under it -/
def viewL (e : En) : En := ⟨max e.view e.under, e.opn, e.under, e.parent, e.client, e.session, e.request, e.oper, e.body⟩
/-- a chain of so many -/
structure ChL (k : Nat) (ch : List En) : Prop where
  len : ch.length = k
  link : LinkC mk0 ch
  fits : ∀ e ∈ ch, e.fits
  opn : (lastM mk0 ch).opn = (k : Int)
  sum : (lastM mk0 ch).sum < 18446744073709551616
theorem ChL.zero : ChL 0 [] := ⟨rfl, trivial, (fun _ h => by cases h), rfl, by decide⟩
theorem next_fits {m : Mk} {e : En} (hm : m.sum < 18446744073709551616) (hr : Rt (viewL (nextS9 m e))) : (viewL (nextS9 m e)).fits := by
  obtain ⟨h1, h2, h3, h4, h5, h6, h7, -, -⟩ := hr
  unfold En.fits In64
  exact ⟨⟨by omega, by omega, by omega, by omega⟩, ⟨by omega, by omega, by omega⟩, hm⟩
theorem ChL.step {k : Nat} {ch : List En} (h : ChL k ch) (hk : k < 8) {e : En} (hr : Rt (viewL (nextS9 (lastM mk0 ch) e))) : ChL (k + 1) (ch ++ [viewL (nextS9 (lastM mk0 ch) e)]) := by
  have hf := next_fits h.sum hr
  have hop : (viewL (nextS9 (lastM mk0 ch) e)).opn = (k : Int) + 1 := by
    have := h.opn
    show (if 0 ≤ (lastM mk0 ch).opn ∧ (lastM mk0 ch).opn ≤ 72057594037927934 then (lastM mk0 ch).opn + 1 else e.opn) = _
    rw [if_pos (by omega)]
    omega
  refine ⟨by rw [List.length_append, h.len]; rfl, link_snoc h.link ⟨hr, by rw [hop, h.opn]; omega, rfl, rfl⟩, ?_, ?_, ?_⟩
  · intro x hx
    rcases List.mem_append.1 hx with hx | hx
    · exact h.fits x hx
    · rw [List.mem_singleton.1 hx]; exact hf
  · rw [lastM_snoc, markE_opn hf hr, hop]
    omega
  · rw [lastM_snoc]
    exact markE_sum _
/-- logs of it -/
structure LgL (view : Int) (ch : List En) (j : Nat) (ns : List Nat) (L : List LP) (tp : Nat) : Prop where
  nl : ns.length = j
  ll : L.length = j
  is : ∀ i (hi : i < L.length) (hn : i < ns.length), L[i].1 = logL ((i : Int) + 1) view (ch.take ns[i])
  le : ∀ q ∈ ns, q ≤ ch.length
  tle : tp ≤ ch.length
  mx : ∀ q ∈ ns, q ≤ tp
  at_ : tp = 0 ∨ tp ∈ ns
theorem LgL.zero (view : Int) (ch : List En) : LgL view ch 0 [] [] 0 := ⟨rfl, rfl, (fun _ h => absurd h (Nat.not_lt_zero _)), (fun _ h => by cases h), Nat.zero_le _, (fun _ h => by cases h), .inl rfl⟩
theorem LgL.step {view : Int} {ch : List En} {j : Nat} {ns : List Nat} {L : List LP} {tp : Nat} (h : LgL view ch j ns L tp) {q : Nat} (hq : q ≤ ch.length) (p : Pl) : LgL view ch (j + 1) (ns ++ [q]) (L ++ [(logL ((j : Int) + 1) view (ch.take q), p)]) (max tp q) := by
  refine ⟨by rw [List.length_append, h.nl]; rfl, by rw [List.length_append, h.ll]; rfl, ?_, ?_, Nat.max_le.2 ⟨h.tle, hq⟩, ?_, ?_⟩
  · intro i hi hn
    by_cases hj : i < j
    · have h1 : i < L.length := by rw [h.ll]; exact hj
      have h2 : i < ns.length := by rw [h.nl]; exact hj
      rw [List.getElem_append_left h1, List.getElem_append_left h2]
      exact h.is i h1 h2
    · have hij : i = j := by rw [List.length_append, h.ll] at hi; simp at hi; omega
      subst hij
      have e1 : (L ++ [(logL ((i : Int) + 1) view (ch.take q), p)])[i] = (logL ((i : Int) + 1) view (ch.take q), p) := by
        rw [List.getElem_append_right (by rw [h.ll]; exact Nat.le_refl _)]
        simp [h.ll]
      have e2 : (ns ++ [q])[i] = q := by
        rw [List.getElem_append_right (by rw [h.nl]; exact Nat.le_refl _)]
        simp [h.nl]
      rw [e1, e2]
  · intro x hx
    rcases List.mem_append.1 hx with hx | hx
    · exact h.le x hx
    · rw [List.mem_singleton.1 hx]; exact hq
  · intro x hx
    rcases List.mem_append.1 hx with hx | hx
    · exact Nat.le_trans (h.mx x hx) (Nat.le_max_left _ _)
    · rw [List.mem_singleton.1 hx]; exact Nat.le_max_right _ _
  · by_cases hle : tp ≤ q
    · rw [Nat.max_eq_right hle]
      exact .inr (List.mem_append_right _ (List.mem_singleton.2 rfl))
    · rw [Nat.max_eq_left (by omega)]
      rcases h.at_ with h0 | h0
      · exact .inl h0
      · exact .inr (List.mem_append_left _ h0)
/-- what is chosen of them -/
theorem LgL.chosen {count view : Int} (hc : count = 3 ∨ count = 5) (hv : 0 ≤ view ∧ view ≤ 72057594037927935) {k : Nat} {ch : List En} (hk : k ≤ 8) (h : ChL k ch) {j : Nat} {ns : List Nat} {L : List LP} {tp : Nat} (hl : LgL view ch j ns L tp) (hj : (j : Int) ≤ count) :
    (2 * (j : Int) ≤ count → (chooseC count (L.map Prod.fst)).ready = false) ∧ (count < 2 * (j : Int) → (chooseC count (L.map Prod.fst)).ready = true ∧ (chooseC count (L.map Prod.fst)).es = ch.take tp) := by
  have hll : (L.map Prod.fst).length = j := by rw [List.length_map, hl.ll]
  have h1 := long_C (count := count) (view := view) hc hv (ch := ch) (by rw [h.len]; exact hk) h.link h.fits (ns := ns) hl.le (l := L.map Prod.fst) (by rw [hll, hl.nl])
    (fun i hi => by
      rw [List.getElem_map]
      exact hl.is i (by rw [List.length_map] at hi; exact hi) (by rw [hl.nl, ← hll]; exact hi)) (by rw [hl.nl]; exact hj) hl.tle hl.mx hl.at_
  rw [hll] at h1
  exact h1
/-! ### memory -/
/-- the chain's own: its mark, its list -/
structure L1 (w : World) (mb B0 : Nat) (wr : World) (k : Nat) (ch : List En) (g c : Nat) : Prop where
  mark : Row wr mb 27 (lastM mk0 ch).cells.toList
  own : wr.ownsRow B0 30 9 (.slice (some ⟨g, 0, none⟩) k c) k (rws enC ch)
  bel : Below w.heap.size w wr
  lo : B0 ≤ g
  hi : g < wr.heap.size
  cap : k ≤ c
  sz : B0 ≤ wr.heap.size
theorem L1.new {w : World} {mb B0 : Nat} {wr w' : World} {k : Nat} {ch : List En} {g c : Nat} (h : L1 w mb B0 wr k ch g c) (hb : Below wr.heap.size wr w') : L1 w mb B0 w' k ch g c :=
  ⟨h.mark.below hb h.mark.lt, own_belowM h.own hb, h.bel.trans (hb.mono h.bel.size), h.lo, Nat.lt_of_lt_of_le h.hi hb.size, h.cap, Nat.le_trans h.sz hb.size⟩
theorem L1.put {w : World} {mb B0 : Nat} {wr w' : World} {k : Nat} {ch : List En} {g c x : Nat} (h : L1 w mb B0 wr k ch g c) (hg : wr.grownBy w' (some x)) (h1 : mb ≠ x) (h2 : g ≠ x) (h3 : w.heap.size ≤ x) : L1 w mb B0 w' k ch g c :=
  ⟨h.mark.grown hg (by intro e; exact h1 (Option.some.inj e)), own_grownM2 h.own hg (by intro e; exact h2 (Option.some.inj e)), h.bel.trans (below_grown hg h3 h.bel.size), h.lo, Nat.lt_of_lt_of_le h.hi hg.size, h.cap, Nat.le_trans h.sz hg.size⟩
theorem Rd_pre {W : World} {B : Nat} {A : Option Addr} {X Y : List Value} (h : Rd W B A (X ++ Y)) : Rd W B A X := by
  have h1 := h.take X.length
  rwa [List.take_left] at h1
theorem L1.rd {w : World} {mb B0 : Nat} {wr : World} {k : Nat} {ch : List En} {g c : Nat} (h : L1 w mb B0 wr k ch g c) : Rd wr wr.heap.size (some ⟨g, 0, none⟩) (rws enC ch) := by
  obtain ⟨A, c', e, -, h1⟩ := own_rdM h.own
  cases e
  exact h1
/-- the logs' items lie in rows of their own, beside the list -/
def ItL (W : World) (gl : Nat) (L : List LP) : Prop := ∀ x ∈ L, x.1.fits ∧ x.1.es = [] ∧ x.1.xs.length = 8 ∧ ∃ gx, x.2 = plG gx ∧ gx ≠ gl ∧ Row W gx 51 (rws itC x.1.xs)
theorem ItL.nil (W : World) (gl : Nat) : ItL W gl [] := fun _ h => by cases h
theorem ItL.below {W W' : World} {gl : Nat} {L : List LP} (h : ItL W gl L) (hb : Below W.heap.size W W') : ItL W' gl L := fun x hx => by
  obtain ⟨h1, h2, h3, gx, h4, h5, h6⟩ := h x hx
  exact ⟨h1, h2, h3, gx, h4, h5, h6.below hb h6.lt⟩
theorem ItL.grown {W W' : World} {gl : Nat} {L : List LP} (h : ItL W gl L) (hg : W.grownBy W' (some gl)) : ItL W' gl L := fun x hx => by
  obtain ⟨h1, h2, h3, gx, h4, h5, h6⟩ := h x hx
  exact ⟨h1, h2, h3, gx, h4, h5, h6.grown hg (by intro e; exact h5 (Option.some.inj e))⟩
theorem ItL.move {W W' : World} {gl g9 : Nat} {L : List LP} (h : ItL W gl L) (hg : W.grownBy W' (some gl)) (hor : gl = g9 ∨ W.heap.size ≤ g9) : ItL W' g9 L := fun x hx => by
  obtain ⟨h1, h2, h3, gx, h4, h5, h6⟩ := h x hx
  refine ⟨h1, h2, h3, gx, h4, ?_, h6.grown hg (by intro e; exact h5 (Option.some.inj e))⟩
  rcases hor with rfl | h7
  · exact h5
  · have := h6.lt
    omega
theorem ItL.snoc {W : World} {gl gx : Nat} {L : List LP} {X : Ms} (h : ItL W gl L) (hf : X.fits) (he : X.es = []) (h8 : X.xs.length = 8) (hg : gx ≠ gl) (hr : Row W gx 51 (rws itC X.xs)) : ItL W gl (L ++ [(X, plG gx)]) := fun x hx => by
  rcases List.mem_append.1 hx with hx | hx
  · exact h x hx
  · rw [List.mem_singleton.1 hx]
    exact ⟨hf, he, h8, gx, rfl, hg, hr⟩
theorem ItL.pl {W : World} {gl : Nat} {L : List LP} (h : ItL W gl L) : ∀ x ∈ L, PlOk W W.heap.size x.1 x.2 := fun x hx => by
  obtain ⟨h1, h2, h3, gx, h4, h5, h6⟩ := h x hx
  rw [h4]
  exact pl_log h2 h3 h6
theorem chC_check (X : Ch) (A : Option Addr) (c : Nat) {W : World} {g : Nat} (h : Row W g 36 (chC X A c).toList) : W.cell? ⟨g, 0, none⟩ = some (.bool X.ready) ∧ W.cell? ⟨g, 5, none⟩ = some (.slice A X.es.length c) := ⟨h.cell 0, h.cell 5⟩
theorem choose_nil (count : Int) : chooseC count [] = ch0 := by
  refine if_neg ?_
  rintro ⟨hc, hd⟩
  rcases hc with rfl | rfl <;> exact absurd hd (by decide)
set_option maxHeartbeats 4000000 in
theorem long_no (count : Int) (A : Option Addr) (n c : Nat) (A2 : Option Addr) (n2 c2 : Nat) (view : Int) (w : World) (hg : ¬ ((count = 3 ∨ count = 5) ∧ n ≤ 8 ∧ 0 ≤ view ∧ view ≤ 72057594037927935)) (hfd : Fd w) (hmd : Md w) :
    Calls Tryd.prog 4 #[.int .i64 count, .slice A n c, .slice A2 n2 c2, .int .i64 view] w (Yes w) := by
  have HA := hid (awake18_any w hfd hmd)
  have HCH : Hid (∀ (k : Int) (W : World), Below w.heap.size w W → Calls Tryd.prog 7 #[.int .i64 k, .slice none 0 0] W fun e w' => ∃ A1 c1, e = .returned (.agg (chC ch0 A1 c1)) ∧ Below W.heap.size W w') := hid fun k W hW => by
    have h := choose_any k none [] 0 0 W.heap.size W ⟨Rd.nil, fun _ h => by cases h⟩ (fun _ h => by cases h) rfl (Nat.le_refl _) (Nat.le_refl _) (by omega) (hfd.below hW hfd.1) (hmd.below hW hmd.1)
    rw [show (List.map Prod.fst ([] : List LP)) = [] from rfl, choose_nil k] at h
    exact h.mono fun e w' ⟨A1, c1, h1, _, h2, _⟩ => ⟨A1, c1, h1, h2⟩
  clear hfd hmd
  by_cases hc : count = 3 ∨ count = 5
  case neg =>
    have h3 : ¬ count = 3 := fun h => hc (.inl h)
    have h5 : ¬ count = 5 := fun h => hc (.inr h)
    clear hg hc
    go_enter Tryd.func4, Tryd.ntmps4
    go_wp2_with (first
        | (go_at_call 5; refine (HA.out).mono ?_; rintro x w1 ⟨rfl, hb⟩; have HB1 := hid hb; clear hb)
        | (go_at_call 7; refine (HCH.out _ _ HB1.out).mono ?_; rintro x w2 ⟨A1, c1, rfl, hb2⟩; have HB2 := hid (HB1.out.trans (hb2.mono HB1.out.size)); clear hb2)
        | ((with_reducible show wpList _ _ _ ({ dst := some 44, op := _, type := _, pos := _, after := _, guard := _ } :: _) _ _); refine wpl_run rfl (.bool false) (fun _ => by kernel_rfl) ?_))
    go_ret
    exact ⟨rfl, HB2.out⟩
  case pos =>
    by_cases h8 : n ≤ 8
    case neg =>
      have h8' : (8 : Int) < (n : Int) := by omega
      clear hg h8
      rcases hc with rfl | rfl
      all_goals
        go_enter Tryd.func4, Tryd.ntmps4
        go_wp2_with (first
            | (go_at_call 5; refine (HA.out).mono ?_; rintro x w1 ⟨rfl, hb⟩; have HB1 := hid hb; clear hb)
            | (go_at_call 7; refine (HCH.out _ _ HB1.out).mono ?_; rintro x w2 ⟨A1, c1, rfl, hb2⟩; have HB2 := hid (HB1.out.trans (hb2.mono HB1.out.size)); clear hb2)
            | ((with_reducible show wpList _ _ _ ({ dst := some 44, op := _, type := _, pos := _, after := _, guard := _ } :: _) _ _); refine wpl_run rfl (.bool false) (fun _ => by kernel_rfl) ?_))
        go_ret
        exact ⟨rfl, HB2.out⟩
    case pos =>
      have h8' : ¬ (8 : Int) < (n : Int) := by omega
      by_cases hv0 : 0 ≤ view
      case neg =>
        have hv' : view < 0 := by omega
        clear hg h8 hv0
        rcases hc with rfl | rfl
        all_goals
          go_enter Tryd.func4, Tryd.ntmps4
          go_wp2_with (first
              | (go_at_call 5; refine (HA.out).mono ?_; rintro x w1 ⟨rfl, hb⟩; have HB1 := hid hb; clear hb)
              | (go_at_call 7; refine (HCH.out _ _ HB1.out).mono ?_; rintro x w2 ⟨A1, c1, rfl, hb2⟩; have HB2 := hid (HB1.out.trans (hb2.mono HB1.out.size)); clear hb2)
              | ((with_reducible show wpList _ _ _ ({ dst := some 44, op := _, type := _, pos := _, after := _, guard := _ } :: _) _ _); refine wpl_run rfl (.bool false) (fun _ => by kernel_rfl) ?_))
          go_ret
          exact ⟨rfl, HB2.out⟩
      case pos =>
        have hv' : ¬ view < 0 := by omega
        have hv9 : 72057594037927935 < view := by
          refine Int.lt_of_not_ge fun hv1 => hg ⟨hc, h8, hv0, hv1⟩
        clear hg h8 hv0
        rcases hc with rfl | rfl
        all_goals
          go_enter Tryd.func4, Tryd.ntmps4
          go_wp2_with (first
              | (go_at_call 5; refine (HA.out).mono ?_; rintro x w1 ⟨rfl, hb⟩; have HB1 := hid hb; clear hb)
              | (go_at_call 7; refine (HCH.out _ _ HB1.out).mono ?_; rintro x w2 ⟨A1, c1, rfl, hb2⟩; have HB2 := hid (HB1.out.trans (hb2.mono HB1.out.size)); clear hb2)
              | ((with_reducible show wpList _ _ _ ({ dst := some 44, op := _, type := _, pos := _, after := _, guard := _ } :: _) _ _); refine wpl_run rfl (.bool false) (fun _ => by kernel_rfl) ?_))
          go_ret
          exact ⟨rfl, HB2.out⟩
set_option maxHeartbeats 8000000 in
theorem long_law (count : Int) (A : Option Addr) (E : List En) (n c : Nat) (A2 : Option Addr) (I : List Int) (n2 c2 : Nat) (view : Int) (w : World) (hr : Rd w w.heap.size A (rws enC E)) (hf : ∀ e ∈ E, e.fits ∧ e.body.size ≤ 140737488355328) (hn : n = E.length) (hc : n ≤ c) (hb : n ≤ 9223372036854775807)
    (hr2 : Rd w w.heap.size A2 (rws inC I)) (hn2 : n2 = I.length) (hb2 : n2 ≤ 9223372036854775807) (hfd : Fd w) (hmd : Md w) :
    Calls Tryd.prog 4 #[.int .i64 count, .slice A n c, .slice A2 n2 c2, .int .i64 view] w (Yes w) := by
  have HA := hid (awake18_any w hfd hmd)
  by_cases hg : (count = 3 ∨ count = 5) ∧ n ≤ 8 ∧ 0 ≤ view ∧ view ≤ 72057594037927935
  case neg => exact long_no count A n c A2 n2 c2 view w hg hfd hmd
  obtain ⟨hcv, h8, hv0, hv1⟩ := hg
  have HCV := hid hcv
  have HV := hid (And.intro hv0 hv1)
  have h8' : ¬ (8 : Int) < (n : Int) := by omega
  have hv0' : ¬ view < 0 := by omega
  have hv1' : ¬ 72057594037927935 < view := by omega
  have HN := hid hn
  have HN2 := hid hn2
  have HZK := hid msize
  have HZE := hid esize
  have HZS := hid mssize
  have HZC := hid chsize
  have HR : Hid (∀ W, Below w.heap.size w W → Rd W w.heap.size A (rws enC E)) := hid fun W hW => hr.below hW (Nat.le_refl _)
  have HR2 : Hid (∀ W, Below w.heap.size w W → Rd W w.heap.size A2 (rws inC I)) := hid fun W hW => hr2.below hW (Nat.le_refl _)
  have HNX := hid (fun (m : Mk) (e : En) (he : e ∈ E) (W : World) => next_any m e W (Nat.le_trans (hf e he).2 (by decide)))
  have HMK := hid (fun (e : En) (he : e.fits) (W : World) (hW : Below w.heap.size w W) => emark_any e he W (hfd.below hW hfd.1))
  have HRT := hid (fun (e : En) (W : World) => eright_any e W)
  have HLG := hid (fun (who : Int) (es : List En) (A : Option Addr) (q c : Nat) (W : World) (hr : Rd W W.heap.size A (rws enC es)) (hq : q = es.length) (hc : q ≤ c) (h8 : es.length ≤ 8) (hf : ∀ e ∈ es, e.fits ∧ Rt e) (hW : Below w.heap.size w W) => log_any18 who view es A q c W.heap.size W hr hq hc (Nat.le_refl _) h8 hf (hfd.below hW hfd.1))
  have HCH := hid (fun (M : List LP) (A1 : Option Addr) (q c1 : Nat) (W : World) (hM : Lm W W.heap.size A1 M) (hfM : ∀ x ∈ M, x.1.fits) (hq : q = M.length) (hc1 : q ≤ c1) (hb : q ≤ 100) (hW : Below w.heap.size w W) => choose_any count A1 M q c1 W.heap.size W hM hfM hq hc1 (Nat.le_refl _) (by omega) (hfd.below hW hfd.1) (hmd.below hW hmd.1))
  obtain ⟨i0, hi, hz0, hz1, hz2⟩ := info_parts infoEn
  obtain ⟨i1, hj, hy0, hy1, hy2⟩ := info_parts infoMs
  clear hr hr2 hf hn hn2 hfd hmd hcv hv0 hv1
  go_enter Tryd.func4, Tryd.ntmps4
  go_upto_region 3 with (first
    | (go_at_call 5; refine (HA.out).mono ?_; rintro x w1 ⟨rfl, hb⟩; have HB1 := hid hb; clear hb))
  go_cut [39] (fun b wx => b = .bool false ∧ ∃ W1, W1 = wx ∧ Below w.heap.size w W1)
  case first =>
    as_aux_lemma =>
      rcases HCV.out with rfl | rfl
      all_goals
        go_wp2_with fail
        go_meet
        case rel => exact ⟨by rw [decide_eq_false (show ¬ (8 : Int) < (n : Int) by omega), decide_eq_false (show ¬ view < 0 by omega), decide_eq_false (show ¬ 72057594037927935 < view by omega)]; rfl, _, rfl, HB1.out⟩
  case rest =>
    obtain ⟨rfl, W1, rfl, hb1⟩ := hcut
    have HB1 := hid hb1
    clear hb1 HA h8' hv0' hv1'
    go_wp2_with (first
        | ((with_reducible show wpList _ _ _ ({ dst := none, op := .store _ (.tmp 9) (.tmp 46), type := _, pos := _, after := _, guard := _ } :: _) _ _); refine wpl_store_st rfl (.tmp 9) (.tmp 46) rfl HZK.out (W1.heap.size) (#[.int .i64 0, .int .i64 0, .int .u64 0]) (mk0.cells) rfl rfl (Row.new _ _ _) ?_ (hid (by first | rfl | simp)) (hid (by first | rfl | simp)) (hid (mcells_one _)); intro w2 hr2 hg; have R2 := hid hr2; have HB2 := hid ((HB1.out.alloc HB1.out.size (.cells #[.int .i64 0, .int .i64 0, .int .u64 0] 27)).trans (below_grown hg HB1.out.size (by simp; have := HB1.out.size; omega))); clear hr2 hg))
    obtain ⟨mb, hmb⟩ : ∃ g, W1.heap.size = g := ⟨_, rfl⟩
    obtain ⟨B0, hB0⟩ : ∃ g, w2.heap.size = g := ⟨_, rfl⟩
    have HMB : Hid (w.heap.size ≤ mb) := hid (by rw [← hmb]; exact HB1.out.size)
    have HM0 : Hid (mb < B0) := hid (by rw [← hmb, ← hB0]; exact R2.out.lt)
    have HL0 : Hid (L1 w mb B0 (w2.alloc (.cells #[] 30)) 0 [] B0 0) := hid (by
      rw [← hmb, ← hB0]
      exact ⟨R2.out.alloc _, own_emptyM (Row.new w2 _ _) (Nat.le_refl _), HB2.out.alloc HB2.out.size _, Nat.le_refl _, by simp, Nat.le_refl _, by simp⟩)
    rw [hmb, hB0]
    clear R2 HB2 HB1 hmb hB0
    go_loopw [10, 11] (fun v i wr => ∃ k : Nat, k ≤ n ∧ i = .int .i64 (k : Int) ∧ ∃ g c1 ch, v = .slice (some ⟨g, 0, none⟩) k c1 ∧ Hid (ChL k ch) ∧ Hid (L1 w mb B0 wr k ch g c1)) (fun _ i _ => n - (intOf i).toNat)
    case atStart => exact ⟨0, Nat.zero_le _, rfl, B0, 0, [], rfl, hid ChL.zero, HL0⟩
    case round =>
      clear HL0
      obtain ⟨k, hk, rfl, g, c1, ch, rfl, HC, HL⟩ := hrel
      by_cases hlt : k < n
      · as_aux_lemma =>
          have hkl : k < E.length := by rw [← HN.out]; exact hlt
          obtain ⟨gA, oA, rfl, -, -⟩ := rws_at (n := 9) (fun _ => rfl) (HR.out wr HL.out.bel) k hkl (by omega)
          have HRG : Hid (∀ W, Below w.heap.size w W → W.rangeAt gA (oA + k * 9) (Array.toList E[k].cells)) := hid fun W hW => by
            obtain ⟨g', o', e', -, h⟩ := rws_at (n := 9) (fun _ => rfl) (HR.out W hW) k hkl (by omega)
            cases e'
            exact h
          have HN1 := hid (fun W => HNX.out (lastM mk0 ch) E[k] (List.getElem_mem hkl) W)
          have hi1 : (k : Int) < (n : Int) := by omega
          have hi0 : (0 : Int) ≤ (k : Int) := by omega
          have HK8 : Hid (k < 8) := hid (by omega)
          generalize E[k] = e at *
          obtain ⟨x, hx⟩ : ∃ x, nextS9 (lastM mk0 ch) e = x := ⟨_, rfl⟩
          have HX := hid hx
          rw [hx] at HN1
          clear hx hkl HNX HLG HCH HR HR2
          go_upto_region 10 with fail
          go_cut [12] from 48 to 74 (fun v wx => ∃ ib, v = .pointer (some ⟨ib, 0, none⟩) ∧ ∃ W3, W3 = wx ∧ L1 w mb B0 W3 k ch g c1 ∧ Row W3 ib 30 x.cells.toList ∧ wr.heap.size ≤ ib)
          case first =>
            as_aux_lemma =>
              try simp only [Act.put, la1, la2, la3, la4, la5, la6]
              refine wp_region_held_drew (S := fun W => L1 w mb B0 W k ch g c1) (by kernel_rfl) (HL.out.new (Below.drew (Below.refl _ _))) (fun hH => ?_)
              refine tk_ (i := 0) (v := .agg (lastM mk0 ch).cells) rfl (yieldsIf_load_mid rfl 27 (.tmp 9) rfl mb 0 rfl (Array.toList (lastM mk0 ch).cells) _ (fun W hW => Row.range hW.mark) Tryd.underlying27 rfl (by exact HZK.out)) hH ?_
              simp only [Act.put, la1, la3, la4, la5, la6]
              refine tk_ (i := 1) (v := .slice (some ⟨gA, oA, none⟩) n c) rfl (Or.inl ⟨by rfl, fun w' hw' => by clear hw'; go_simp⟩) hH ?_
              simp only [Act.put, la1, la2, la3, la4, la5, la6]
              refine tk_ (i := 2) (v := .int .i64 (k : Int)) rfl (Or.inl ⟨by rfl, fun w' hw' => by clear hw'; go_simp⟩) hH ?_
              simp only [Act.put, la1, la2, la3, la4, la5, la6]
              refine tk_ (i := 3) (v := .pointer (some ⟨gA, oA + k * 9, none⟩)) rfl (Or.inl ⟨by rfl, fun w' hw' => by clear hw'; go_simp⟩) hH ?_
              simp only [Act.put, la1, la2, la3, la4, la5, la6]
              refine tk_ (i := 4) (v := .agg (e.cells)) rfl (yieldsIf_load_mid rfl 30 (.tmp 57) rfl gA (oA + k * 9) rfl (Array.toList (e.cells)) _ (fun W hW => HRG.out W hW.bel) Tryd.underlying30 rfl (by exact HZE.out)) hH ?_
              simp only [Act.put, la1, la2, la3, la4, la5, la6]
              refine wpAnyH_ready (rs := [5, 6]) (by kernel_rfl) (by simp) ?_
              refine AllReadyH.cons rfl (fun K hK => ?_) (AllReadyH.cons rfl (fun K hK => ?_) AllReadyH.nil)
              · go_simp
                go_at_call 9
                refine (HN1.out _).mono ?_
                rintro e7 w13 ⟨rfl, hb13⟩
                have B13 := hid ((Below.drew (Below.refl wr.heap.size wr)).trans (hb13.mono (Nat.le_refl _)))
                clear hb13
                go_wp2_with fail
                refine hK.out _ _ (HL.out.new B13.out) (fun hH => ?_)
                clear hK K
                try simp only [Act.put, la1, la2, la3, la4, la5, la6]
                refine rd1 (i := 6) (by kernel_rfl) rfl (fun K hK => ?_)
                go_simp
                have B14 := hid (B13.out.alloc B13.out.size (.cells #[.int .i64 0, .int .i64 0, .int .i64 0, .int .u64 0, .int .i64 0, .int .i64 0, .int .i64 0, .int .i64 0, .string ⟨#[]⟩] 30))
                refine hK.out _ _ (HL.out.new B14.out) (fun hH => ?_)
                clear hK K
                try simp only [Act.put, la1, la2, la3, la4, la5, la6]
                refine rd1 (i := 7) (by kernel_rfl) rfl (fun K hK => ?_)
                rw [if_pos (by kernel_rfl)]
                refine wp_store_st (.tmp 12) (.tmp 59) rfl HZE.out w13.heap.size #[.int .i64 0, .int .i64 0, .int .i64 0, .int .u64 0, .int .i64 0, .int .i64 0, .int .i64 0, .int .i64 0, .string ⟨#[]⟩] x.cells (by kernel_rfl) (by kernel_rfl) (Row.new _ _ _) rfl rfl (ecells_one x) (fun w6 hr6 hg6 => ?_)
                have B15 := hid (B14.out.trans (below_grown hg6 B13.out.size B14.out.size))
                have R15 := hid hr6
                clear hr6 hg6
                refine hK.out _ _ (HL.out.new B15.out) (fun hH => ?_)
                clear hK K
                try simp only [Act.put, la1, la2, la3]
                refine wpAnyH_done (by kernel_rfl) ?_ _
                try simp only [Act.put, la1, la2, la3, la4, la5, la6]
                go_wp2_with fail
                go_meet
                case rel => exact ⟨_, rfl, _, rfl, HL.out.new B15.out, R15.out, B13.out.size⟩
              · go_simp
                have B14 := hid ((Below.drew (Below.refl wr.heap.size wr)).alloc (Nat.le_refl _) (.cells #[.int .i64 0, .int .i64 0, .int .i64 0, .int .u64 0, .int .i64 0, .int .i64 0, .int .i64 0, .int .i64 0, .string ⟨#[]⟩] 30))
                have R14 : Hid (Row (World.alloc wr.drew (.cells #[.int .i64 0, .int .i64 0, .int .i64 0, .int .u64 0, .int .i64 0, .int .i64 0, .int .i64 0, .int .i64 0, .string ⟨#[]⟩] 30)) wr.heap.size 30 (#[.int .i64 0, .int .i64 0, .int .i64 0, .int .u64 0, .int .i64 0, .int .i64 0, .int .i64 0, .int .i64 0, .string ⟨#[]⟩] : Array Value).toList) := hid (Row.new wr.drew _ _)
                refine hK.out _ _ (HL.out.new B14.out) (fun hH => ?_)
                clear hK K
                try simp only [Act.put, la1, la2, la3, la4, la5, la6]
                refine rd1 (i := 5) (by kernel_rfl) rfl (fun K hK => ?_)
                go_simp
                go_at_call 9
                refine (HN1.out _).mono ?_
                rintro e7 w13 ⟨rfl, hb13⟩
                have B13 := hid (B14.out.trans (hb13.mono B14.out.size))
                have R13 := hid (R14.out.below hb13 R14.out.lt)
                clear hb13
                go_wp2_with fail
                refine hK.out _ _ (HL.out.new B13.out) (fun hH => ?_)
                clear hK K
                try simp only [Act.put, la1, la2, la3, la4, la5, la6]
                refine rd1 (i := 7) (by kernel_rfl) rfl (fun K hK => ?_)
                rw [if_pos (by kernel_rfl)]
                refine wp_store_st (.tmp 12) (.tmp 59) rfl HZE.out wr.heap.size #[.int .i64 0, .int .i64 0, .int .i64 0, .int .u64 0, .int .i64 0, .int .i64 0, .int .i64 0, .int .i64 0, .string ⟨#[]⟩] x.cells (by kernel_rfl) (by kernel_rfl) R13.out rfl rfl (ecells_one x) (fun w6 hr6 hg6 => ?_)
                have B15 := hid (B13.out.trans (below_grown hg6 (Nat.le_refl _) B13.out.size))
                have R15 := hid hr6
                clear hr6 hg6
                refine hK.out _ _ (HL.out.new B15.out) (fun hH => ?_)
                clear hK K
                try simp only [Act.put, la1, la2, la3]
                refine wpAnyH_done (by kernel_rfl) ?_ _
                try simp only [Act.put, la1, la2, la3, la4, la5, la6]
                go_wp2_with fail
                go_meet
                case rel => exact ⟨_, rfl, _, rfl, HL.out.new B15.out, R15.out, (Nat.le_refl _)⟩
          case rest =>
            as_aux_lemma =>
              obtain ⟨ib, rfl, W3, rfl, h3, r3, hib⟩ := hcut
              have HL3 := hid h3
              have RX := hid r3
              have x0 : W3.cell? ⟨ib, 0, none⟩ = some (.int .i64 x.view) := r3.cell 0
              have x2 : W3.cell? ⟨ib, 2, none⟩ = some (.int .i64 x.under) := r3.cell 2
              have HMI : Hid (mb ≠ ib) := hid (by have := HL.out.mark.lt; omega)
              have HGI : Hid (g ≠ ib) := hid (by have := HL.out.hi; omega)
              have HWI : Hid (w.heap.size ≤ ib) := hid (by have := HL.out.bel.size; omega)
              have HRX := hid (HRT.out (viewL x))
              clear HL h3 r3 hib HRT HRG HN1
              go_upto_region 12 with (first
                | ((with_reducible show wpList _ _ _ ({ dst := none, op := .store _ (.tmp 65) (.tmp 64), type := _, pos := _, after := _, guard := _ } :: _) _ _); refine wpl_store_c rfl 3 (.tmp 65) (.tmp 64) rfl ib 0 _ rfl rfl RX.out (by kernel_rfl) ?_ (hid (by show 0 < 9; decide)) (hid rfl); intro w7 hr7 hg7; have R7 : Hid (Row w7 ib 30 (viewL x).cells.toList) := hid hr7; have L7 := hid (HL3.out.put hg7 HMI.out HGI.out HWI.out); clear hr7 hg7))
              have HST : Hid (Rt (viewL x) → ChL (k + 1) (ch ++ [viewL x])) := hid (by
                rw [← HX.out]
                exact HC.out.step HK8.out)
              obtain ⟨y, hy⟩ : ∃ y, viewL x = y := ⟨_, rfl⟩
              rw [hy] at R7 HRX HST
              have HSY : Hid (y.cells.size = 9) := hid rfl
              have hy9 := hid hy
              clear hy x0 x2 RX HL3 HX
              by_cases hrt : Rt y
              case neg =>
                as_aux_lemma =>
                  rw [decide_eq_false hrt] at HRX
                  clear hrt HST
                  go_wp2_with (first
                    | ((with_reducible show wpList _ _ _ ({ dst := some 66, op := _, type := _, pos := _, after := _, guard := _ } :: _) _ _); refine wpList_load_row rfl 30 (.tmp 12) rfl (ib) rfl 30 (y.cells) (0, 0) _ (Row.arr R7.out) Tryd.underlying30 rfl (by rw [HSY.out]; exact HZE.out) ?_)
                    | (go_at_call 10; refine (HRX.out _).mono ?_; rintro b w8 ⟨rfl, hb8⟩; have L8 := hid (L7.out.new hb8); have R8 := hid (R7.out.below hb8 R7.out.lt); clear hb8))
                  go_ret
                  exact ⟨rfl, L8.out.bel⟩
              case pos =>
                as_aux_lemma =>
                  rw [decide_eq_true hrt] at HRX
                  have HC9 := hid (HST.out hrt)
                  have HMX := hid (HMK.out y (HC9.out.fits y (List.mem_append_right _ (List.mem_singleton.2 rfl))))
                  obtain ⟨mk, hmk⟩ : ∃ m, markE y = m := ⟨_, rfl⟩
                  rw [hmk] at HMX
                  have HME := hid hmk
                  clear hrt HST HMK HC hmk
                  go_wp2_with (first
                    | ((with_reducible show wpList _ _ _ ({ dst := some 66, op := _, type := _, pos := _, after := _, guard := _ } :: _) _ _); refine wpList_load_row rfl 30 (.tmp 12) rfl (ib) rfl 30 (y.cells) (0, 0) _ (Row.arr R7.out) Tryd.underlying30 rfl (by rw [HSY.out]; exact HZE.out) ?_)
                    | (go_at_call 10; refine (HRX.out _).mono ?_; rintro b w8 ⟨rfl, hb8⟩; have L8 := hid (L7.out.new hb8); have R8 := hid (R7.out.below hb8 R7.out.lt); clear hb8)
                    | ((with_reducible show wpList _ _ _ ({ dst := some 69, op := _, type := _, pos := _, after := _, guard := _ } :: _) _ _); refine wpList_load_row rfl 30 (.tmp 12) rfl (ib) rfl 30 (y.cells) (0, 0) _ (Row.arr R8.out) Tryd.underlying30 rfl (by rw [HSY.out]; exact HZE.out) ?_)
                    | (go_at_call 11; refine (HMX.out _ L8.out.bel).mono ?_; rintro b w9 ⟨rfl, hb9⟩; have L9 := hid (L8.out.new hb9); have R9 := hid (R8.out.below hb9 R8.out.lt); clear hb9)
                    | ((with_reducible show wpList _ _ _ ({ dst := none, op := .store _ (.tmp 9) (.tmp 70), type := _, pos := _, after := _, guard := _ } :: _) _ _); refine wpl_store_st rfl (.tmp 9) (.tmp 70) rfl HZK.out (mb) ((lastM mk0 ch).cells) (mk.cells) rfl rfl (L9.out.mark) ?_ (hid (by first | rfl | simp)) (hid (by first | rfl | simp)) (hid (mcells_one _)); intro w10 hr10 hg10; have RM := hid hr10; have R10 := hid (R9.out.grown hg10 (by intro e; exact HMI.out (Option.some.inj e).symm)); have O10 := hid (own_grownM2 L9.out.own hg10 (by intro e; have : g = mb := Option.some.inj e; have := L9.out.lo; have := HM0.out; omega)); have B10 := hid (L9.out.bel.trans (below_grown hg10 HMB.out L9.out.bel.size)); have S10 := hid (Nat.le_trans L9.out.sz hg10.size); clear hr10 hg10)
                    | ((with_reducible show wpList _ _ _ ({ dst := some 72, op := _, type := _, pos := _, after := _, guard := _ } :: _) _ _); refine wpList_load_row rfl 30 (.tmp 12) rfl (ib) rfl 30 (y.cells) (0, 0) _ (Row.arr R10.out) Tryd.underlying30 rfl (by rw [HSY.out]; exact HZE.out) ?_)
                    | (refine wpl_slice1M rfl 31 30 (.tmp 72) rfl i0 _ 9 Tryd.underlying31 hi hz0 hz1 (by decide) (by decide) (Array.toList y.cells) rfl rfl ?_)
                    | (refine wpList_append_lies _ rfl (.tmp 71) (.tmp 73) 31 rfl B0 30 i0 _ 9 80 Tryd.underlying31 hi hz0 hz1 hz2 rfl (by decide) (.slice (some ⟨g, 0, none⟩) k c1) k _ rfl (own_allocM O10.out _) ⟨w10.heap.size, 0, none⟩ 1 1 (Array.toList y.cells) rfl rfl (new_at 30 w10 (Array.toList y.cells)) (en_one y) (by decide) (le_maxLen (by have := HK8.out; omega)) (by have := HK8.out; omega) (by have := S10.out; simp; omega) _ rfl ?_; intro g9 c9 w9 own9 hg9 hor9 hlt9; have HL9 : Hid (L1 w mb B0 w9 (k + 1) (ch ++ [y]) g9 c9) := hid ⟨by rw [lastM_snoc, HME.out]; exact (RM.out.alloc (.cells (Array.toList y.cells).toArray 30)).grown hg9 (by intro e; have : mb = g := Option.some.inj e; have := L9.out.lo; have := HM0.out; omega), by rw [rws_app, rws_one]; exact own9, (B10.out.alloc B10.out.size (.cells (Array.toList y.cells).toArray 30)).trans (own_frame O10.out hg9 (by have := S10.out; simp; omega) |>.mono (Nat.le_trans HMB.out (Nat.le_of_lt HM0.out))), by (have := L9.out.lo; have := S10.out; rcases hor9 with e | e; (have : g = g9 := Option.some.inj e; omega); (simp at e; omega)), hlt9, own_cap own9, by (have := S10.out; have := hg9.size; simp at this; omega)⟩; clear own9 hg9 hor9 hlt9))
                  go_roundw
                  case rel => exact ⟨k + 1, by omega, by go_num, g9, c9, ch ++ [y], rfl, HC9, HL9⟩
                  case measure => simp [intOf]; omega
      · obtain rfl : k = n := by omega
        clear HR HNX HMK HRT hlt
        obtain ⟨wL, hwL⟩ : ∃ W, W = wr := ⟨wr, rfl⟩
        subst hwL
        have HO0 : Hid ((wL.alloc (.cells #[] 34)).ownsRow wL.heap.size 34 33 (.slice (some ⟨wL.heap.size, 0, none⟩) 0 0) 0 (rws lpC ([] : List LP))) := hid (own_emptyM (Row.new wL _ _) (Nat.le_refl _))
        have HW0 := hid (show Below wL.heap.size wL (wL.alloc (.cells #[] 34)) from (Below.refl _ _).alloc (Nat.le_refl _) _)
        have HI0 := hid (ItL.nil (wL.alloc (.cells #[] 34)) wL.heap.size)
        have HG0 := hid (LgL.zero view ch)
        have HGZ : Hid (wL.heap.size < (wL.alloc (.cells #[] 34)).heap.size) := hid (by simp)
        have hc0 : (0 : Int) ≤ count := by rcases HCV.out with h | h <;> omega
        have hc5 : count ≤ 5 := by rcases HCV.out with h | h <;> omega
        have HNX2 : Hid (∀ (W : World) (X : List Value), ∀ j u, X[j]? = some u → (W.alloc (.cells X.toArray 34)).cell? ((⟨W.heap.size, 0, none⟩ : Addr).add j) = some u) := hid fun W X => new_at 34 W X
        go_wp2_with fail
        go_loopw [13, 14, 15] (fun v t i wr => ∃ j : Nat, j ≤ n2 ∧ (j : Int) ≤ count ∧ i = .int .i64 (j : Int) ∧ ∃ gl cl ns L tp, v = .slice (some ⟨gl, 0, none⟩) j cl ∧ t = .int .i64 ((tp : Nat) : Int) ∧ Hid (LgL view ch j ns L tp) ∧ Hid (wr.ownsRow wL.heap.size 34 33 v j (rws lpC L)) ∧ Hid (ItL wr gl L) ∧ Hid (gl < wr.heap.size) ∧ Hid (Below wL.heap.size wL wr)) (fun _ _ i _ => n2 - (intOf i).toNat)
        case atStart => exact ⟨0, Nat.zero_le _, hc0, rfl, wL.heap.size, 0, [], [], 0, rfl, rfl, HG0, HO0, HI0, HGZ, HW0⟩
        case round =>
          clear HO0 HW0 HI0 HG0 HGZ
          obtain ⟨j, hj9, hjc, rfl, gl, cl, ns, L, tp, rfl, rfl, HG, HO, HI, HGL, HW⟩ := hrel
          have HBX := hid (HL.out.bel.trans (HW.out.mono HL.out.bel.size))
          by_cases hlt : (j : Int) < count ∧ j < n2
          · as_aux_lemma =>
              obtain ⟨hl1, hl2⟩ := hlt
              have hjl : j < I.length := by rw [← HN2.out]; exact hl2
              obtain ⟨gI, oI, rfl, -, hrg⟩ := rws_at (n := 1) (fun _ => rfl) (HR2.out wr HBX.out) j hjl (by omega)
              have cI : wr.cell? ⟨gI, oI + j, none⟩ = some (.int .i64 I[j]) := by
                have h := hrg 0 _ rfl
                rwa [Nat.mul_one, Nat.add_zero] at h
              obtain ⟨z, hz⟩ : ∃ z, I[j] = z := ⟨_, rfl⟩
              rw [hz] at cI
              clear hz hrg hjl HR2 HCH
              have hl2' : (j : Int) < (n2 : Int) := by omega
              have hj0 : (0 : Int) ≤ (j : Int) := by omega
              obtain ⟨q, hq⟩ : ∃ q, q = un z % (k + 1) := ⟨_, rfl⟩
              have hqk : q ≤ k := by rw [hq]; have := Nat.mod_lt (un z) (show 0 < k + 1 by omega); omega
              have hcut : (IntKind.u64.wrap z).tmod ((k : Int) + 1) = (q : Int) := by
                rw [un_wrap, Int.tmod_eq_emod_of_nonneg (by omega), show (k : Int) + 1 = ((k + 1 : Nat) : Int) by omega, ← Int.natCast_emod, ← hq]
              have huk : IntKind.u64.wrap ((k : Int) + 1) = (k : Int) + 1 := by rw [un_wrap, un_in (by omega) (by omega)]; omega
              have hut : IntKind.u64.wrap (q : Int) = (q : Int) := by rw [un_wrap, un_in (by omega) (by omega)]; omega
              have hq0 : (0 : Int) ≤ (q : Int) := by omega
              have hqk' : (q : Int) ≤ (k : Int) := by omega
              have hqc : q ≤ c1 := Nat.le_trans hqk HL.out.cap
              have hk0 : ¬ ((k : Int) + 1 = 0) := by omega
              have HQ : Hid (q ≤ ch.length) := hid (by rw [HC.out.len]; exact hqk)
              obtain ⟨tq, htq⟩ : ∃ t : Nat, t = max tp q := ⟨_, rfl⟩
              have hmx : max (tp : Int) (q : Int) = (tq : Int) := by rw [htq]; omega
              have HTQ := hid htq
              have HES : Hid ((ch.take q).length = q) := hid (by rw [List.length_take]; have := HQ.out; omega)
              have HRT := hid (link_right HC.out.link)
              have HFT : Hid (∀ e ∈ ch.take q, e.fits ∧ Rt e) := hid fun e he => ⟨HC.out.fits e (List.mem_of_mem_take he), HRT.out e (List.mem_of_mem_take he)⟩
              have HL1 := hid (HLG.out ((j : Int) + 1) (ch.take q) (some ⟨g, 0, none⟩) q c1 wr (by
                have h := HL.out.rd.below HW.out (Nat.le_refl _)
                rw [← List.take_append_drop q ch, rws_app] at h
                exact Rd_le (Rd_pre h) HW.out.size) HES.out.symm hqc (by rw [HES.out]; omega) HFT.out HBX.out)
              obtain ⟨X, hX⟩ : ∃ X, X = logL ((j : Int) + 1) view (ch.take q) := ⟨_, rfl⟩
              have hx1 : X.fits := by
                rw [hX]
                refine logL_fits ?_ ?_ (fun e he => (HFT.out e he).1)
                · unfold In64; omega
                · unfold In64; have := HV.out; omega
              have hx2 : X.es = [] := by rw [hX]; rfl
              have hx3 : X.xs.length = 8 := by
                rw [hX, ← itK_end, itK_len _ _ (Nat.le_refl _) (by rw [HES.out]; omega)]
              have HXF := hid (And.intro hx1 (And.intro hx2 hx3))
              have HG9 := hid (HG.out.step HQ.out)
              rw [← htq, ← hX] at HG9
              have HLX : Hid (∀ e w', LG18 wr ((j : Int) + 1) view (ch.take q) e w' → ∃ gx, e = .returned (.agg (X.cells (plG gx))) ∧ wr.heap.size ≤ gx ∧ Row w' gx 51 (rws itC X.xs) ∧ Below wr.heap.size wr w') := hid (by rw [hX]; exact fun _ _ h => h)
              generalize ch.take q = es at *
              clear hX htq hq HRT HFT HES HLG HC hx1 hx2 hx3
              go_wp2_with (first
                | (go_at_call 12; refine (HL1.out).mono ?_; rintro x9 w3 h3; obtain ⟨gx, rfl, hgx, hrx, hb3⟩ := HLX.out _ _ h3; have HW3 := hid (HW.out.trans (hb3.mono HW.out.size)); have HO3 := hid (own_belowM HO.out hb3); have HI3 := hid ((HI.out.below hb3).snoc HXF.out.1 HXF.out.2.1 HXF.out.2.2 (by have := HGL.out; omega) hrx); clear hgx hrx hb3 h3)
                | (refine wpl_slice1M rfl 22 34 (.tmp 105) rfl i1 _ 33 Tryd.underlying22 hj hy0 hy1 (by decide) (by decide) (Array.toList (X.cells (plG gx))) rfl rfl ?_)
                | (refine wpList_append_lies _ rfl (.tmp 98) (.tmp 106) 22 rfl wL.heap.size 34 i1 _ 33 312 Tryd.underlying22 hj hy0 hy1 hy2 rfl (by decide) (.slice (some ⟨gl, 0, none⟩) j cl) j _ rfl (own_allocM HO3.out _) ⟨w3.heap.size, 0, none⟩ 1 1 (Array.toList (X.cells (plG gx))) rfl rfl (HNX2.out w3 (Array.toList (X.cells (plG gx)))) (by have := msc_one X (plG gx); rw [Array.all_eq_true'] at this; intro u hu; exact this u (by simpa using hu)) (by decide) (le_maxLen (by omega)) (by omega) (by have := HW3.out.size; simp; omega) _ rfl ?_; intro g9 c9 w9 own9 hg9 hor9 hlt9; have HO9 : Hid (w9.ownsRow wL.heap.size 34 33 (.slice (some ⟨g9, 0, none⟩) (j + 1) c9) (j + 1) (rws lpC (L ++ [(X, plG gx)]))) := hid (by rw [rws_app, rws_one]; exact own9); have HI9 := hid ((HI3.out.below ((Below.refl _ _).alloc (Nat.le_refl _) (.cells (Array.toList (X.cells (plG gx))).toArray 34))).move hg9 (by rcases hor9 with e | e; (left; exact Option.some.inj e); (right; exact Nat.le_of_eq e.symm))); have HW9 := hid ((HW3.out.alloc HW3.out.size (.cells (Array.toList (X.cells (plG gx))).toArray 34)).trans (own_frame HO3.out hg9 (by have := HW3.out.size; simp; omega))); have HL9 := hid hlt9; clear own9 hg9 hor9 hlt9))
              go_roundw
              case rel => exact ⟨j + 1, by omega, by omega, by go_num, g9, c9, ns ++ [q], L ++ [(X, plG gx)], tq, rfl, rfl, hid (HG9.out (plG gx)), HO9, HI9, HL9, HW9⟩
              case measure => simp [intOf]; omega
          · have hj0 : (0 : Int) ≤ (j : Int) := by omega
            have hor : ((j : Int) < count ∧ ¬ (j : Int) < (n2 : Int)) ∨ ¬ (j : Int) < count := by
              by_cases h : (j : Int) < count
              · exact .inl ⟨h, fun h9 => hlt ⟨h, by omega⟩⟩
              · exact .inr h
            clear hlt HLG HNX2 HR2
            rcases hor with ⟨hl1, hl2⟩ | hl1
            all_goals
              as_aux_lemma =>
                have hcx := HG.out.chosen HCV.out HV.out (show k ≤ 8 by omega) HC.out hjc
                obtain ⟨A9, c9, e9, hnc, hrd⟩ := own_rdM HO.out
                cases e9
                have HC1 := hid (HCH.out L (some ⟨gl, 0, none⟩) j cl wr ⟨hrd, HI.out.pl⟩ (fun x hx => (HI.out x hx).1) HG.out.ll.symm hnc (by omega) HBX.out)
                obtain ⟨X, hX⟩ : ∃ X, chooseC count (L.map Prod.fst) = X := ⟨_, rfl⟩
                rw [hX] at HC1 hcx
                obtain ⟨r, m, cm, es⟩ := X
                obtain ⟨q1, q2⟩ := hcx
                simp only at q1 q2
                clear hX hrd hnc HCH
                by_cases h2 : 2 * (j : Int) ≤ count
                · have hrf := q1 h2
                  subst hrf
                  clear q1 q2
                  go_wp2_with (first
                    | (go_at_call 7; refine (HC1.out).mono ?_; rintro x9 w3 ⟨A5, c5, rfl, -, hb3, -⟩; have HB3 := hid (HBX.out.trans (hb3.mono HBX.out.size)); clear hb3)
                    | ((with_reducible show wpList _ _ _ ({ dst := none, op := .store _ (.tmp 17) (.tmp 113), type := _, pos := _, after := _, guard := _ } :: _) _ _); refine wpl_store_st rfl (.tmp 17) (.tmp 113) rfl HZC.out (w3.heap.size) (#[.bool false, .int .i64 0, .int .i64 0, .int .u64 0, .int .i64 0, .slice none 0 0]) (chC ⟨false, m, cm, es⟩ A5 c5) rfl rfl (Row.new _ _ _) ?_ (hid (by first | rfl | simp)) (hid (by first | rfl | simp)) (hid (chC_one _ _ _)); intro w4 hr4 hg4; have HB4 := hid ((HB3.out.alloc HB3.out.size (.cells #[.bool false, .int .i64 0, .int .i64 0, .int .u64 0, .int .i64 0, .slice none 0 0] 36)).trans (below_grown hg4 HB3.out.size (by simp; have := HB3.out.size; omega))); have x0 : w4.cell? ⟨w3.heap.size, 0, none⟩ = some (.bool false) := hr4.cell 0; clear hr4 hg4))
                  go_ret
                  exact ⟨rfl, HB4.out⟩
                · obtain ⟨hrt, hes⟩ := q2 (by omega)
                  subst hrt
                  have HES := hid hes
                  have HLN : Hid (es.length = tp) := hid (by rw [hes, List.length_take]; have := HG.out.tle; omega)
                  have HTL := hid HG.out.tle
                  have HC2 : Hid (Calls Tryd.prog 7 #[.int .i64 count, .slice (some ⟨gl, 0, none⟩) j cl] wr fun e w' => ∃ A5 c5, e = .returned (.agg (chC ⟨true, m, cm, es⟩ A5 c5)) ∧ Below wr.heap.size wr w' ∧ Rd w' w'.heap.size A5 (rws enC es)) := hid (HC1.out.mono fun e w' ⟨A5, c5, h1, _, h3, h4⟩ => by
                    obtain ⟨A6, c6, e6, -, h5⟩ := own_rdM h4
                    cases e6
                    exact ⟨A5, c5, h1, h3, h5⟩)
                  have HRC := hid (Rd_le (HL.out.rd.below HW.out (Nat.le_refl _)) HW.out.size)
                  have HCL := hid HC.out.len
                  clear q1 q2 hes HC1 HG HC
                  go_wp2_with (first
                    | (go_at_call 7; refine (HC2.out).mono ?_; rintro x9 w3 ⟨A5, c5, rfl, hb3, hrd3⟩; have HB3 := hid hb3; have HRD3 := hid hrd3; clear hb3 hrd3)
                    | ((with_reducible show wpList _ _ _ ({ dst := none, op := .store _ (.tmp 17) (.tmp 113), type := _, pos := _, after := _, guard := _ } :: _) _ _); refine wpl_store_st rfl (.tmp 17) (.tmp 113) rfl HZC.out (w3.heap.size) (#[.bool false, .int .i64 0, .int .i64 0, .int .u64 0, .int .i64 0, .slice none 0 0]) (chC ⟨true, m, cm, es⟩ A5 c5) rfl rfl (Row.new _ _ _) ?_ (hid (by first | rfl | simp)) (hid (by first | rfl | simp)) (hid (chC_one _ _ _)); intro w4 hr4 hg4; have hb4 : Below w3.heap.size w3 w4 := ((Below.refl _ _).alloc (Nat.le_refl _) (.cells #[.bool false, .int .i64 0, .int .i64 0, .int .u64 0, .int .i64 0, .slice none 0 0] 36)).trans (below_grown hg4 (Nat.le_refl _) (by simp)); have HB4 := hid (HB3.out.trans (hb4.mono HB3.out.size)); have HRD4 := hid (Rd_le (HRD3.out.below hb4 (Nat.le_refl _)) hb4.size); have x0 : w4.cell? ⟨w3.heap.size, 0, none⟩ = some (.bool true) := hr4.cell 0; have x5 : w4.cell? ⟨w3.heap.size, 5, none⟩ = some (.slice A5 es.length c5) := hr4.cell 5; rw [HLN.out] at x5; have R4 := hid hr4; clear hr4 hg4 hb4))
                  have HRC4 := hid (Rd_le (HRC.out.below HB4.out (Nat.le_refl _)) HB4.out.size)
                  have HXB := hid (HBX.out.trans (HB4.out.mono HBX.out.size))
                  obtain ⟨cb, hcb⟩ : ∃ g, w3.heap.size = g := ⟨_, rfl⟩
                  rw [hcb] at R4 x0 x5
                  try rw [hcb]
                  have HGW : Hid (g < w4.heap.size) := hid (by have := HL.out.hi; have := HW.out.size; have := HB4.out.size; omega)
                  clear hcb HB3 HRD3 HRC HB4 x0
                  go_loopw [18] (fun i wr => ∃ u : Nat, u ≤ tp ∧ i = .int .i64 (u : Int) ∧ Hid (Below w4.heap.size w4 wr)) (fun i _ => tp - (intOf i).toNat)
                  case atStart => exact ⟨0, Nat.zero_le _, rfl, hid (Below.refl _ _)⟩
                  case round =>
                    clear x5
                    obtain ⟨u, hu, rfl, HW4⟩ := hrel
                    by_cases hlu : u < tp
                    · have hue : u < es.length := by rw [HLN.out]; exact hlu
                      have huc : u < ch.length := by have := HTL.out; omega
                      obtain ⟨gE, oE, rfl, -, -⟩ := rws_at (n := 9) (fun _ => rfl) HRD4.out u hue (by omega)
                      have hee : es[u] = ch[u] := by
                        have h := HES.out
                        subst h
                        exact List.getElem_take ..
                      have HRG1 : Hid (∀ W, Below w4.heap.size w4 W → W.rangeAt gE (oE + u * 9) (Array.toList es[u].cells)) := hid fun W hW => by
                        obtain ⟨g', o', e', -, h⟩ := rws_at (n := 9) (fun _ => rfl) (HRD4.out.below hW (Nat.le_refl _)) u hue (by omega)
                        cases e'
                        exact h
                      have HRG2 : Hid (∀ W, Below w4.heap.size w4 W → W.rangeAt g (u * 9) (Array.toList ch[u].cells)) := hid fun W hW => by
                        obtain ⟨g', o', e', -, h⟩ := rws_at (n := 9) (fun _ => rfl) (HRC4.out.below hW (Nat.le_refl _)) u huc (by omega)
                        cases e'
                        rw [Nat.zero_add] at h
                        exact h
                      have X5 : Hid (∀ W, Below w4.heap.size w4 W → W.cell? ⟨cb, 5, none⟩ = some (.slice (some ⟨gE, oE, none⟩) tp c5)) := hid fun W hW => by
                        have h := (R4.out.below hW R4.out.lt).cell 5
                        rw [← HLN.out]
                        exact h
                      rw [hee] at HRG1
                      generalize ch[u] = y at *
                      have hlu' : (u : Int) < (tp : Int) := by omega
                      have hu0 : (0 : Int) ≤ (u : Int) := by omega
                      have huk : u < k := by rw [← HCL.out]; exact huc
                      have huk' : (u : Int) < (k : Int) := by omega
                      clear hee hue HRC4 R4 HRD4 HES
                      go_wp2_with fail
                      refine wp_region_held_drew (S := fun W => Below w4.heap.size w4 W) (by kernel_rfl) (HW4.out.drew) (fun hH => ?_)
                      refine tk_ (i := 0) (v := .pointer (some ⟨cb, 5, none⟩)) rfl (Or.inl ⟨by rfl, fun w' hw' => by clear hw'; go_simp⟩) hH ?_
                      simp only [Act.put, la1, la3, la4, la5, la6]
                      refine tk_ (i := 1) (v := .slice (some ⟨gE, oE, none⟩) tp c5) rfl (Or.inl ⟨by rfl, fun w' hw' => by have h := X5.out w' hw'; go_simp⟩) hH ?_
                      simp only [Act.put, la1, la2, la3, la4, la5, la6]
                      refine tk_ (i := 2) (v := .int .i64 (u : Int)) rfl (Or.inl ⟨by rfl, fun w' hw' => by clear hw'; go_simp⟩) hH ?_
                      simp only [Act.put, la1, la2, la3, la4, la5, la6]
                      refine tk_ (i := 3) (v := .pointer (some ⟨gE, oE + u * 9, none⟩)) rfl (Or.inl ⟨by rfl, fun w' hw' => by clear hw'; go_simp⟩) hH ?_
                      simp only [Act.put, la1, la2, la3, la4, la5, la6]
                      refine tk_ (i := 4) (v := .agg (y.cells)) rfl (yieldsIf_load_mid rfl 30 (.tmp 140) rfl gE (oE + u * 9) rfl (Array.toList (y.cells)) _ (fun W hW => HRG1.out W hW) Tryd.underlying30 rfl (by exact HZE.out)) hH ?_
                      simp only [Act.put, la1, la2, la3, la4, la5, la6]
                      refine tk_ (i := 5) (v := .slice (some ⟨g, 0, none⟩) k c1) rfl (Or.inl ⟨by rfl, fun w' hw' => by clear hw'; go_simp⟩) hH ?_
                      simp only [Act.put, la1, la2, la3, la4, la5, la6]
                      refine tk_ (i := 6) (v := .int .i64 (u : Int)) rfl (Or.inl ⟨by rfl, fun w' hw' => by clear hw'; go_simp⟩) hH ?_
                      simp only [Act.put, la1, la2, la3, la4, la5, la6]
                      refine tk_ (i := 7) (v := .pointer (some ⟨g, u * 9, none⟩)) rfl (Or.inl ⟨by rfl, fun w' hw' => by clear hw'; go_simp⟩) hH ?_
                      simp only [Act.put, la1, la2, la3, la4, la5, la6]
                      refine tk_ (i := 8) (v := .agg (y.cells)) rfl (yieldsIf_load_mid rfl 30 (.tmp 144) rfl g (u * 9) rfl (Array.toList (y.cells)) _ (fun W hW => HRG2.out W hW) Tryd.underlying30 rfl (by exact HZE.out)) hH ?_
                      simp only [Act.put, la1, la2, la3, la4, la5, la6]
                      refine tk_ (i := 9) (v := .bool (!true)) rfl (yields_nee2 rfl y y true (hid (by simp)) (.tmp 141) (.tmp 145) _ rfl rfl rfl) hH ?_
                      simp only [Act.put, la1, la2, la3, la4, la5, la6]
                      refine wpAnyH_done (by kernel_rfl) ?_ _
                      try simp only [Act.put, la1, la2, la3, la4, la5, la6]
                      have HW5 := hid hH
                      go_wp2_with fail
                      go_roundw
                      case rel => exact ⟨u + 1, by omega, by go_num, HW5⟩
                      case measure => simp [intOf]; omega
                    · obtain rfl : u = tp := by omega
                      go_wp2_with fail
                      go_ret
                      exact ⟨rfl, HXB.out.trans (HW4.out.mono HXB.out.size)⟩
end Go.Proofs.YteahbalcielhpaaDoor
