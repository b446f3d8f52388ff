/-
  The laws' awake.
-/
import Derived.Test.YteahbalcielhpaaDoorM26
namespace Go.Proofs.YteahbalcielhpaaDoor
open Go.RowKit
set_option maxRecDepth 10000

/-! ### []T{x, y, ..} -/
theorem foldl_set18 (off : Nat) (l : List Value) : ∀ (k : Nat) (cs : Array Value), off + k + l.length ≤ cs.size →
    ((l.zipIdx k).foldl (fun (cs : Array Value) (x : Value × Nat) => cs.setIfInBounds (off + x.2) x.1) cs).toList = splice cs.toList (off + k) l := by
  induction l with
  | nil => intro k cs _; simp [splice]
  | cons v r ih =>
    intro k cs h
    simp only [List.length_cons] at h
    rw [List.zipIdx_cons, List.foldl_cons, ih (k + 1) _ (by simp; omega)]
    simp only [splice, Array.toList_setIfInBounds, List.length_cons]
    have hk : off + k < cs.toList.length := by simp; omega
    rw [List.drop_set_of_lt (by omega)]
    have e1 : (cs.toList.set (off + k) v).take (off + (k + 1)) = cs.toList.take (off + k) ++ [v] := by
      rw [show off + (k + 1) = off + k + 1 by omega, List.take_succ_eq_append_getElem (by simpa using hk), List.take_set_of_le (Nat.le_refl _)]
      simp
    rw [e1, List.append_assoc]
    simp [Nat.add_assoc, Nat.add_comm 1]
def partsV : Nat → List (List Value) → List (Nat × Value)
  | _, [] => []
  | k, v :: r => (k, .agg v.toArray) :: partsV (k + 1) r
theorem splice_two18 (cs v r : List Value) (o : Nat) (h : o + v.length ≤ cs.length) : splice (splice cs o v) (o + v.length) r = splice cs o (v ++ r) := by
  unfold splice
  have h1 : (cs.take o).length = o := by rw [List.length_take]; omega
  have e1 : (cs.take o ++ (v ++ cs.drop (o + v.length))).take (o + v.length) = cs.take o ++ v := by
    rw [← List.append_assoc, List.take_append_of_le_length (by rw [List.length_append, h1]; exact Nat.le_refl _), List.take_of_length_le (by rw [List.length_append, h1]; exact Nat.le_refl _)]
  have e2 : (cs.take o ++ (v ++ cs.drop (o + v.length))).drop (o + v.length + r.length) = cs.drop (o + (v.length + r.length)) := by
    rw [← List.append_assoc, List.drop_append, List.drop_of_length_le (by rw [List.length_append, h1]; omega), List.nil_append, List.drop_drop, List.length_append, h1]
    congr 1
    omega
  first
    | rw [e1, e2, List.length_append, List.append_assoc, List.append_assoc]
    | (simp only [List.append_assoc] at e1 e2 ⊢; rw [e1, e2, List.length_append]; simp [List.append_assoc])
theorem fill_manyM (place : Nat → Option (Nat × Nat)) (n : Nat) (hp : ∀ i, place i = some (i * n, n)) : ∀ (vss : List (List Value)) (k : Nat) (cs : Array Value), (∀ v ∈ vss, v.length = n) → (k + vss.length) * n ≤ cs.size →
    Instr.fill place cs (partsV k vss) = some (splice cs.toList (k * n) vss.flatten).toArray
  | [], k, cs, _, _ => by
    have e : splice cs.toList (k * n) [] = cs.toList := by unfold splice; simp
    rw [List.flatten_nil, e]
    rfl
  | v :: r, k, cs, hv, hc => by
    have hn : v.length = n := hv v (by simp)
    simp only [List.length_cons] at hc
    have hle : (k + 1) * n ≤ cs.size := Nat.le_trans (Nat.mul_le_mul_right n (by omega)) hc
    have hk : k * n + n ≤ cs.size := by rw [Nat.add_mul, Nat.one_mul] at hle; exact hle
    show (match place k with | none => none | some (off, size) => _) = _
    rw [hp k]
    have hs : (Value.agg v.toArray).cells.size = n := by rw [← hn]; simp [Value.cells]
    simp only [hs, ne_eq, not_true_eq_false, decide_false, Bool.false_or, decide_eq_true_eq]
    rw [if_neg (by omega)]
    have hz := foldl_set18 (k * n) v 0 cs (by rw [hn]; simpa using hk)
    simp only [Nat.add_zero] at hz
    have hz2 : (Value.agg v.toArray).cells.zipIdx.foldl (fun (cs : Array Value) (x : Value × Nat) => cs.setIfInBounds (k * n + x.2) x.1) cs = (splice cs.toList (k * n) v).toArray := by
      apply Array.toList_inj.1
      rw [← hz]
      simp [Value.cells]
    have hlen : (splice cs.toList (k * n) v).length = cs.size := by
      unfold splice
      simp only [List.length_append, List.length_take, List.length_drop, Array.length_toList]
      omega
    refine (congrArg (fun x => Instr.fill place x (partsV (k + 1) r)) hz2).trans ?_
    rw [fill_manyM place n hp r (k + 1) _ (fun x hx => hv x (by simp [hx])) (by rw [List.size_toArray, hlen]; rw [show k + 1 + r.length = k + (r.length + 1) by omega]; exact hc)]
    congr 2
    have h2 := splice_two18 cs.toList v r.flatten (k * n) (by rw [hn, Array.length_toList]; exact hk)
    rw [List.flatten_cons, ← h2, hn, Nat.add_mul, Nat.one_mul]
theorem fill_allM (n : Nat) (len : Nat) (z : Array Value) (vss : List (List Value)) (hv : ∀ v ∈ vss, v.length = n) (hl : vss.length = len) (cs : Array Value) (hc : cs.size = len * n) :
    Instr.fill (fun i => some (i * n, n)) cs (partsV 0 vss) = some vss.flatten.toArray := by
  have _ := z
  rw [fill_manyM _ n (fun _ => rfl) vss 0 cs hv (by rw [hc, hl, Nat.zero_add]; exact Nat.le_refl _)]
  congr 2
  have hf : vss.flatten.length = len * n := by
    rw [← hl]
    clear hc hl
    induction vss with
    | nil => simp
    | cons v r ih =>
      rw [List.flatten_cons, List.length_append, hv v (by simp), ih (fun x hx => hv x (by simp [hx])), List.length_cons, Nat.add_mul]
      omega
  unfold splice
  rw [Nat.zero_mul, List.take_zero, List.nil_append, Nat.zero_add, List.drop_of_length_le (by rw [hf, Array.length_toList, hc]; exact Nat.le_refl _), List.append_nil]
theorem wp_slicesM {P : Program} {o : Oper} {a : Act} {w : World} {K : Act → World → Prop} {Q : Exit → Act → World → Prop} (t e : TypeId) (len : Nat) (parts : Array (Nat × Operand)) (ho : o.op = .buildSlice t len parts)
    (ie : TypeInfo) (z : Value) (size : Nat) (hu : P.underlying t = some (.slice e)) (hie : P.info? e = some ie) (hz : ie.zero = some z) (hs : ie.size = size) (hpos : ¬ len * size = 0) (hsmall : ¬ len * size > 2 ^ 24)
    (css : List (List Value)) (hx : parts.toList.map (fun (x : Nat × Operand) => (x.1, a.eval x.2)) = partsV 0 css) (hv : ∀ v ∈ css, v.length = size) (hl : css.length = len)
    (h : K (a.put o.dst (.slice (some ⟨w.heap.size, 0, none⟩) len len)) (w.alloc (.cells css.flatten.toArray e))) : o.wp P a w K Q := by
  refine wp_buildSlice t e len parts ho css.flatten.toArray ie z hu hie hz (by rw [hs]; exact hsmall) (by rw [hs]; exact hpos) ?_ h
  refine Eq.trans (congrArg _ ((Array.toList_map ..).trans hx)) ?_
  rw [hs]
  exact fill_allM size len #[] css hv hl _ (by simp)
theorem wpl_slicesM {P : Program} {ops : Array Oper} {rest : List Oper} {o : Oper} {a : Act} {w : World} {Q : Exit → Act → World → Prop} (hgd : o.guard = none) (t e : TypeId) (len : Nat) (parts : Array (Nat × Operand)) (ho : o.op = .buildSlice t len parts)
    (ie : TypeInfo) (z : Value) (size : Nat) (hu : P.underlying t = some (.slice e)) (hie : P.info? e = some ie) (hz : ie.zero = some z) (hs : ie.size = size) (hpos : ¬ len * size = 0) (hsmall : ¬ len * size > 2 ^ 24)
    (css : List (List Value)) (hx : parts.toList.map (fun (x : Nat × Operand) => (x.1, a.eval x.2)) = partsV 0 css) (hv : ∀ v ∈ css, v.length = size) (hl : css.length = len)
    (h : wpList P ops Q rest (a.put o.dst (.slice (some ⟨w.heap.size, 0, none⟩) len len)) (w.alloc (.cells css.flatten.toArray e))) : wpList P ops Q (o :: rest) a w :=
  wpList_plain hgd fun _ hK => wp_slicesM t e len parts ho ie z size hu hie hz hs hpos hsmall css hx hv hl (hK _ _ h)
/-! ### the examples in memory -/
theorem it0_fits : it0.fits := ⟨by unfold In64 it0; simp, st0_fits, en0_fitsM⟩
theorem hold_fits {e : En} (h : e.fits) : (holdC e).fits := ⟨by unfold In64 holdC; simp, stubS_fits h, h⟩
theorem logL_fits {who view : Int} {es : List En} (hw : In64 who) (hv : In64 view) (he : ∀ e ∈ es, e.fits) : (logL who view es).fits := by
  have h0 : In64 0 := by unfold In64; omega
  have h7 : In64 7 := by unfold In64; omega
  have h9 : In64 9 := by unfold In64; omega
  refine ⟨⟨h7, hw, h9, hv, h0, h0⟩, ⟨h0, h0, h0, h0, h0, h0⟩, mk0_fitsM, z6_ok, en0_fitsM, (fun e h => by cases h), fun x hx => ?_⟩
  rcases List.mem_append.1 hx with hx | hx
  · obtain ⟨e, h1, rfl⟩ := List.mem_map.1 hx
    exact hold_fits (he e h1)
  · rw [(List.mem_replicate.1 hx).2]
    exact it0_fits
theorem two_fits : ∀ e ∈ [ent1, ent2], e.fits ∧ Rt e := by
  intro e he
  rcases List.mem_cons.1 he with rfl | he
  · exact ⟨ent1_fits, ent1_rt⟩
  · rw [List.mem_singleton.1 he]; exact ⟨ent2_fits, ent2_rt⟩
theorem one_fits : ∀ e ∈ [ent1], e.fits ∧ Rt e := by
  intro e he
  rw [List.mem_singleton.1 he]; exact ⟨ent1_fits, ent1_rt⟩
theorem logA_fits : logA.fits := logL_fits (by unfold In64; omega) (by unfold In64; omega) fun e he => (two_fits e he).1
theorem logB_fits : logB.fits := logL_fits (by unfold In64; omega) (by unfold In64; omega) fun e he => (one_fits e he).1
theorem logZ_fits : logZ.fits := logL_fits (by unfold In64; omega) (by unfold In64; omega) fun e he => by cases he
theorem logU_fits : logU.fits := by
  obtain ⟨a, b, c, d, e, f, -⟩ := logB_fits
  refine ⟨a, b, c, d, e, f, fun x hx => ?_⟩
  have h3 : it3.fits := ⟨by unfold In64 it3; simp, st0_fits, en0_fitsM⟩
  have h1 : (holdC ent1).fits := hold_fits ent1_fits
  have h0 := it0_fits
  simp only [logU, List.mem_cons, List.not_mem_nil, or_false] at hx
  rcases hx with rfl | rfl | rfl | rfl | rfl | rfl | rfl | rfl <;> assumption
abbrev plG (g : Nat) : Pl := ⟨none, 0, some ⟨g, 0, none⟩, 8⟩
theorem pl_log {W : World} {x : Ms} {g : Nat} (he : x.es = []) (h8 : x.xs.length = 8) (hr : Row W g 51 (rws itC x.xs)) : PlOk W W.heap.size x (plG g) := by
  refine ⟨?_, hr.rd hr.lt, ?_, ?_, ?_, ?_⟩
  · rw [he]; exact Rd.nil
  · rw [he]; simp
  · rw [h8]; decide
  · rw [he]; exact Nat.zero_le _
  · rw [h8]; exact Nat.le_refl _
theorem lm_logs {W : World} {L : List LP} (hp : ∀ x ∈ L, PlOk W W.heap.size x.1 x.2) : Lm (W.alloc (.cells (L.map lpC).flatten.toArray 34)) (W.heap.size + 1) (some ⟨W.heap.size, 0, none⟩) L :=
  ⟨new_rdM 34 W (rws lpC L), fun x hx => ((hp x hx).below ((Below.refl _ _).alloc (Nat.le_refl _) _) (Nat.le_refl _)).le (Nat.le_succ _)⟩
theorem choose_new {count : Int} {L : List LP} {n : Nat} {X : Ch} (hX : chooseC count (L.map Prod.fst) = X) (hn : n = L.length) (hb : n ≤ 100) (hf : ∀ x ∈ L, x.1.fits) {w W : World} (hw : Below w.heap.size w W) (hfd : Fd w) (hmd : Md w) (hp : ∀ x ∈ L, PlOk W W.heap.size x.1 x.2) :
    Calls Tryd.prog 7 #[.int .i64 count, .slice (some ⟨W.heap.size, 0, none⟩) n n] (W.alloc (.cells (L.map lpC).flatten.toArray 34)) (CQ (W.alloc (.cells (L.map lpC).flatten.toArray 34)) X) := by
  have hb2 : Below w.heap.size w (W.alloc (.cells (L.map lpC).flatten.toArray 34)) := hw.alloc hw.size _
  have h := choose_any count (some ⟨W.heap.size, 0, none⟩) L n n (W.heap.size + 1) _ (lm_logs hp) hf hn (Nat.le_refl _) (by simp) (by omega) (hfd.below hb2 hfd.1) (hmd.below hb2 hmd.1)
  rw [hX] at h
  exact h
theorem Lm.le {W : World} {B B' : Nat} {A : Option Addr} {L : List LP} (h : Lm W B A L) (hb : B ≤ B') : Lm W B' A L := ⟨Rd_le h.rd hb, fun x hx => (h.pl x hx).le hb⟩
theorem choose_lm {count : Int} {L : List LP} {n gs : Nat} {X : Ch} (hX : chooseC count (L.map Prod.fst) = X) (hn : n = L.length) (hb : n ≤ 100) (hf : ∀ x ∈ L, x.1.fits) {w W : World} (hw : Below w.heap.size w W) (hfd : Fd w) (hmd : Md w) (hp : Lm W W.heap.size (some ⟨gs, 0, none⟩) L) :
    Calls Tryd.prog 7 #[.int .i64 count, .slice (some ⟨gs, 0, none⟩) n n] W (CQ W X) := by
  have h := choose_any count (some ⟨gs, 0, none⟩) L n n W.heap.size W hp hf hn (Nat.le_refl _) (Nat.le_refl _) (by omega) (hfd.below hw hfd.1) (hmd.below hw hmd.1)
  rw [hX] at h
  exact h
theorem own_two {w : World} {B e n : Nat} {A : Option Addr} {c : Nat} {xs : List Value} (h : w.ownsRow B e n (.slice A 2 c) 2 xs) : ∃ g, A = some ⟨g, 0, none⟩ ∧ 2 ≤ c := by
  obtain ⟨h1, h2⟩ := h
  rcases h2 with ⟨h2, h0⟩ | ⟨g, cap, cur, e1, a, b, c1, -⟩
  · exact absurd h0 (by decide)
  · cases e1
    exact ⟨g, rfl, c1⟩
set_option maxHeartbeats 8000000 in
theorem awake18_any (w : World) (hfd : Fd w) (hmd : Md w) : Calls Tryd.prog 5 #[] w (Yes w) := by
  have hz := zero33
  have hzs := z33_size
  have hzn := z33_ne
  have HZS := hid mssize
  have HZC := hid chsize
  have HZ1 := hid sizeInt
  obtain ⟨i0, hi, hz0, hz1, hz2⟩ := info_parts infoMs
  have HFD := hid hfd
  have HCHN := hid (chain_any w hfd)
  have HLA := hid (fun (A : Option Addr) (c B : Nat) (W : World) (hW : Below w.heap.size w W) (hr : Rd W B A (rws enC [ent1, ent2])) (hc : 2 ≤ c) (hB : B ≤ W.heap.size) => log_any18 1 1 [ent1, ent2] A 2 c B W hr rfl hc hB (by decide) two_fits (hfd.below hW hfd.1))
  have HLB := hid (fun (A : Option Addr) (c B : Nat) (W : World) (hW : Below w.heap.size w W) (hr : Rd W B A (rws enC [ent1])) (hc : 1 ≤ c) (hB : B ≤ W.heap.size) => log_any18 2 2 [ent1] A 1 c B W hr rfl hc hB (by decide) one_fits (hfd.below hW hfd.1))
  have HLZ := hid (fun (W : World) (hW : Below w.heap.size w W) => log_any18 3 0 [] none 0 0 0 W Rd.nil rfl (Nat.le_refl _) (Nat.zero_le _) (by decide) (fun e he => by cases he) (hfd.below hW hfd.1))
  obtain ⟨X, hX⟩ : ∃ X, chooseC 3 [logA, logB] = X := ⟨_, rfl⟩
  obtain ⟨Y, hY⟩ : ∃ X, chooseC 3 [logA, logU] = X := ⟨_, rfl⟩
  obtain ⟨Z, hZ⟩ : ∃ X, chooseC 3 [logA, logU, logZ] = X := ⟨_, rfl⟩
  have hx := awake_x
  rw [hX] at hx
  have hy := awake_y
  rw [hY] at hy
  have hz3 := awake_z
  rw [hZ] at hz3
  have HCX := hid (fun (gA gB : Nat) (W : World) (hW : Below w.heap.size w W) (hp : ∀ x ∈ ([(logA, plG gA), (logB, plG gB)] : List LP), PlOk W W.heap.size x.1 x.2) => choose_new (L := [(logA, plG gA), (logB, plG gB)]) (n := 2) hX rfl (by decide) (by
    intro x hx; rcases List.mem_cons.1 hx with rfl | hx; exact logA_fits; rw [List.mem_singleton.1 hx]; exact logB_fits) hW hfd hmd hp)
  have HCY := hid (fun (gA gB : Nat) (W : World) (hW : Below w.heap.size w W) (hp : ∀ x ∈ ([(logA, plG gA), (logU, plG gB)] : List LP), PlOk W W.heap.size x.1 x.2) => choose_new (L := [(logA, plG gA), (logU, plG gB)]) (n := 2) hY rfl (by decide) (by
    intro x hx; rcases List.mem_cons.1 hx with rfl | hx; exact logA_fits; rw [List.mem_singleton.1 hx]; exact logU_fits) hW hfd hmd hp)
  have HCZ := hid (fun (gA gB gZ gs : Nat) (W : World) (hW : Below w.heap.size w W) (hp : Lm W W.heap.size (some ⟨gs, 0, none⟩) [(logA, plG gA), (logU, plG gB), (logZ, plG gZ)]) => choose_lm (L := [(logA, plG gA), (logU, plG gB), (logZ, plG gZ)]) (n := 3) hZ rfl (by decide) (by
    intro x hx; rcases List.mem_cons.1 hx with rfl | hx; exact logA_fits; rcases List.mem_cons.1 hx with rfl | hx; exact logU_fits; rw [List.mem_singleton.1 hx]; exact logZ_fits) hW hfd hmd hp)
  obtain ⟨hx1, hx2⟩ := hx
  obtain ⟨hz31, hz32⟩ := hz3
  have HX1 := hid hx1
  have HX2 := hid hx2
  have HY1 := hid hy
  have HZ31 := hid hz31
  have HZ32 := hid hz32
  have HUC : Hid (∀ p, logU.cells p = logB.cells p) := hid fun _ => rfl
  have HSET : Hid ((rws itC logB.xs).set 15 (.int .i64 3) = rws itC logU.xs) := hid rfl
  have HA1 : Hid (∀ (W : World) (g : Nat), Row W g 51 (rws itC (logL 1 1 [ent1, ent2]).xs) → Row W g 51 (rws itC logA.xs)) := hid fun _ _ h => h
  have HB1' : Hid (∀ (W : World) (g : Nat), Row W g 51 (rws itC (logL 2 2 [ent1]).xs) → Row W g 51 (rws itC logB.xs)) := hid fun _ _ h => h
  have HPA : Hid (∀ (W : World) (g : Nat), Row W g 51 (rws itC logA.xs) → PlOk W W.heap.size logA (plG g)) := hid fun W g h => pl_log rfl rfl h
  have HPB : Hid (∀ (W : World) (g : Nat), Row W g 51 (rws itC logB.xs) → PlOk W W.heap.size logB (plG g)) := hid fun W g h => pl_log rfl rfl h
  have HPU : Hid (∀ (W : World) (g : Nat), Row W g 51 (rws itC logU.xs) → PlOk W W.heap.size logU (plG g)) := hid fun W g h => pl_log rfl rfl h
  have HPZ : Hid (∀ (W : World) (g : Nat), Row W g 51 (rws itC (logL 3 0 []).xs) → PlOk W W.heap.size logZ (plG g)) := hid fun W g h => pl_log rfl rfl h
  have HAC : Hid (∀ g, (logL 1 1 [ent1, ent2]).cells (plG g) = logA.cells (plG g)) := hid fun _ => rfl
  have HBC : Hid (∀ g, (logL 2 2 [ent1]).cells (plG g) = logB.cells (plG g)) := hid fun _ => rfl
  have HZC3 : Hid (∀ g, (logL 3 0 []).cells (plG g) = logZ.cells (plG g)) := hid fun _ => rfl
  have HC31 : Hid (∀ (W : World) (b g : Nat), Row W b 34 (logB.cells (plG g)).toList → W.cell? ⟨b, 31, none⟩ = some (.slice (some ⟨g, 0, none⟩) 8 8)) := hid fun W b g h => h.cell 31
  have HI15 : Hid (15 < (rws itC logB.xs).length) := hid (by decide)
  clear hfd hmd hX hY hZ hx1 hx2 hz31 hz32 hy
  generalize logA = lA at *
  generalize logB = lB at *
  generalize logU = lU at *
  generalize logZ = lZ at *
  go_enter Tryd.func5, Tryd.ntmps5
  go_wp2_with (first
        | (go_at_call 13; refine (HCHN.out).mono ?_; rintro x w1 ⟨AC, cC, rfl, hcC, hb, hown⟩; have HW1 := hid hb; have HV1 := hid (Below.refl w1.heap.size w1); have HOWN := hid hown; obtain ⟨gC, hgC, hcC2⟩ := own_two hown; subst hgC; obtain ⟨AD, cD, hAD, -, hrdC⟩ := own_rdM hown; cases hAD; have HRD := hid (fun (W : World) (h : Below w1.heap.size w1 W) => hrdC.below h (Nat.le_refl _)); have HC2 := hid hcC2; have hcI : (1 : Int) ≤ (cC : Int) := (by omega); clear hb hown hrdC)
        | ((have zz := HV3); clear zz; go_at_call 12; refine (HLB.out _ _ _ _ HW3.out ((HRD.out _ HV3.out).take 9) (by have := HC2.out; omega) HV3.out.size).mono ?_; rintro x w4 ⟨gB, rfl, hgB, hrB, hb⟩; have HGB3 := hid hgB; clear hgB; have HW4 := hid (HW3.out.trans (hb.mono HW3.out.size)); have HV4 := hid (HV3.out.trans (hb.mono HV3.out.size)); have RA4 := hid (RA3.out.below hb RA3.out.lt); have MA4 := hid (MA3.out.below hb MA3.out.lt); have RB4 := hid (HB1'.out _ _ hrB); clear hb hrB)
        | (go_at_call 12; refine (HLA.out _ _ _ _ HW1.out (HRD.out _ HV1.out) HC2.out HV1.out.size).mono ?_; rintro x w2 ⟨gA, rfl, hgA, hrA, hb⟩; have HW2 := hid (HW1.out.trans (hb.mono HW1.out.size)); have HV2 := hid (HV1.out.trans (hb.mono HV1.out.size)); have RA2 := hid (HA1.out _ _ hrA); clear hb hrA hgA)
        | ((with_reducible show wpList _ _ _ ({ dst := none, op := .store _ (.tmp 2) (.tmp 9), type := _, pos := _, after := _, guard := _ } :: _) _ _); refine wpl_store_st rfl (.tmp 2) (.tmp 9) rfl HZS.out (w2.heap.size) (z33) (lA.cells (plG gA)) rfl (congrArg Value.agg (HAC.out gA)) (Row.new _ _ _) ?_ (hid (by first | rfl | simp)) (hid (by first | rfl | simp)) (hid (msc_one _ _)); intro w3 hr3 hg; have MA3 := hid hr3; have hb : Below w2.heap.size w2 w3 := ((Below.refl _ _).alloc (Nat.le_refl _) (.cells z33 34)).trans (below_grown hg (Nat.le_refl _) (by simp)); have HW3 := hid (HW2.out.trans (hb.mono HW2.out.size)); have HV3 := hid (HV2.out.trans (hb.mono HV2.out.size)); have RA3 := hid (RA2.out.below hb RA2.out.lt); clear hr3 hg hb)
        | ((with_reducible show wpList _ _ _ ({ dst := none, op := .store _ (.tmp 3) (.tmp 12), type := _, pos := _, after := _, guard := _ } :: _) _ _); refine wpl_store_st rfl (.tmp 3) (.tmp 12) rfl HZS.out (w4.heap.size) (z33) (lB.cells (plG gB)) rfl (congrArg Value.agg (HBC.out gB)) (Row.new _ _ _) ?_ (hid (by first | rfl | simp)) (hid (by first | rfl | simp)) (hid (msc_one _ _)); intro w5 hr5 hg; have MB5 := hid hr5; have hb : Below w4.heap.size w4 w5 := ((Below.refl _ _).alloc (Nat.le_refl _) (.cells z33 34)).trans (below_grown hg (Nat.le_refl _) (by simp)); have HW5 := hid (HW4.out.trans (hb.mono HW4.out.size)); have HV5 := hid (HV4.out.trans (hb.mono HV4.out.size)); have RA5 := hid (RA4.out.below hb RA4.out.lt); have MA5 := hid (MA4.out.below hb MA4.out.lt); have RB5 := hid (RB4.out.below hb RB4.out.lt); clear hr5 hg hb)
        | ((with_reducible show wpList _ _ _ ({ dst := some 13, op := _, type := _, pos := _, after := _, guard := _ } :: _) _ _); refine wpList_load_row rfl 34 (.tmp 2) rfl (w2.heap.size) rfl 34 (lA.cells (plG gA)) (0, 0) _ (Row.arr MA5.out) Tryd.underlying34 rfl HZS.out ?_)
        | ((with_reducible show wpList _ _ _ ({ dst := some 14, op := _, type := _, pos := _, after := _, guard := _ } :: _) _ _); refine wpList_load_row rfl 34 (.tmp 3) rfl (w4.heap.size) rfl 34 (lB.cells (plG gB)) (0, 0) _ (Row.arr MB5.out) Tryd.underlying34 rfl HZS.out ?_)
        | ((with_reducible show wpList _ _ _ ({ dst := some 15, op := _, type := _, pos := _, after := _, guard := _ } :: _) _ _); refine wpl_slicesM rfl 22 34 2 #[(0, .tmp 13), (1, .tmp 14)] rfl i0 _ 33 Tryd.underlying22 hi hz0 hz1 (by decide) (by omega) (([(lA, plG gA), (lB, plG gB)] : List LP).map lpC) rfl (by intro v hv; obtain ⟨x, -, rfl⟩ := List.mem_map.1 hv; exact lpC_len x) rfl ?_)
        | ((have zz := RB8); clear zz; go_at_call 7; refine (HCY.out gA gB w8 HW8.out (by intro x hx; rcases List.mem_cons.1 hx with rfl | hx; exact HPA.out _ _ RA8.out; rw [List.mem_singleton.1 hx]; exact HPU.out _ _ RB8.out)).mono ?_; rintro x w9 ⟨AY, cY, rfl, hcY, hb0, -⟩; have hb := ((Below.refl w8.heap.size w8).alloc (Nat.le_refl _) (.cells (([(lA, plG gA), (lU, plG gB)] : List LP).map lpC).flatten.toArray 34)).trans (hb0.mono (by simp)); clear hb0; have HW9 := hid (HW8.out.trans (hb.mono HW8.out.size)); have HV9 := hid (HV8.out.trans (hb.mono HV8.out.size)); have RA9 := hid (RA8.out.below hb RA8.out.lt); have MA9 := hid (MA8.out.below hb MA8.out.lt); have RB9 := hid (RB8.out.below hb RB8.out.lt); have MB9 := hid (MB8.out.below hb MB8.out.lt); have RX9 := hid (RX8.out.below hb RX8.out.lt); clear hb)
        | (go_at_call 7; refine (HCX.out gA gB w5 HW5.out (by intro x hx; rcases List.mem_cons.1 hx with rfl | hx; exact HPA.out _ _ RA5.out; rw [List.mem_singleton.1 hx]; exact HPB.out _ _ RB5.out)).mono ?_; rintro x w6 ⟨AX, cX, rfl, hcX, hb0, -⟩; have hb := ((Below.refl w5.heap.size w5).alloc (Nat.le_refl _) (.cells (([(lA, plG gA), (lB, plG gB)] : List LP).map lpC).flatten.toArray 34)).trans (hb0.mono (by simp)); clear hb0; have HW6 := hid (HW5.out.trans (hb.mono HW5.out.size)); have HV6 := hid (HV5.out.trans (hb.mono HV5.out.size)); have RA6 := hid (RA5.out.below hb RA5.out.lt); have MA6 := hid (MA5.out.below hb MA5.out.lt); have RB6 := hid (RB5.out.below hb RB5.out.lt); have MB6 := hid (MB5.out.below hb MB5.out.lt); clear hb)
        | ((with_reducible show wpList _ _ _ ({ dst := none, op := .store _ (.tmp 4) (.tmp 16), type := _, pos := _, after := _, guard := _ } :: _) _ _); refine wpl_store_st rfl (.tmp 4) (.tmp 16) rfl HZC.out (w6.heap.size) (#[.bool false, .int .i64 0, .int .i64 0, .int .u64 0, .int .i64 0, .slice none 0 0]) (chC X AX cX) rfl rfl (Row.new _ _ _) ?_ (hid (by first | rfl | simp)) (hid (by first | rfl | simp)) (hid (chC_one _ _ _)); intro w7 hr7 hg; have RX7 := hid hr7; have hb : Below w6.heap.size w6 w7 := ((Below.refl _ _).alloc (Nat.le_refl _) (.cells #[.bool false, .int .i64 0, .int .i64 0, .int .u64 0, .int .i64 0, .slice none 0 0] 36)).trans (below_grown hg (Nat.le_refl _) (by simp)); have HW7 := hid (HW6.out.trans (hb.mono HW6.out.size)); have HV7 := hid (HV6.out.trans (hb.mono HV6.out.size)); have RA7 := hid (RA6.out.below hb RA6.out.lt); have MA7 := hid (MA6.out.below hb MA6.out.lt); have RB7 := hid (RB6.out.below hb RB6.out.lt); have MB7 := hid (MB6.out.below hb MB6.out.lt); have c31 := HC31.out w7 w4.heap.size gB MB7.out; have HGB := hid RB4.out.lt; have hgAB : Hid (gA ≠ gB) := hid (by have h1 := RA2.out.lt; have h2 := MA3.out.lt; have h3 := HGB3.out; omega); clear hr7 hg hb)
        | ((with_reducible show wpList _ _ _ ({ dst := none, op := .store _ (.tmp 20) _, type := _, pos := _, after := _, guard := _ } :: _) _ _); refine wpl_store_c rfl 3 (.tmp 20) (.const (.int .i64 3)) rfl gB 15 (.int .i64 3) rfl rfl RB7.out HZ1.out ?_ HI15 (hid rfl); intro w8 hr8 hg; have RB8 : Hid (Row w8 gB 51 (rws itC lU.xs)) := hid (by rw [← HSET.out]; exact hr8); have RA8 := hid (RA7.out.grown hg (by intro x; exact hgAB.out (Option.some.inj x))); have MA8 := hid (MA7.out.grown hg (by intro x; have : w2.heap.size = gB := Option.some.inj x; have h2 := MA3.out.lt; have h3 := HGB3.out; omega)); have MB8 := hid (MB7.out.grown hg (by intro x; have : w4.heap.size = gB := Option.some.inj x; have := HGB.out; omega)); have RX8 := hid (RX7.out.grown hg (by intro x; have : w6.heap.size = gB := Option.some.inj x; have := HGB.out; have := MB6.out.lt; omega)); have HW8 := hid (HW7.out.trans (below_grown hg (Nat.le_trans HW3.out.size HGB3.out) HW7.out.size)); have HV8 := hid (HV7.out.trans (below_grown hg (Nat.le_trans HV3.out.size HGB3.out) HV7.out.size)); clear hr8 hg c31)
        | ((with_reducible show wpList _ _ _ ({ dst := some 21, op := _, type := _, pos := _, after := _, guard := _ } :: _) _ _); refine wpList_load_row rfl 34 (.tmp 2) rfl (w2.heap.size) rfl 34 (lA.cells (plG gA)) (0, 0) _ (Row.arr MA8.out) Tryd.underlying34 rfl HZS.out ?_)
        | ((with_reducible show wpList _ _ _ ({ dst := some 22, op := _, type := _, pos := _, after := _, guard := _ } :: _) _ _); refine wpList_load_row rfl 34 (.tmp 3) rfl (w4.heap.size) rfl 34 (lU.cells (plG gB)) (0, 0) _ (Row.arr (by rw [HUC.out]; exact MB8.out)) Tryd.underlying34 rfl HZS.out ?_)
        | ((with_reducible show wpList _ _ _ ({ dst := some 23, op := _, type := _, pos := _, after := _, guard := _ } :: _) _ _); refine wpl_slicesM rfl 22 34 2 #[(0, .tmp 21), (1, .tmp 22)] rfl i0 _ 33 Tryd.underlying22 hi hz0 hz1 (by decide) (by omega) (([(lA, plG gA), (lU, plG gB)] : List LP).map lpC) rfl (by intro v hv; obtain ⟨x, -, rfl⟩ := List.mem_map.1 hv; exact lpC_len x) rfl ?_)
        | ((with_reducible show wpList _ _ _ ({ dst := none, op := .store _ (.tmp 5) (.tmp 24), type := _, pos := _, after := _, guard := _ } :: _) _ _); refine wpl_store_st rfl (.tmp 5) (.tmp 24) rfl HZC.out (w9.heap.size) (#[.bool false, .int .i64 0, .int .i64 0, .int .u64 0, .int .i64 0, .slice none 0 0]) (chC Y AY cY) rfl rfl (Row.new _ _ _) ?_ (hid (by first | rfl | simp)) (hid (by first | rfl | simp)) (hid (chC_one _ _ _)); intro w10 hr10 hg; have RY10 := hid hr10; have hb : Below w9.heap.size w9 w10 := ((Below.refl _ _).alloc (Nat.le_refl _) (.cells #[.bool false, .int .i64 0, .int .i64 0, .int .u64 0, .int .i64 0, .slice none 0 0] 36)).trans (below_grown hg (Nat.le_refl _) (by simp)); have HW10 := hid (HW9.out.trans (hb.mono HW9.out.size)); have HV10 := hid (HV9.out.trans (hb.mono HV9.out.size)); have RA10 := hid (RA9.out.below hb RA9.out.lt); have MA10 := hid (MA9.out.below hb MA9.out.lt); have RB10 := hid (RB9.out.below hb RB9.out.lt); have MB10 := hid (MB9.out.below hb MB9.out.lt); have RX10 := hid (RX9.out.below hb RX9.out.lt); clear hr10 hg hb))
  clear HW1 HW2 HW3 HW4 HW5 HW6 HW7 HW8 HW9 HV1 HV2 HV3 HV4 HV5 HV6 HV7 HV8 HV9 HV10
  refine wp_region_held_drew (S := (fun W => Below w10.heap.size w10 W)) (by kernel_rfl) ((Below.refl _ _).drew) (fun hH => ?_)
  refine tk_ (i := 0) (v := .agg (lA.cells (plG gA))) rfl (yieldsIf_load_mid rfl 34 (.tmp 2) rfl (w2.heap.size) 0 rfl (Array.toList (lA.cells (plG gA))) _ (fun W hW => Row.range (MA10.out.below hW MA10.out.lt)) Tryd.underlying34 rfl (by exact HZS.out)) hH ?_
  simp only [Act.put, la1, la3, la4, la5, la6]
  refine tk_ (i := 1) (v := .agg (lU.cells (plG gB))) rfl (yieldsIf_load_mid rfl 34 (.tmp 3) rfl (w4.heap.size) 0 rfl (Array.toList (lU.cells (plG gB))) _ (fun W hW => by rw [HUC.out]; exact Row.range (MB10.out.below hW MB10.out.lt)) Tryd.underlying34 rfl (by exact HZS.out)) hH ?_
  simp only [Act.put, la1, la2, la3, la4, la5, la6]
  refine wpAnyH_ready (rs := [2, 5]) (by kernel_rfl) (by simp) ?_
  refine AllReadyH.cons rfl (fun K hK => ?_) (AllReadyH.cons rfl (fun K hK => ?_) AllReadyH.nil)
  · go_simp
    go_at_call 12
    refine (HLZ.out _ (HW10.out.trans (hH.mono HW10.out.size))).mono ?_
    rintro x u11 ⟨gZ, rfl, -, hrZ, hb⟩
    go_wp2_with fail
    rw [HZC3.out]
    have RZ := hid hrZ
    refine hK.out _ _ (hH.trans (hb.mono hH.size)) (fun hH => ?_)
    clear hb hrZ
    clear hK K
    try simp only [Act.put, la1, la2, la3, la4, la5, la6]
    refine wpAnyH_ready (rs := [3, 5]) (by kernel_rfl) (by simp) ?_
    refine AllReadyH.cons rfl (fun K hK => ?_) (AllReadyH.cons rfl (fun K hK => ?_) AllReadyH.nil)
    · rw [if_pos (by rfl)]
      refine wp_slicesM 22 34 3 #[(0, .tmp 25), (1, .tmp 26), (2, .tmp 27)] rfl i0 _ 33 Tryd.underlying22 hi hz0 hz1 (by decide) (by omega) (([(lA, plG gA), (lU, plG gB), (lZ, plG gZ)] : List LP).map lpC) rfl (by intro v hv; obtain ⟨x, -, rfl⟩ := List.mem_map.1 hv; exact lpC_len x) rfl ?_
      simp only [Act.put]
      have HLM : Hid (Lm (u11.alloc (.cells (([(lA, plG gA), (lU, plG gB), (lZ, plG gZ)] : List LP).map lpC).flatten.toArray 34)) (u11.heap.size + 1) (some ⟨u11.heap.size, 0, none⟩) ([(lA, plG gA), (lU, plG gB), (lZ, plG gZ)] : List LP)) := hid (by
        have h := lm_logs (W := u11) (L := ([(lA, plG gA), (lU, plG gB), (lZ, plG gZ)] : List LP)) (by intro x hx; rcases List.mem_cons.1 hx with rfl | hx; exact HPA.out _ _ (RA10.out.below hH RA10.out.lt); rcases List.mem_cons.1 hx with rfl | hx; exact HPU.out _ _ (RB10.out.below hH RB10.out.lt); rw [List.mem_singleton.1 hx]; exact HPZ.out _ _ RZ.out)
        rwa [show (u11).heap.size = u11.heap.size by simp] at h)
      refine hK.out _ _ (hH.alloc hH.size _) (fun hH => ?_)
      clear hK K
      try simp only [la1, la2, la3, la4, la5, la6]
      refine wpAnyH_ready (rs := [4, 5]) (by kernel_rfl) (by simp) ?_
      refine AllReadyH.cons rfl (fun K hK => ?_) (AllReadyH.cons rfl (fun K hK => ?_) AllReadyH.nil)
      · go_simp
        go_at_call 7
        refine (HCZ.out gA gB gZ _ _ (HW10.out.trans (hH.mono HW10.out.size)) (HLM.out.le (by simp))).mono ?_
        rintro x v13 ⟨AZ, cZ, rfl, hcZ, hb, -⟩
        go_wp2_with fail
        refine hK.out _ _ (hH.trans (hb.mono hH.size)) (fun hH => ?_)
        clear hb
        clear hK K
        try simp only [Act.put, la1, la2, la3, la4, la5, la6]
        refine wpAnyH_ready (rs := [5]) (by kernel_rfl) (by simp) ?_
        refine AllReadyH.cons rfl (fun K hK => ?_) AllReadyH.nil
        go_simp
        have HIX : Hid (w10.heap.size ≤ v13.heap.size) := hid (by have h := hH.size; simpa using h)
        have RCH : Row ((v13).alloc (.cells #[.bool false, .int .i64 0, .int .i64 0, .int .u64 0, .int .i64 0, .slice none 0 0] 36)) (v13.heap.size) 36 (#[.bool false, .int .i64 0, .int .i64 0, .int .u64 0, .int .i64 0, .slice none 0 0] : Array Value).toList := by
          have h := Row.new (v13) 36 #[.bool false, .int .i64 0, .int .i64 0, .int .u64 0, .int .i64 0, .slice none 0 0]
          rwa [show (v13).heap.size = v13.heap.size by simp] at h
        replace RZ := hid (RZ.out.alloc (.cells #[.bool false, .int .i64 0, .int .i64 0, .int .u64 0, .int .i64 0, .slice none 0 0] 36))
        replace HLM := hid (HLM.out.below ((Below.refl _ _).alloc (Nat.le_refl _) (.cells #[.bool false, .int .i64 0, .int .i64 0, .int .u64 0, .int .i64 0, .slice none 0 0] 36)) (by simp))
        refine hK.out _ _ (hH.alloc hH.size _) (fun hH => ?_)
        clear hK K
        try simp only [Act.put, la1, la2, la3, la4, la5, la6]
        refine wpAnyH_ready (rs := [6]) (by kernel_rfl) (by simp) ?_
        refine AllReadyH.cons rfl (fun K hK => ?_) AllReadyH.nil
        rw [if_pos (by kernel_rfl)]
        refine wp_store_st (.tmp 6) (.tmp 29) rfl HZC.out (v13.heap.size) #[.bool false, .int .i64 0, .int .i64 0, .int .u64 0, .int .i64 0, .slice none 0 0] (chC Z AZ cZ) rfl rfl RCH rfl rfl (chC_one _ _ _) (fun w99 hr99 hg99 => ?_)
        refine hK.out _ _ (hH.trans (below_grown hg99 HIX.out hH.size)) (fun hH => ?_)
        clear hK K
        try simp only [Act.put, la1, la2, la3]
        refine wpAnyH_done (by kernel_rfl) ?_ _
        try simp only [Act.put, la1, la2, la3, la4, la5, la6]
        have cx0 : w99.cell? ⟨w6.heap.size, 0, none⟩ = some (.bool true) := by rw [← HX1.out]; exact (RX10.out.below hH RX10.out.lt).cell 0
        have cx5 : w99.cell? ⟨w6.heap.size, 5, none⟩ = some (.slice AX 1 cX) := by rw [← HX2.out]; exact (RX10.out.below hH RX10.out.lt).cell 5
        have cy0 : w99.cell? ⟨w9.heap.size, 0, none⟩ = some (.bool false) := by rw [← HY1.out]; exact (RY10.out.below hH RY10.out.lt).cell 0
        have cz0 : w99.cell? ⟨v13.heap.size, 0, none⟩ = some (.bool true) := by rw [← HZ31.out]; exact hr99.cell 0
        have cz5 : w99.cell? ⟨v13.heap.size, 5, none⟩ = some (.slice AZ 2 cZ) := by rw [← HZ32.out]; exact hr99.cell 5
        have HFIN := hid (HW10.out.trans (hH.mono HW10.out.size))
        clear hH hr99 hg99 RCH HW10 RA10 RB10 MA10 MB10 RX10 RY10
        generalize v13.heap.size = gZZ at *
        go_wp2_with fail
        go_ret
        exact ⟨rfl, HFIN.out⟩
      · go_simp
        have HIX : Hid (w10.heap.size ≤ u11.heap.size + 1) := hid (by have h := hH.size; simpa using h)
        have RCH : Row ((((u11).alloc (.cells (([(lA, plG gA), (lU, plG gB), (lZ, plG gZ)] : List LP).map lpC).flatten.toArray 34))).alloc (.cells #[.bool false, .int .i64 0, .int .i64 0, .int .u64 0, .int .i64 0, .slice none 0 0] 36)) (u11.heap.size + 1) 36 (#[.bool false, .int .i64 0, .int .i64 0, .int .u64 0, .int .i64 0, .slice none 0 0] : Array Value).toList := by
          have h := Row.new (((u11).alloc (.cells (([(lA, plG gA), (lU, plG gB), (lZ, plG gZ)] : List LP).map lpC).flatten.toArray 34))) 36 #[.bool false, .int .i64 0, .int .i64 0, .int .u64 0, .int .i64 0, .slice none 0 0]
          rwa [show (((u11).alloc (.cells (([(lA, plG gA), (lU, plG gB), (lZ, plG gZ)] : List LP).map lpC).flatten.toArray 34))).heap.size = u11.heap.size + 1 by simp] at h
        replace RZ := hid (RZ.out.alloc (.cells #[.bool false, .int .i64 0, .int .i64 0, .int .u64 0, .int .i64 0, .slice none 0 0] 36))
        replace HLM := hid (HLM.out.below ((Below.refl _ _).alloc (Nat.le_refl _) (.cells #[.bool false, .int .i64 0, .int .i64 0, .int .u64 0, .int .i64 0, .slice none 0 0] 36)) (by simp))
        refine hK.out _ _ (hH.alloc hH.size _) (fun hH => ?_)
        clear hK K
        try simp only [Act.put, la1, la2, la3, la4, la5, la6]
        refine wpAnyH_ready (rs := [4]) (by kernel_rfl) (by simp) ?_
        refine AllReadyH.cons rfl (fun K hK => ?_) AllReadyH.nil
        go_simp
        go_at_call 7
        refine (HCZ.out gA gB gZ _ _ (HW10.out.trans (hH.mono HW10.out.size)) (HLM.out.le (by simp))).mono ?_
        rintro x v14 ⟨AZ, cZ, rfl, hcZ, hb, -⟩
        go_wp2_with fail
        have RCH := RCH.below hb RCH.lt
        refine hK.out _ _ (hH.trans (hb.mono hH.size)) (fun hH => ?_)
        clear hb
        clear hK K
        try simp only [Act.put, la1, la2, la3, la4, la5, la6]
        refine wpAnyH_ready (rs := [6]) (by kernel_rfl) (by simp) ?_
        refine AllReadyH.cons rfl (fun K hK => ?_) AllReadyH.nil
        rw [if_pos (by kernel_rfl)]
        refine wp_store_st (.tmp 6) (.tmp 29) rfl HZC.out (u11.heap.size + 1) #[.bool false, .int .i64 0, .int .i64 0, .int .u64 0, .int .i64 0, .slice none 0 0] (chC Z AZ cZ) rfl rfl RCH rfl rfl (chC_one _ _ _) (fun w99 hr99 hg99 => ?_)
        refine hK.out _ _ (hH.trans (below_grown hg99 HIX.out hH.size)) (fun hH => ?_)
        clear hK K
        try simp only [Act.put, la1, la2, la3]
        refine wpAnyH_done (by kernel_rfl) ?_ _
        try simp only [Act.put, la1, la2, la3, la4, la5, la6]
        have cx0 : w99.cell? ⟨w6.heap.size, 0, none⟩ = some (.bool true) := by rw [← HX1.out]; exact (RX10.out.below hH RX10.out.lt).cell 0
        have cx5 : w99.cell? ⟨w6.heap.size, 5, none⟩ = some (.slice AX 1 cX) := by rw [← HX2.out]; exact (RX10.out.below hH RX10.out.lt).cell 5
        have cy0 : w99.cell? ⟨w9.heap.size, 0, none⟩ = some (.bool false) := by rw [← HY1.out]; exact (RY10.out.below hH RY10.out.lt).cell 0
        have cz0 : w99.cell? ⟨u11.heap.size + 1, 0, none⟩ = some (.bool true) := by rw [← HZ31.out]; exact hr99.cell 0
        have cz5 : w99.cell? ⟨u11.heap.size + 1, 5, none⟩ = some (.slice AZ 2 cZ) := by rw [← HZ32.out]; exact hr99.cell 5
        have HFIN := hid (HW10.out.trans (hH.mono HW10.out.size))
        clear hH hr99 hg99 RCH HW10 RA10 RB10 MA10 MB10 RX10 RY10
        generalize u11.heap.size + 1 = gZZ at *
        go_wp2_with fail
        go_ret
        exact ⟨rfl, HFIN.out⟩
    · go_simp
      have HIX : Hid (w10.heap.size ≤ u11.heap.size) := hid (by have h := hH.size; simpa using h)
      have RCH : Row ((u11).alloc (.cells #[.bool false, .int .i64 0, .int .i64 0, .int .u64 0, .int .i64 0, .slice none 0 0] 36)) (u11.heap.size) 36 (#[.bool false, .int .i64 0, .int .i64 0, .int .u64 0, .int .i64 0, .slice none 0 0] : Array Value).toList := by
        have h := Row.new (u11) 36 #[.bool false, .int .i64 0, .int .i64 0, .int .u64 0, .int .i64 0, .slice none 0 0]
        rwa [show (u11).heap.size = u11.heap.size by simp] at h
      replace RZ := hid (RZ.out.alloc (.cells #[.bool false, .int .i64 0, .int .i64 0, .int .u64 0, .int .i64 0, .slice none 0 0] 36))
      refine hK.out _ _ (hH.alloc hH.size _) (fun hH => ?_)
      clear hK K
      try simp only [Act.put, la1, la2, la3, la4, la5, la6]
      refine wpAnyH_ready (rs := [3]) (by kernel_rfl) (by simp) ?_
      refine AllReadyH.cons rfl (fun K hK => ?_) AllReadyH.nil
      rw [if_pos (by rfl)]
      refine wp_slicesM 22 34 3 #[(0, .tmp 25), (1, .tmp 26), (2, .tmp 27)] rfl i0 _ 33 Tryd.underlying22 hi hz0 hz1 (by decide) (by omega) (([(lA, plG gA), (lU, plG gB), (lZ, plG gZ)] : List LP).map lpC) rfl (by intro v hv; obtain ⟨x, -, rfl⟩ := List.mem_map.1 hv; exact lpC_len x) rfl ?_
      simp only [Act.put]
      have HLM : Hid (Lm (((u11).alloc (.cells #[.bool false, .int .i64 0, .int .i64 0, .int .u64 0, .int .i64 0, .slice none 0 0] 36)).alloc (.cells (([(lA, plG gA), (lU, plG gB), (lZ, plG gZ)] : List LP).map lpC).flatten.toArray 34)) (u11.heap.size + 1 + 1) (some ⟨u11.heap.size + 1, 0, none⟩) ([(lA, plG gA), (lU, plG gB), (lZ, plG gZ)] : List LP)) := hid (by
        have h := lm_logs (W := ((u11).alloc (.cells #[.bool false, .int .i64 0, .int .i64 0, .int .u64 0, .int .i64 0, .slice none 0 0] 36))) (L := ([(lA, plG gA), (lU, plG gB), (lZ, plG gZ)] : List LP)) (by intro x hx; rcases List.mem_cons.1 hx with rfl | hx; exact HPA.out _ _ (RA10.out.below hH RA10.out.lt); rcases List.mem_cons.1 hx with rfl | hx; exact HPU.out _ _ (RB10.out.below hH RB10.out.lt); rw [List.mem_singleton.1 hx]; exact HPZ.out _ _ RZ.out)
        rwa [show (((u11).alloc (.cells #[.bool false, .int .i64 0, .int .i64 0, .int .u64 0, .int .i64 0, .slice none 0 0] 36))).heap.size = u11.heap.size + 1 by simp] at h)
      replace RCH := RCH.alloc (.cells (([(lA, plG gA), (lU, plG gB), (lZ, plG gZ)] : List LP).map lpC).flatten.toArray 34)
      refine hK.out _ _ (hH.alloc hH.size _) (fun hH => ?_)
      clear hK K
      try simp only [la1, la2, la3, la4, la5, la6]
      refine wpAnyH_ready (rs := [4]) (by kernel_rfl) (by simp) ?_
      refine AllReadyH.cons rfl (fun K hK => ?_) AllReadyH.nil
      go_simp
      go_at_call 7
      refine (HCZ.out gA gB gZ _ _ (HW10.out.trans (hH.mono HW10.out.size)) (HLM.out.le (by simp))).mono ?_
      rintro x v14 ⟨AZ, cZ, rfl, hcZ, hb, -⟩
      go_wp2_with fail
      have RCH := RCH.below hb RCH.lt
      refine hK.out _ _ (hH.trans (hb.mono hH.size)) (fun hH => ?_)
      clear hb
      clear hK K
      try simp only [Act.put, la1, la2, la3, la4, la5, la6]
      refine wpAnyH_ready (rs := [6]) (by kernel_rfl) (by simp) ?_
      refine AllReadyH.cons rfl (fun K hK => ?_) AllReadyH.nil
      rw [if_pos (by kernel_rfl)]
      refine wp_store_st (.tmp 6) (.tmp 29) rfl HZC.out (u11.heap.size) #[.bool false, .int .i64 0, .int .i64 0, .int .u64 0, .int .i64 0, .slice none 0 0] (chC Z AZ cZ) rfl rfl RCH rfl rfl (chC_one _ _ _) (fun w99 hr99 hg99 => ?_)
      refine hK.out _ _ (hH.trans (below_grown hg99 HIX.out hH.size)) (fun hH => ?_)
      clear hK K
      try simp only [Act.put, la1, la2, la3]
      refine wpAnyH_done (by kernel_rfl) ?_ _
      try simp only [Act.put, la1, la2, la3, la4, la5, la6]
      have cx0 : w99.cell? ⟨w6.heap.size, 0, none⟩ = some (.bool true) := by rw [← HX1.out]; exact (RX10.out.below hH RX10.out.lt).cell 0
      have cx5 : w99.cell? ⟨w6.heap.size, 5, none⟩ = some (.slice AX 1 cX) := by rw [← HX2.out]; exact (RX10.out.below hH RX10.out.lt).cell 5
      have cy0 : w99.cell? ⟨w9.heap.size, 0, none⟩ = some (.bool false) := by rw [← HY1.out]; exact (RY10.out.below hH RY10.out.lt).cell 0
      have cz0 : w99.cell? ⟨u11.heap.size, 0, none⟩ = some (.bool true) := by rw [← HZ31.out]; exact hr99.cell 0
      have cz5 : w99.cell? ⟨u11.heap.size, 5, none⟩ = some (.slice AZ 2 cZ) := by rw [← HZ32.out]; exact hr99.cell 5
      have HFIN := hid (HW10.out.trans (hH.mono HW10.out.size))
      clear hH hr99 hg99 RCH HW10 RA10 RB10 MA10 MB10 RX10 RY10
      generalize u11.heap.size = gZZ at *
      go_wp2_with fail
      go_ret
      exact ⟨rfl, HFIN.out⟩
  · go_simp
    have HIX : Hid (w10.heap.size ≤ w10.heap.size) := hid (Nat.le_refl _)
    have RCH : Row ((w10.drew).alloc (.cells #[.bool false, .int .i64 0, .int .i64 0, .int .u64 0, .int .i64 0, .slice none 0 0] 36)) (w10.heap.size) 36 (#[.bool false, .int .i64 0, .int .i64 0, .int .u64 0, .int .i64 0, .slice none 0 0] : Array Value).toList := by
      have h := Row.new (w10.drew) 36 #[.bool false, .int .i64 0, .int .i64 0, .int .u64 0, .int .i64 0, .slice none 0 0]
      rwa [show (w10.drew).heap.size = w10.heap.size by simp] at h
    refine hK.out _ _ (hH.alloc hH.size _) (fun hH => ?_)
    clear hK K
    try simp only [Act.put, la1, la2, la3, la4, la5, la6]
    refine wpAnyH_ready (rs := [2]) (by kernel_rfl) (by simp) ?_
    refine AllReadyH.cons rfl (fun K hK => ?_) AllReadyH.nil
    go_simp
    go_at_call 12
    refine (HLZ.out _ (HW10.out.trans (hH.mono HW10.out.size))).mono ?_
    rintro x u12 ⟨gZ, rfl, -, hrZ, hb⟩
    go_wp2_with fail
    rw [HZC3.out]
    have RZ := hid hrZ
    have RCH := RCH.below hb RCH.lt
    refine hK.out _ _ (hH.trans (hb.mono hH.size)) (fun hH => ?_)
    clear hb hrZ
    clear hK K
    try simp only [Act.put, la1, la2, la3, la4, la5, la6]
    refine wpAnyH_ready (rs := [3]) (by kernel_rfl) (by simp) ?_
    refine AllReadyH.cons rfl (fun K hK => ?_) AllReadyH.nil
    rw [if_pos (by rfl)]
    refine wp_slicesM 22 34 3 #[(0, .tmp 25), (1, .tmp 26), (2, .tmp 27)] rfl i0 _ 33 Tryd.underlying22 hi hz0 hz1 (by decide) (by omega) (([(lA, plG gA), (lU, plG gB), (lZ, plG gZ)] : List LP).map lpC) rfl (by intro v hv; obtain ⟨x, -, rfl⟩ := List.mem_map.1 hv; exact lpC_len x) rfl ?_
    simp only [Act.put]
    have HLM : Hid (Lm (u12.alloc (.cells (([(lA, plG gA), (lU, plG gB), (lZ, plG gZ)] : List LP).map lpC).flatten.toArray 34)) (u12.heap.size + 1) (some ⟨u12.heap.size, 0, none⟩) ([(lA, plG gA), (lU, plG gB), (lZ, plG gZ)] : List LP)) := hid (by
      have h := lm_logs (W := u12) (L := ([(lA, plG gA), (lU, plG gB), (lZ, plG gZ)] : List LP)) (by intro x hx; rcases List.mem_cons.1 hx with rfl | hx; exact HPA.out _ _ (RA10.out.below hH RA10.out.lt); rcases List.mem_cons.1 hx with rfl | hx; exact HPU.out _ _ (RB10.out.below hH RB10.out.lt); rw [List.mem_singleton.1 hx]; exact HPZ.out _ _ RZ.out)
      rwa [show (u12).heap.size = u12.heap.size by simp] at h)
    replace RCH := RCH.alloc (.cells (([(lA, plG gA), (lU, plG gB), (lZ, plG gZ)] : List LP).map lpC).flatten.toArray 34)
    refine hK.out _ _ (hH.alloc hH.size _) (fun hH => ?_)
    clear hK K
    try simp only [la1, la2, la3, la4, la5, la6]
    refine wpAnyH_ready (rs := [4]) (by kernel_rfl) (by simp) ?_
    refine AllReadyH.cons rfl (fun K hK => ?_) AllReadyH.nil
    go_simp
    go_at_call 7
    refine (HCZ.out gA gB gZ _ _ (HW10.out.trans (hH.mono HW10.out.size)) (HLM.out.le (by simp))).mono ?_
    rintro x v14 ⟨AZ, cZ, rfl, hcZ, hb, -⟩
    go_wp2_with fail
    have RCH := RCH.below hb RCH.lt
    refine hK.out _ _ (hH.trans (hb.mono hH.size)) (fun hH => ?_)
    clear hb
    clear hK K
    try simp only [Act.put, la1, la2, la3, la4, la5, la6]
    refine wpAnyH_ready (rs := [6]) (by kernel_rfl) (by simp) ?_
    refine AllReadyH.cons rfl (fun K hK => ?_) AllReadyH.nil
    rw [if_pos (by kernel_rfl)]
    refine wp_store_st (.tmp 6) (.tmp 29) rfl HZC.out (w10.heap.size) #[.bool false, .int .i64 0, .int .i64 0, .int .u64 0, .int .i64 0, .slice none 0 0] (chC Z AZ cZ) rfl rfl RCH rfl rfl (chC_one _ _ _) (fun w99 hr99 hg99 => ?_)
    refine hK.out _ _ (hH.trans (below_grown hg99 HIX.out hH.size)) (fun hH => ?_)
    clear hK K
    try simp only [Act.put, la1, la2, la3]
    refine wpAnyH_done (by kernel_rfl) ?_ _
    try simp only [Act.put, la1, la2, la3, la4, la5, la6]
    have cx0 : w99.cell? ⟨w6.heap.size, 0, none⟩ = some (.bool true) := by rw [← HX1.out]; exact (RX10.out.below hH RX10.out.lt).cell 0
    have cx5 : w99.cell? ⟨w6.heap.size, 5, none⟩ = some (.slice AX 1 cX) := by rw [← HX2.out]; exact (RX10.out.below hH RX10.out.lt).cell 5
    have cy0 : w99.cell? ⟨w9.heap.size, 0, none⟩ = some (.bool false) := by rw [← HY1.out]; exact (RY10.out.below hH RY10.out.lt).cell 0
    have cz0 : w99.cell? ⟨w10.heap.size, 0, none⟩ = some (.bool true) := by rw [← HZ31.out]; exact hr99.cell 0
    have cz5 : w99.cell? ⟨w10.heap.size, 5, none⟩ = some (.slice AZ 2 cZ) := by rw [← HZ32.out]; exact hr99.cell 5
    have HFIN := hid (HW10.out.trans (hH.mono HW10.out.size))
    clear hH hr99 hg99 RCH HW10 RA10 RB10 MA10 MB10 RX10 RY10
    generalize w10.heap.size = gZZ at *
    go_wp2_with fail
    go_ret
    exact ⟨rfl, HFIN.out⟩
end Go.Proofs.YteahbalcielhpaaDoor
