/-
  The walk of package journal's Open.
-/
import Derived.Test.YtafbeepacncooaaDoorP06
namespace Go.Proofs.YtafbeepacncooaaDoor
open Go.RowKit
set_option maxRecDepth 100000

theorem openK_len (S : Sp) (c : Int) : ∀ k, (openK S c k).2.1.length = 8
 | 0 => by simp [openK]
 | k + 1 => by
  have ih := openK_len S c k
  rw [openK]
  split
  ·
   exact ih
  ·
   split
   ·
    exact ih
   ·
    split
    ·
     exact ih
    ·
     split
     ·
      exact ih
     ·
      simpa using ih
theorem open_stop {S : Sp} {c : Int} {k : Nat} (h0 : (openK S c k).2.2 ≠ 0) : ∀ m, openK S c (k + m) = openK S c k
 | 0 => rfl
 | m + 1 => by
  rw [← Nat.add_assoc, openK, open_stop h0 m, if_pos h0]
theorem open_next {S : Sp} {c : Int} {k : Nat} (hk : k < 8) (h0 : (openK S c k).2.2 = 0) :
  (openK S c (k + 1)).1 = (openJ1 (openK S c k).1 ⟨c, (openK S c k).2.1⟩ k).1 ∧ (openK S c (k + 1)).2.2 = (openJ1 (openK S c k).1 ⟨c, (openK S c k).2.1⟩ k).2.2 ∧
  ((openJ1 (openK S c k).1 ⟨c, (openK S c k).2.1⟩ k).2.2 = 0 → (⟨c, (openK S c (k + 1)).2.1⟩ : Jn) = (openJ1 (openK S c k).1 ⟨c, (openK S c k).2.1⟩ k).2.1) := by
 rw [openK, if_neg (by rw [h0]; simp)]
 unfold openJ1
 simp only
 rw [look_eq _ c hk]
 by_cases h1 : ((openK S c k).1.read (pN (slotN c k))).2 = 0
 ·
  by_cases h2 : ((openK S c k).1.read (hN (slotN c k))).2 = 0
  ·
   simp only [h1, h2, ne_eq, not_true, if_false]
   by_cases h3 : (layL (openK S c k).1 (openP ((openK S c k).1.read (pN (slotN c k))).1 ((openK S c k).1.read (hN (slotN c k))).1 (slotN c k))).2 = 0
   ·
    rw [if_neg (by simpa using h3)]
    exact ⟨rfl, h3.symm, fun _ => rfl⟩
   ·
    rw [if_pos h3]
    exact ⟨rfl, rfl, fun q => absurd q h3⟩
  ·
   simp only [h1, h2, ne_eq, not_true, not_false_eq_true, if_false, if_true]
   exact ⟨trivial, trivial, fun q => q.elim⟩
 ·
  simp only [h1, ne_eq, not_false_eq_true, if_true]
  exact ⟨trivial, trivial, fun q => q.elim⟩
theorem openP_len (p h : List UInt8) (n : Int) : (openP p h n).length ≤ 2 := by
 unfold openP
 split
 ·
  exact cleanP_len _ _ _
 ·
  split <;> simp
theorem openJ1_count (S : Sp) (J : Jn) (s : Nat) : (openJ1 S J s).1.count ≤ S.count + 4 := by
 have h1 := layL_count (openP (lookP S s).1 (lookP S s).2.1 (slotN J.c s)) S
 have h2 := openP_len (lookP S s).1 (lookP S s).2.1 (slotN J.c s)
 unfold openJ1
 split
 ·
  simp
 ·
  simp only
  omega
theorem openK_count (S : Sp) (c : Int) : ∀ k, k ≤ 8 → (openK S c k).1.count ≤ S.count + 4 * k
 | 0, _ => by simp [openK]
 | k + 1, hk => by
  have ih := openK_count S c k (by omega)
  by_cases h0 : (openK S c k).2.2 = 0
  ·
   rw [(open_next (by omega) h0).1]
   have := openJ1_count (openK S c k).1 ⟨c, (openK S c k).2.1⟩ k
   omega
  ·
   rw [open_stop h0 1]
   omega
theorem slots_zero (c : Int) : (Jn.mk c (List.replicate 8 it0)).slots = List.replicate 8 it0 := by
 have h : ∀ n, (Jn.mk c (List.replicate 8 it0)).item n = it0 := fun n => by
  unfold Jn.item
  split
  ·
   rename_i hn
   obtain ⟨h1, h2⟩ := hn
   have h1 : c < n := h1
   have h2 : n ≤ c + 8 := h2
   show (List.replicate 8 it0).getD (n - c - 1).toNat it0 = it0
   rw [List.getD_eq_getElem?_getD, List.getElem?_replicate]
   split <;> rfl
  ·
   rfl
 unfold Jn.slots
 simp only [h]
 rfl
theorem name_wp {P : Program} {c : Code} {Q : Exit → Act → World → Prop} {a : Act} {w : World} (h : ∀ w1, w1 = w → c.wp P Q a w1) : c.wp P Q a w := h w rfl
/-- a journal, or none -/
def OR (w0 w : World) (p gs : Nat) (G : List Nat) (r : Sp × Option Jn × Int) (e : Ending) (w' : World) : Prop :=
 match r.2.1 with
 | some J => ∃ jp, e = .returned (.tuple #[.pointer (some ⟨jp, 0, none⟩), .int .i64 r.2.2]) ∧ Jd w0 w' jp p gs r.1 J G ∧ Ek w w' G ∧ w.heap.size ≤ jp
 | none => e = .returned (.tuple #[.pointer none, .int .i64 r.2.2]) ∧ Dd w0 w' p gs r.1 G ∧ Ek w w' G
set_option maxHeartbeats 4000000 in
theorem openj_any {w0 w : World} {p gs : Nat} {S : Sp} {G : List Nat} (h : Dd w0 w p gs S G) (c : Int) (hc : S.count ≤ 800000) :
  Calls Tryd.prog 18 #[.pointer (some ⟨p, 0, none⟩), .int .i64 c] w (OR w0 w p gs G (openJ S c)) := by
 by_cases hb : c < 0 ∨ 72057594037927927 < c
 ·
  unfold openJ
  rw [if_pos hb]
  show Calls _ _ _ _ fun e w' => e = .returned (.tuple #[.pointer none, .int .i64 1]) ∧ Dd w0 w' p gs S G ∧ Ek w w' G
  have HH := hid h
  clear h hc
  by_cases h1 : c < 0
  ·
   clear hb
   go_enter Tryd.func18, Tryd.ntmps18
   go_wp2_with fail
   go_ret2
   exact ⟨rfl, HH.out, Ek.refl _ _⟩
  ·
   have h2 : 72057594037927927 < c := by omega
   clear hb
   go_enter Tryd.func18, Tryd.ntmps18
   go_wp2_with fail
   go_ret2
   exact ⟨rfl, HH.out, Ek.refl _ _⟩
 ·
  have b1 : ¬ c < 0 := fun q => hb (.inl q)
  have b2 : ¬ 72057594037927927 < c := fun q => hb (.inr q)
  have HS : Hid (∀ W jp k, k < 8 → (openK S c k).2.2 = 0 → Jd w0 W jp p gs (openK S c k).1 ⟨c, (openK S c k).2.1⟩ G → Calls Tryd.prog 39 #[.pointer (some ⟨jp, 0, none⟩), .int .i64 (k : Int)] W (JC w0 W jp p gs (openK S c (k + 1)).1 (openJ1 (openK S c k).1 ⟨c, (openK S c k).2.1⟩ k).2.1 G (.int .i64 (openK S c (k + 1)).2.2))) := hid fun W jp k hk h0 hW => by
   have hcn := openK_count S c k (by omega)
   have := open_any13 hW (show 0 ≤ c by omega) (show c ≤ 72057594037927927 by omega) (openK_len S c k) k hk (by omega)
   obtain ⟨e1, e2, _⟩ := open_next hk h0
   rw [← e1, ← e2] at this
   exact this
  have HNX : Hid (∀ k, k < 8 → (openK S c k).2.2 = 0 → (openK S c (k + 1)).2.2 = 0 → (⟨c, (openK S c (k + 1)).2.1⟩ : Jn) = (openJ1 (openK S c k).1 ⟨c, (openK S c k).2.1⟩ k).2.1) := hid fun k hk h0 h1 => by
   obtain ⟨_, e2, e3⟩ := open_next hk h0
   exact e3 (by rw [← e2]; exact h1)
  have HST : Hid (∀ k, k ≤ 8 → (openK S c k).2.2 ≠ 0 → openK S c 8 = openK S c k) := hid fun k hk h0 => by
   have := open_stop h0 (8 - k)
   rw [show k + (8 - k) = 8 by omega] at this
   exact this
  have e0 : openJ S c = if (openK S c 8).2.2 = 0 then ((openK S c 8).1, some ⟨c, (openK S c 8).2.1⟩, 0) else ((openK S c 8).1, none, (openK S c 8).2.2) := by unfold openJ; rw [if_neg hb]
  have HE0 := hid e0
  have HH := hid h
  have HB1 := hid (show 0 ≤ c by omega)
  clear h hc hb e0
  generalize openJ S c = RES at *
  go_enter Tryd.func18, Tryd.ntmps18
  go_wp2_with fail
  refine name_wp (fun w1 hw1 => ?_)
  have hr0 : Row w1 w.heap.size 69 (jC p c (List.replicate 8 it0)) := by
   rw [hw1]
   exact Row.new w 69 (jC p c (List.replicate 8 it0)).toArray
  have hbe : Below w.heap.size w w1 := by rw [hw1]; exact (Below.refl _ _).alloc (Nat.le_refl _) _
  have HJ0 : Hid (Jd w0 w1 w.heap.size p gs S ⟨c, List.replicate 8 it0⟩ G) := hid ⟨HH.out.add hbe (Nat.le_refl _) hr0.lt, by show Row _ _ _ (jC p c (Jn.slots _)); rw [slots_zero]; exact hr0, HH.out.size, fun hn => Nat.lt_irrefl _ (HH.out.lt _ hn)⟩
  have HK0 := hid (HH.out.new hbe).2
  clear hw1 hr0 hbe
  go_loopw [19] (fun i wr => ∃ k : Nat, k ≤ 8 ∧ i = .int .i64 k ∧ Hid ((openK S c k).2.2 = 0) ∧ Jd w0 wr w.heap.size p gs (openK S c k).1 ⟨c, (openK S c k).2.1⟩ G ∧ Ek w wr G) (fun i _ => 8 - (intOf i).toNat)
  case atStart => exact ⟨0, by omega, rfl, hid rfl, HJ0.out, HK0.out⟩
  case round =>
   obtain ⟨k, hk, rfl, hst, hj, hek⟩ := hrel
   have HEK := hid hek
   by_cases hlt : k < 8
   ·
    have hbk : (k : Int) < 8 := by omega
    have HSK := hid (HS.out wr _ k hlt hst.out hj)
    have HS2 := hid (HST.out (k + 1) (by omega))
    have HN2 := hid (HNX.out k hlt hst.out)
    clear hj hek HS HST HNX
    generalize hR : openK S c (k + 1) = R at *
    have HR := hid hR
    clear hR
    obtain ⟨S1, X1, x⟩ := R
    simp only at HSK HS2 HN2
    by_cases hx : x = 0
    ·
     subst hx
     have HN3 := hid (HN2.out rfl)
     rw [← HN3.out] at HSK
     clear HS2 HN2 HN3
     go_wp2_with (go_at_call 39; refine HSK.out.mono ?_; rintro e w2 ⟨rfl, h2, k2⟩; have H2 := hid h2; have E2 := hid k2; clear h2 k2)
     go_roundw
     case rel => exact ⟨k + 1, by omega, by go_num, hid (by rw [HR.out]), by rw [HR.out]; exact H2.out, HEK.out.trans E2.out⟩
     case measure => simp [intOf]; omega
    ·
     have HE := hid (HS2.out hx)
     have HX := hid hx
     have hx2 : (x != 0) = true := by simpa using hx
     clear HS2 HN2 hx
     go_wp2_with (go_at_call 39; refine HSK.out.mono ?_; rintro e w2 ⟨rfl, h2, k2⟩; have H2 := hid h2; have E2 := hid k2; clear h2 k2)
     go_ret2
     rw [HE0.out, HE.out, if_neg HX.out]
     exact ⟨rfl, H2.out.1.tail, HEK.out.trans E2.out⟩
   ·
    obtain rfl : k = 8 := by omega
    have H8 := hid hj
    clear HS HST HNX hj
    go_wp2_with fail
    go_ret2
    rw [HE0.out, if_pos hst.out]
    exact ⟨w.heap.size, rfl, H8.out, hek, Nat.le_refl _⟩
end Go.Proofs.YtafbeepacncooaaDoor
/-
  The walk of package journal's layersFor.
-/
namespace Go.Proofs.YtafbeepacncooaaDoor
open Go.RowKit
set_option maxRecDepth 10000

section
variable {w0 w w' : World} {jp p gs : Nat} {S : Sp} {J : Jn} {G : List Nat} {v : Value} {L : List Ly}
/-- blocks that are new are put apart -/
theorem Jd.addl (h : Jd w0 w jp p gs S J G) (hb : Below w.heap.size w w') (X : List Nat) (hX : ∀ g ∈ X, w.heap.size ≤ g ∧ g < w'.heap.size) : Jd w0 w' jp p gs S J (X ++ G) := by
 have hj := h.jlt
 have hlt := h.lt
 obtain ⟨k1, k2⟩ := h.new hb
 obtain ⟨⟨vd, h1, h2, h3, h4, h5⟩, hrow, hj0, hjx⟩ := h
 obtain ⟨_, krow, _⟩ := k1
 refine ⟨⟨vd, h1.fr (Fr.of_below hb) (by simp), fun b hb' => ⟨(h2 b hb').1, ?_⟩, h3.trans (hb.mono h3.size), fun x hx => ?_, h5⟩, krow, hj0, ?_⟩
 ·
  have hlb := h1.lt b hb'
  have hn := (h2 b hb').2
  simp only [List.mem_cons, List.mem_append, not_or] at hn ⊢
  exact ⟨hn.1, fun hm => by have := hX b hm; omega, hn.2⟩
 ·
  simp only [List.mem_cons, List.mem_append] at hx
  rcases hx with rfl | hx | hx
  ·
   exact Nat.lt_of_lt_of_le hj hb.size
  ·
   exact (hX x hx).2
  ·
   exact Nat.lt_of_lt_of_le (hlt x hx) hb.size
 ·
  simp only [List.mem_append, not_or]
  exact ⟨fun hm => by have := hX jp hm; omega, hjx⟩
theorem Jd.alloc (h : Jd w0 w jp p gs S J G) (o : Obj) : Jd w0 (w.alloc o) jp p gs S J (w.heap.size :: G) ∧ Ek w (w.alloc o) G := by
 have hb := (Below.refl w.heap.size w).alloc (Nat.le_refl _) o
 exact ⟨h.add hb (Nat.le_refl _) (by simp), (h.new hb).2⟩
/-- a list of one layer, just made -/
theorem JO.made (h : Jd w0 w jp p gs S J G) (y : Ly) (hy : y.At w G) : JO w0 (w.alloc (.cells y.cells.toArray 87)) jp p gs S J G (.slice (some ⟨w.heap.size, 0, none⟩) 1 1) [y] ∧ Ek w (w.alloc (.cells y.cells.toArray 87)) G := by
 obtain ⟨k1, k2⟩ := h.alloc (.cells y.cells.toArray 87)
 refine ⟨⟨[w.heap.size], k1, ⟨rfl, .inr ⟨w.heap.size, 1, y.cells.toArray, rfl, h.size, heap_alloc_new _ _, Nat.le_refl _, by decide, rfl, by simp; exact List.take_of_length_le (Nat.le_refl 2)⟩⟩, by simp [Value.ownBlock], ?_, ?_⟩, k2⟩
 ·
  intro x hx
  rw [List.mem_singleton.1 hx]
  exact hy.ek k2
 ·
  intro x hx hm
  rw [List.mem_singleton.1 hx] at hm
  exact Nat.lt_irrefl _ (h.lt _ hm)
/-- more layers -/
theorem wpl_app_lys {ops : Array Oper} {rest : List Oper} {o : Oper} {a : Act} {Q : Exit → Act → World → Prop} (hgd : o.guard = none) (s x : Operand) (ho : o.op = .call { callee := .builtin .append, args := #[s, x], argTypes := #[82, 82] })
  (hs : a.eval s = v) (M : List Ly) (gy m c : Nat) (hx : a.eval x = .slice (some ⟨gy, 0, none⟩) m c) (hm : m = M.length) (hm0 : 0 < m) (hrow : LyAt w G (some ⟨gy, 0, none⟩) M) (hJ : JO w0 w jp p gs S J G v L) (hL : L.length + m ≤ 1000) (n : Nat) (hn : n = L.length + m)
  (h : ∀ g cap w', JO w0 w' jp p gs S J G (.slice (some ⟨g, 0, none⟩) n cap) (L ++ M) → Ek w w' G → wpList Tryd.prog ops Q rest (a.put o.dst (.slice (some ⟨g, 0, none⟩) n cap)) w') : wpList Tryd.prog ops Q (o :: rest) a w := by
 subst hn hm
 obtain ⟨i0, hi0, hi1, hi2, hi3⟩ := layInfo4
 obtain ⟨X, h1, h2, h3, h4, h5⟩ := hJ
 obtain ⟨hM, hrow⟩ := hrow
 obtain ⟨g0, o0, e0, hg0, hcell⟩ := hrow (by intro e; rw [e] at hm0; simp at hm0)
 cases e0
 refine wpList_append_lies w hgd s x 82 ho w0.heap.size 87 i0 _ 2 16 Tryd.underlying82 hi0 hi1 hi2 hi3 rfl (by decide) v L.length _ hs h2 ⟨gy, 0, none⟩ M.length c (M.map Ly.cells).flatten hx (flat_cells M) (fun j u hu => ?_) (fun u hu => ?_) hm0 (Nat.le_trans hL (by decide)) (by omega) h1.size _ rfl (fun g cap w' k1 k2 k3 k4 => ?_)
 ·
  have hj : j < (M.map Ly.cells).flatten.length := (List.getElem?_eq_some_iff.1 hu).1
  rw [flat_cells] at hj
  have hk : j / 2 < M.length := by omega
  have e := flat_get 2 (M.map Ly.cells) (j / 2) (j % 2) (by simp [cells_len]) (by omega)
  rw [show j / 2 * 2 + j % 2 = j by omega, hu, List.getElem?_map, List.getElem?_eq_getElem hk] at e
  have := hcell (j / 2) (j % 2) u hk e.symm
  rw [show 0 + j / 2 * 2 + j % 2 = j by omega] at this
  by_cases h0 : j = 0
  ·
   subst h0
   simpa [Addr.add] using this
  ·
   simpa [Addr.add, h0] using this
 ·
  simp only [List.mem_flatten, List.mem_map] at hu
  obtain ⟨_, ⟨y, _, rfl⟩, hu⟩ := hu
  exact cells_one13 y u hu
 ·
  have hlt := h1.lt
  have hgb : g ∈ X ∨ g = w.heap.size := k3.imp (h3 g) id
  have hE : Ek w w' G := fun b hb => k2.block b (hlt b (by simp [hb])) (fun e => h5 b (h3 b e.symm) hb)
  have hr : ∀ b, v.ownBlock = some b → b ∈ X ++ G ∧ w0.heap.size ≤ b := fun b hv => by
   refine ⟨List.mem_append_left _ (h3 b hv), ?_⟩
   rcases h2.2 with ⟨hn, _⟩ | ⟨g2, c2, cu2, hv2, hb2, _⟩
   ·
    rw [hn] at hv; cases hv
   ·
    rw [hv2] at hv
    cases hv
    exact hb2
  have hjd := h1.grow k2 hr (g := g) (hgb.imp (fun h => List.mem_append_left _ h) id) k4
  refine h g cap w' ⟨g :: X, hjd, ?_, ?_, ?_, ?_⟩ hE
  ·
   rw [List.length_append, List.map_append, List.flatten_append]
   exact k1
  ·
   intro b hb
   simp [Value.ownBlock] at hb
   simp [hb]
  ·
   intro x hx
   rcases List.mem_append.1 hx with hx | hx
   ·
    exact (h4 x hx).ek hE
   ·
    exact (hM x hx).ek hE
  ·
   intro x hx
   rcases List.mem_cons.1 hx with rfl | hx
   ·
    rcases hgb with h | h
    ·
     exact h5 _ h
    ·
     intro hm
     have := hlt x (by simp [hm])
     omega
   ·
    exact h5 x hx
end
theorem alloc3_new (w : World) (a b : Obj) (C : Array Value) (T : TypeId) : Row (((w.alloc a).alloc b).alloc (.cells C T)) (w.heap.size + 2) T C.toList := by
 have := Row.new ((w.alloc a).alloc b) T C
 simpa using this
/-- two layers that were just made -/
theorem wpl_slice2 {P : Program} {o : Oper} {a : Act} {w : World} {K : Act → World → Prop} {Q : Exit → Act → World → Prop} (x y : Operand) (ho : o.op = .buildSlice 82 2 #[(0, x), (1, y)]) (c1 c2 c3 c4 : Value) (hx : a.eval x = .agg #[c1, c2]) (hy : a.eval y = .agg #[c3, c4])
  (hu : P.underlying 82 = some (.slice 87)) (ie : TypeInfo) (hie : P.info? 87 = some ie) (hz : ie.zero = some (.agg #[.int .i64 0, .nilFunc])) (hs : ie.size = 2)
  (h : K (a.put o.dst (.slice (some ⟨w.heap.size, 0, none⟩) 2 2)) (w.alloc (.cells #[c1, c2, c3, c4] 87))) : o.wp P a w K Q := by
 refine wp_buildSlice 82 87 2 _ ho #[c1, c2, c3, c4] ie _ hu hie hz (by rw [hs]; omega) (by rw [hs]; omega) ?_ h
 have e1 : (Array.map (fun (z : Nat × Operand) => (z.1, a.eval z.2)) #[(0, x), (1, y)]).toList = [(0, a.eval x), (1, a.eval y)] := by simp
 refine Eq.trans (congrArg _ e1) ?_
 rw [hx, hy, hs]
 kernel_rfl
theorem we_row (C : Array Value) (w : World) : Calls Tryd.prog 63 #[.agg C] w fun e w' => e = .returned (feV w.heap.size) ∧ Row w' w.heap.size 28 C.toList ∧ Below w.heap.size w w' :=
 (we_any C w).mono fun _ _ ⟨k1, k2⟩ => ⟨k1, by rw [k2]; exact ⟨Row.new _ _ _, (Below.refl _ _).alloc (Nat.le_refl _) _⟩⟩
theorem ws_row (C : Array Value) (w : World) : Calls Tryd.prog 64 #[.agg C] w fun e w' => e = .returned (fsV w.heap.size) ∧ Row w' w.heap.size 42 C.toList ∧ Below w.heap.size w w' :=
 (ws_any C w).mono fun _ _ ⟨k1, k2⟩ => ⟨k1, by rw [k2]; exact ⟨Row.new _ _ _, (Below.refl _ _).alloc (Nat.le_refl _) _⟩⟩
/-- what layersFor answers -/
def LF (w0 w : World) (jp p gs : Nat) (S : Sp) (J : Jn) (G : List Nat) (P : List Lay) (e : Ending) (w' : World) : Prop :=
 ∃ X A c L, e = .returned (.slice A (List.length L) c) ∧ Jd w0 w' jp p gs S J (X ++ G) ∧ LyAt w' (X ++ G) A L ∧ L.map Ly.lay = P ∧ L.length ≤ 3 ∧ Ek w w' G
theorem LyAt.two {w : World} {G : List Nat} {g : Nat} {x y : Ly} (hr : Row w g 87 (x.cells ++ y.cells)) (hg : g ∈ G) (hx : x.At w G) (hy : y.At w G) : LyAt w G (some ⟨g, 0, none⟩) [x, y] :=
 ⟨by simp [hx, hy], fun _ => ⟨g, 0, rfl, hg, fun k j v hk hv => by
  have hj : j < 2 := (List.getElem?_eq_some_iff.1 hv).1
  have hk : k < 2 := hk
  rw [hr.cell]
  obtain rfl | rfl : k = 0 ∨ k = 1 := by omega
  ·
   rw [show 0 + 0 * 2 + j = j by omega, List.getElem?_append_left hj]
   exact hv
  ·
   rw [show 0 + 1 * 2 + j = 2 + j by omega, List.getElem?_append_right (by show 2 ≤ _; omega), show 2 + j - x.cells.length = j by show 2 + j - 2 = j; omega]
   exact hv⟩⟩
theorem LyAt.left {w : World} {G : List Nat} {A : Option Addr} {x y : Ly} (h : LyAt w G A [x, y]) : LyAt w G A [x] :=
 ⟨by simpa using h.1 x (by simp), fun _ => by
  obtain ⟨g, o, e, hg, hc⟩ := h.2 (by simp)
  exact ⟨g, o, e, hg, fun k j v hk hv => by
   obtain rfl : k = 0 := by simpa using hk
   exact hc 0 j v (by simp) hv⟩⟩
theorem item_stub {W : World} {g : Nat} (x : It) (h : Row W g 44 x.cells.toList) : W.rangeAt g 1 x.stub.cells.toList := fun j v hv => by
 have hj : j < 5 := (List.getElem?_eq_some_iff.1 hv).1
 rw [h.cell]
 have e : x.cells.toList = .int .i64 x.kind :: (x.stub.cells.toList ++ x.entry.cells.toList) := rfl
 rw [e, show 1 + j = j + 1 by omega, List.getElem?_cons_succ, List.getElem?_append_left hj]
 exact hv
set_option maxHeartbeats 4000000 in
theorem for_same {w0 w : World} {jp p gs : Nat} {S : Sp} {J : Jn} {G : List Nat} (h : Jd w0 w jp p gs S J G) (s : Nat) (hs : s < 8) (x : It) (e : En) (t : St) (hfe : e.fits) (hrt : Rt e) (hfs : t.fits) (hsr : SRt t) (hpn : pN e.opn = 4 + s) (hhn : hN t.opn = 12 + s) (hx : x.entry = e) :
  Calls Tryd.prog 41 #[.int .i64 (s : Int), .agg x.cells, .agg e.cells, .agg t.cells] w (LF w0 w jp p gs S J G []) := by
 have HZE : Hid ((Tryd.prog.info? 28).map (·.size) = some e.cells.size) := esize
 have HZS : Hid ((Tryd.prog.info? 42).map (·.size) = some t.cells.size) := stsize
 obtain ⟨i0, hi0, hi1, hi2⟩ := layInfo
 have HPE : Hid (∀ g W, Calls Tryd.prog 45 #[.int .i64 (s : Int), .func (.func 76) #[] #[.pointer (some ⟨g, 0, none⟩)]] W (VE W (.agg #[.int .i64 ((4 + s : Nat) : Int), feV g]))) := hid fun g W => prep_e s g W hs
 have HHE : Hid (∀ g W, Calls Tryd.prog 43 #[.int .i64 (s : Int), .func (.func 78) #[] #[.pointer (some ⟨g, 0, none⟩)]] W (VE W (.agg #[.int .i64 ((12 + s : Nat) : Int), fsV g]))) := hid fun g W => head_s s g W hs
 have HHV : Hid (∀ W, Calls Tryd.prog 43 #[.int .i64 (s : Int), .func (.func 44) #[] #[]] W (VE W (.agg (Ly.v (12 + s)).cells.toArray))) := hid fun W => head_v s W hs
 have HWS : Hid (∀ W, Calls Tryd.prog 42 #[.agg x.cells] W fun e w' => e = .returned (.bool (decide (x.kind = 1 ∨ x.kind = 2))) ∧ Below W.heap.size W w') := hid fun W => was_any x W
 have HPN := hid hpn
 have HHN := hid hhn
 have HFE := hid hfe
 have HRT := hid hrt
 have HFS := hid hfs
 have HSR := hid hsr
 have HI := hid h
 have HEX := hid hx
 clear hx HHV HWS
 clear h hs hfe hrt hfs hsr hpn hhn
 go_enter Tryd.func41, Tryd.ntmps41
 go_wp2_with fail
 refine name_wp (fun w1 hw1 => ?_)
 have hbe : Below w.heap.size w w1 := by rw [hw1]; exact (((Below.refl _ _).alloc (Nat.le_refl _) _).alloc (by simp) _).alloc (by simp; omega) _
 have hsz : w1.heap.size = w.heap.size + 3 := by rw [hw1]; simp
 have RI : Hid (Row w1 w.heap.size 44 x.cells.toList) := hid (by rw [hw1]; exact ((Row.new w _ _).alloc _).alloc _)
 have RE : Hid (Row w1 (w.heap.size + 1) 28 e.cells.toList) := hid (by rw [hw1]; exact Row.alloc (w := (w.alloc _).alloc _) (alloc2_new _ _ _) _)
 have RS : Hid (Row w1 (w.heap.size + 2) 42 t.cells.toList) := hid (by rw [hw1]; exact alloc3_new _ _ _ _ _)
 have H1 := hid (HI.out.addl hbe [w.heap.size + 2, w.heap.size + 1, w.heap.size] (by simp; omega))
 have E1 := hid (HI.out.new hbe).2
 clear hw1 hbe hsz
 try simp only [Act.put, U1,U2,U3,U4,U5,U6]
 refine wp_region_held_drew (S := fun W => Jd w0 W jp p gs S J ([w.heap.size + 2, w.heap.size + 1, w.heap.size] ++ G) ∧ Ek w1 W ([w.heap.size + 2, w.heap.size + 1, w.heap.size] ++ G)) (by kernel_rfl) (⟨H1.out.drew, fun _ _ => rfl⟩) (fun hH => ?_)
 refine tk_ (i := 0) (v := .int .i64 (s : Int)) rfl (Or.inl ⟨by kernel_rfl, fun w' _ => by kernel_rfl⟩) hH ?_
 simp only [Act.put, U1, U3, U4, U5, U6]
 refine tk_ (i := 1) (v := .agg e.cells) rfl ?_ hH ?_
 ·
  refine yieldsIf_load_mid ?_ 28 (.tmp 6) ?_ (w.heap.size + 1) 0 ?_ (Array.toList e.cells) _ (fun W hW => Row.range (hW.2.row RE.out (by simp))) Tryd.underlying28 rfl (by exact HZE.out)
  all_goals kernel_rfl
 simp only [Act.put, U1,U2,U3,U4,U5,U6]
 refine tk_ (i := 4) (v := .int .i64 (s : Int)) rfl (Or.inl ⟨by kernel_rfl, fun w' _ => by kernel_rfl⟩) hH ?_
 simp only [Act.put, U1,U2,U3,U4,U5,U6]
 refine tk_ (i := 5) (v := .agg t.cells) rfl ?_ hH ?_
 ·
  refine yieldsIf_load_mid ?_ 42 (.tmp 7) ?_ (w.heap.size + 2) 0 ?_ (Array.toList t.cells) _ (fun W hW => Row.range (hW.2.row RS.out (by simp))) Tryd.underlying42 rfl (by exact HZS.out)
  all_goals kernel_rfl
 simp only [Act.put, U1,U2,U3,U4,U5,U6]
 refine wpAnyH_ready (rs := [2]) (by kernel_rfl) (by simp) ?_
 refine AllReadyH.cons rfl (fun K hK => ?_) AllReadyH.nil
 go_simp
 go_at_call 63
 refine (we_row _ _).mono ?_
 rintro x w2 ⟨rfl, hr2, hb2⟩
 go_wp2_with fail
 have H2 := hid (H1.out.drew.add hb2 (g := w1.heap.size) (Nat.le_refl _) hr2.lt)
 have K2 : Hid (Ek w1 w2 _) := hid (H1.out.drew.new hb2).2
 have R2 := hid hr2
 clear hr2 hb2
 refine hK.out _ _ (⟨H2.out.tail, K2.out⟩) (fun hH => ?_)
 clear hK K
 try simp only [Act.put, U1,U2,U3,U4,U5,U6]
 refine wpAnyH_ready (rs := [3]) (by kernel_rfl) (by simp) ?_
 refine AllReadyH.cons rfl (fun K hK => ?_) AllReadyH.nil
 go_simp
 go_at_call 45
 refine (HPE.out _ _).mono ?_
 rintro x w3 ⟨rfl, hb3⟩
 go_wp2_with fail
 have H3 := hid (H2.out.new hb3).1
 have K3 : Hid (Ek w1 w3 _) := hid (K2.out.trans (H2.out.new hb3).2.tail)
 have R3 := hid ((H2.out.new hb3).2.row R2.out (by simp))
 clear hb3
 refine hK.out _ _ (⟨H3.out.tail, K3.out⟩) (fun hH => ?_)
 clear hK K
 try simp only [Act.put, U1,U2,U3,U4,U5,U6]
 refine wpAnyH_ready (rs := [6]) (by kernel_rfl) (by simp) ?_
 refine AllReadyH.cons rfl (fun K hK => ?_) AllReadyH.nil
 go_simp
 go_at_call 64
 refine (ws_row _ _).mono ?_
 rintro x w4 ⟨rfl, hr4, hb4⟩
 go_wp2_with fail
 have q4 := (H3.out.new hb4).2
 have H4 := hid (H3.out.add hb4 (g := w3.heap.size) (Nat.le_refl _) hr4.lt)
 have K4 : Hid (Ek w1 w4 _) := hid (K3.out.trans q4.tail)
 have R4 := hid (q4.row R3.out (by simp))
 have Q4 := hid hr4
 clear q4 hr4 hb4
 refine hK.out _ _ (⟨H4.out.tail.tail, K4.out⟩) (fun hH => ?_)
 clear hK K
 try simp only [Act.put, U1,U2,U3,U4,U5,U6]
 refine wpAnyH_ready (rs := [7]) (by kernel_rfl) (by simp) ?_
 refine AllReadyH.cons rfl (fun K hK => ?_) AllReadyH.nil
 go_simp
 go_at_call 43
 refine (HHE.out _ _).mono ?_
 rintro x w5 ⟨rfl, hb5⟩
 go_wp2_with fail
 have H5 := hid (H4.out.new hb5).1
 have K5 : Hid (Ek w1 w5 _) := hid (K4.out.trans (H4.out.new hb5).2.tail.tail)
 have R5 := hid ((H4.out.new hb5).2.row R4.out (by simp))
 have Q5 := hid ((H4.out.new hb5).2.row Q4.out (by simp))
 clear hb5
 refine hK.out _ _ (⟨H5.out.tail.tail, K5.out⟩) (fun hH => ?_)
 clear hK K
 try simp only [Act.put, U1,U2,U3,U4,U5,U6]
 refine wpAnyH_ready (rs := [8]) (by kernel_rfl) (by simp) ?_
 refine AllReadyH.cons rfl (fun K hK => ?_) AllReadyH.nil
 rw [if_pos (by kernel_rfl)]
 refine wpl_slice2 (.tmp 13) (.tmp 17) rfl (.int .i64 ((4 + s : Nat) : Int)) (feV w1.heap.size) (.int .i64 ((12 + s : Nat) : Int)) (fsV w3.heap.size) (by kernel_rfl) (by kernel_rfl) Tryd.underlying82 i0 hi0 hi1 hi2 ?_
 have q6 := H5.out.alloc (.cells #[.int .i64 ((4 + s : Nat) : Int), feV w1.heap.size, .int .i64 ((12 + s : Nat) : Int), fsV w3.heap.size] 87)
 have B6 := hid (Row.new w5 87 #[.int .i64 ((4 + s : Nat) : Int), feV w1.heap.size, .int .i64 ((12 + s : Nat) : Int), fsV w3.heap.size])
 have H6 := hid q6.1
 have K6 : Hid (Ek w1 _ _) := hid (K5.out.trans q6.2.tail.tail)
 have R6 := hid (q6.2.row R5.out (by simp))
 have Q6 := hid (q6.2.row Q5.out (by simp))
 clear q6
 refine hK.out _ _ (⟨H6.out.tail.tail.tail, K6.out⟩) (fun hH => ?_)
 clear hK K
 try simp only [Act.put, U1,U2,U3,U4,U5,U6]
 refine tk_ (i := 9) (v := .slice (some ⟨w5.heap.size, 0, none⟩) 2 2) rfl (Or.inl ⟨by kernel_rfl, fun w' _ => by kernel_rfl⟩) hH ?_
 simp only [Act.put, U1,U2,U3,U4,U5,U6]
 refine wpAnyH_done (by kernel_rfl) ?_ _
 try simp only [Act.put, U1,U2,U3,U4,U5,U6]
 clear hH
 generalize hw6 : w5.alloc _ = w6 at *
 clear hw6
 have I6 := hid (K6.out.row RI.out (by simp))
 have F6 := hid (K6.out.row RE.out (by simp))
 have S6 := hid (K6.out.row RS.out (by simp))
 have A6 : Hid (LyAt w6 (w5.heap.size :: w3.heap.size :: w1.heap.size :: ([w.heap.size + 2, w.heap.size + 1, w.heap.size] ++ G)) (some ⟨w5.heap.size, 0, none⟩) [.e e w1.heap.size, .s t w3.heap.size]) := hid (LyAt.two (by show Row w6 _ _ [.int .i64 (pN e.opn : Int), feV w1.heap.size, .int .i64 (hN t.opn : Int), fsV w3.heap.size]; rw [HPN.out, HHN.out]; exact B6.out) (by simp) ⟨by simp, R6.out, HFE.out, HRT.out⟩ ⟨by simp, Q6.out, HFS.out, HSR.out⟩)
 have E6 := hid (E1.out.trans (K6.out.sub (fun g hg => List.mem_append_right _ hg)))
 clear K6 R6 Q6 B6 K5 K4 K3 K2 R2 R3 R4 Q4 R5 Q5 H2 H3 H4 H5
 go_wp2_with (first
  | (refine wpl_load_midw rfl 28 (.tmp 20) rfl w.heap.size 6 rfl x.entry.cells.toList _ (item_entry x I6.out) Tryd.underlying28 rfl (by exact esize) ?_)
  | (refine wpList_load_row rfl 28 (.tmp 6) rfl (w.heap.size + 1) rfl 28 e.cells (0, 0) _ F6.out.arr Tryd.underlying28 rfl HZE.out ?_)
  | (refine wpl_eqe2 rfl x.entry e true (.tmp 21) (.tmp 22) _ rfl rfl rfl (hid ⟨fun _ => HEX.out, fun _ => rfl⟩) ?_))
 go_ret
 exact ⟨[w5.heap.size, w3.heap.size, w1.heap.size, w.heap.size + 2, w.heap.size + 1, w.heap.size], none, 0, [], rfl, H6.out, ⟨by simp, by simp⟩, rfl, by simp, E6.out⟩
set_option maxHeartbeats 4000000 in
theorem for_one {w0 w : World} {jp p gs : Nat} {S : Sp} {J : Jn} {G : List Nat} (h : Jd w0 w jp p gs S J G) (s : Nat) (hs : s < 8) (x : It) (e : En) (t : St) (hfe : e.fits) (hrt : Rt e) (hfs : t.fits) (hsr : SRt t) (hpn : pN e.opn = 4 + s) (hhn : hN t.opn = 12 + s) (hx : x.entry ≠ e) (hk : x.kind = 2) (hst : x.stub = t) :
  Calls Tryd.prog 41 #[.int .i64 (s : Int), .agg x.cells, .agg e.cells, .agg t.cells] w (LF w0 w jp p gs S J G [lE e]) := by
 have HZE : Hid ((Tryd.prog.info? 28).map (·.size) = some e.cells.size) := esize
 have HZS : Hid ((Tryd.prog.info? 42).map (·.size) = some t.cells.size) := stsize
 obtain ⟨i0, hi0, hi1, hi2⟩ := layInfo
 have HPE : Hid (∀ g W, Calls Tryd.prog 45 #[.int .i64 (s : Int), .func (.func 76) #[] #[.pointer (some ⟨g, 0, none⟩)]] W (VE W (.agg #[.int .i64 ((4 + s : Nat) : Int), feV g]))) := hid fun g W => prep_e s g W hs
 have HHE : Hid (∀ g W, Calls Tryd.prog 43 #[.int .i64 (s : Int), .func (.func 78) #[] #[.pointer (some ⟨g, 0, none⟩)]] W (VE W (.agg #[.int .i64 ((12 + s : Nat) : Int), fsV g]))) := hid fun g W => head_s s g W hs
 have HHV : Hid (∀ W, Calls Tryd.prog 43 #[.int .i64 (s : Int), .func (.func 44) #[] #[]] W (VE W (.agg (Ly.v (12 + s)).cells.toArray))) := hid fun W => head_v s W hs
 have HWS : Hid (∀ W, Calls Tryd.prog 42 #[.agg x.cells] W fun e w' => e = .returned (.bool (decide (x.kind = 1 ∨ x.kind = 2))) ∧ Below W.heap.size W w') := hid fun W => was_any x W
 have HPN := hid hpn
 have HHN := hid hhn
 have HFE := hid hfe
 have HRT := hid hrt
 have HFS := hid hfs
 have HSR := hid hsr
 have HI := hid h
 have HEE : Hid (false = true ↔ x.entry = e) := hid (by simp [hx])
 have HES := hid (show decide (x.stub = t) = true by simp [hst])
 have hsl : ∀ (W : World) (a : Addr), (Instr.sliceAt 82 (.slice (some a) 2 2) none (some (.int .i64 1)) none).run Tryd.prog W = .ok (.slice (some a) 1 2) W := fun W a => by simp [Instr.sliceAt, Instr.sliceBounds, Instr.sliceBound, go_sem]
 have HSL := hid hsl
 have HKK := hid hk
 clear hx hst hk hsl HHV HWS
 clear h hs hfe hrt hfs hsr hpn hhn
 go_enter Tryd.func41, Tryd.ntmps41
 go_wp2_with fail
 refine name_wp (fun w1 hw1 => ?_)
 have hbe : Below w.heap.size w w1 := by rw [hw1]; exact (((Below.refl _ _).alloc (Nat.le_refl _) _).alloc (by simp) _).alloc (by simp; omega) _
 have hsz : w1.heap.size = w.heap.size + 3 := by rw [hw1]; simp
 have RI : Hid (Row w1 w.heap.size 44 x.cells.toList) := hid (by rw [hw1]; exact ((Row.new w _ _).alloc _).alloc _)
 have RE : Hid (Row w1 (w.heap.size + 1) 28 e.cells.toList) := hid (by rw [hw1]; exact Row.alloc (w := (w.alloc _).alloc _) (alloc2_new _ _ _) _)
 have RS : Hid (Row w1 (w.heap.size + 2) 42 t.cells.toList) := hid (by rw [hw1]; exact alloc3_new _ _ _ _ _)
 have H1 := hid (HI.out.addl hbe [w.heap.size + 2, w.heap.size + 1, w.heap.size] (by simp; omega))
 have E1 := hid (HI.out.new hbe).2
 clear hw1 hbe hsz
 try simp only [Act.put, U1,U2,U3,U4,U5,U6]
 refine wp_region_held_drew (S := fun W => Jd w0 W jp p gs S J ([w.heap.size + 2, w.heap.size + 1, w.heap.size] ++ G) ∧ Ek w1 W ([w.heap.size + 2, w.heap.size + 1, w.heap.size] ++ G)) (by kernel_rfl) (⟨H1.out.drew, fun _ _ => rfl⟩) (fun hH => ?_)
 refine tk_ (i := 0) (v := .int .i64 (s : Int)) rfl (Or.inl ⟨by kernel_rfl, fun w' _ => by kernel_rfl⟩) hH ?_
 simp only [Act.put, U1, U3, U4, U5, U6]
 refine tk_ (i := 1) (v := .agg e.cells) rfl ?_ hH ?_
 ·
  refine yieldsIf_load_mid ?_ 28 (.tmp 6) ?_ (w.heap.size + 1) 0 ?_ (Array.toList e.cells) _ (fun W hW => Row.range (hW.2.row RE.out (by simp))) Tryd.underlying28 rfl (by exact HZE.out)
  all_goals kernel_rfl
 simp only [Act.put, U1,U2,U3,U4,U5,U6]
 refine tk_ (i := 4) (v := .int .i64 (s : Int)) rfl (Or.inl ⟨by kernel_rfl, fun w' _ => by kernel_rfl⟩) hH ?_
 simp only [Act.put, U1,U2,U3,U4,U5,U6]
 refine tk_ (i := 5) (v := .agg t.cells) rfl ?_ hH ?_
 ·
  refine yieldsIf_load_mid ?_ 42 (.tmp 7) ?_ (w.heap.size + 2) 0 ?_ (Array.toList t.cells) _ (fun W hW => Row.range (hW.2.row RS.out (by simp))) Tryd.underlying42 rfl (by exact HZS.out)
  all_goals kernel_rfl
 simp only [Act.put, U1,U2,U3,U4,U5,U6]
 refine wpAnyH_ready (rs := [2]) (by kernel_rfl) (by simp) ?_
 refine AllReadyH.cons rfl (fun K hK => ?_) AllReadyH.nil
 go_simp
 go_at_call 63
 refine (we_row _ _).mono ?_
 rintro x w2 ⟨rfl, hr2, hb2⟩
 go_wp2_with fail
 have H2 := hid (H1.out.drew.add hb2 (g := w1.heap.size) (Nat.le_refl _) hr2.lt)
 have K2 : Hid (Ek w1 w2 _) := hid (H1.out.drew.new hb2).2
 have R2 := hid hr2
 clear hr2 hb2
 refine hK.out _ _ (⟨H2.out.tail, K2.out⟩) (fun hH => ?_)
 clear hK K
 try simp only [Act.put, U1,U2,U3,U4,U5,U6]
 refine wpAnyH_ready (rs := [3]) (by kernel_rfl) (by simp) ?_
 refine AllReadyH.cons rfl (fun K hK => ?_) AllReadyH.nil
 go_simp
 go_at_call 45
 refine (HPE.out _ _).mono ?_
 rintro x w3 ⟨rfl, hb3⟩
 go_wp2_with fail
 have H3 := hid (H2.out.new hb3).1
 have K3 : Hid (Ek w1 w3 _) := hid (K2.out.trans (H2.out.new hb3).2.tail)
 have R3 := hid ((H2.out.new hb3).2.row R2.out (by simp))
 clear hb3
 refine hK.out _ _ (⟨H3.out.tail, K3.out⟩) (fun hH => ?_)
 clear hK K
 try simp only [Act.put, U1,U2,U3,U4,U5,U6]
 refine wpAnyH_ready (rs := [6]) (by kernel_rfl) (by simp) ?_
 refine AllReadyH.cons rfl (fun K hK => ?_) AllReadyH.nil
 go_simp
 go_at_call 64
 refine (ws_row _ _).mono ?_
 rintro x w4 ⟨rfl, hr4, hb4⟩
 go_wp2_with fail
 have q4 := (H3.out.new hb4).2
 have H4 := hid (H3.out.add hb4 (g := w3.heap.size) (Nat.le_refl _) hr4.lt)
 have K4 : Hid (Ek w1 w4 _) := hid (K3.out.trans q4.tail)
 have R4 := hid (q4.row R3.out (by simp))
 have Q4 := hid hr4
 clear q4 hr4 hb4
 refine hK.out _ _ (⟨H4.out.tail.tail, K4.out⟩) (fun hH => ?_)
 clear hK K
 try simp only [Act.put, U1,U2,U3,U4,U5,U6]
 refine wpAnyH_ready (rs := [7]) (by kernel_rfl) (by simp) ?_
 refine AllReadyH.cons rfl (fun K hK => ?_) AllReadyH.nil
 go_simp
 go_at_call 43
 refine (HHE.out _ _).mono ?_
 rintro x w5 ⟨rfl, hb5⟩
 go_wp2_with fail
 have H5 := hid (H4.out.new hb5).1
 have K5 : Hid (Ek w1 w5 _) := hid (K4.out.trans (H4.out.new hb5).2.tail.tail)
 have R5 := hid ((H4.out.new hb5).2.row R4.out (by simp))
 have Q5 := hid ((H4.out.new hb5).2.row Q4.out (by simp))
 clear hb5
 refine hK.out _ _ (⟨H5.out.tail.tail, K5.out⟩) (fun hH => ?_)
 clear hK K
 try simp only [Act.put, U1,U2,U3,U4,U5,U6]
 refine wpAnyH_ready (rs := [8]) (by kernel_rfl) (by simp) ?_
 refine AllReadyH.cons rfl (fun K hK => ?_) AllReadyH.nil
 rw [if_pos (by kernel_rfl)]
 refine wpl_slice2 (.tmp 13) (.tmp 17) rfl (.int .i64 ((4 + s : Nat) : Int)) (feV w1.heap.size) (.int .i64 ((12 + s : Nat) : Int)) (fsV w3.heap.size) (by kernel_rfl) (by kernel_rfl) Tryd.underlying82 i0 hi0 hi1 hi2 ?_
 have q6 := H5.out.alloc (.cells #[.int .i64 ((4 + s : Nat) : Int), feV w1.heap.size, .int .i64 ((12 + s : Nat) : Int), fsV w3.heap.size] 87)
 have B6 := hid (Row.new w5 87 #[.int .i64 ((4 + s : Nat) : Int), feV w1.heap.size, .int .i64 ((12 + s : Nat) : Int), fsV w3.heap.size])
 have H6 := hid q6.1
 have K6 : Hid (Ek w1 _ _) := hid (K5.out.trans q6.2.tail.tail)
 have R6 := hid (q6.2.row R5.out (by simp))
 have Q6 := hid (q6.2.row Q5.out (by simp))
 clear q6
 refine hK.out _ _ (⟨H6.out.tail.tail.tail, K6.out⟩) (fun hH => ?_)
 clear hK K
 try simp only [Act.put, U1,U2,U3,U4,U5,U6]
 refine tk_ (i := 9) (v := .slice (some ⟨w5.heap.size, 0, none⟩) 2 2) rfl (Or.inl ⟨by kernel_rfl, fun w' _ => by kernel_rfl⟩) hH ?_
 simp only [Act.put, U1,U2,U3,U4,U5,U6]
 refine wpAnyH_done (by kernel_rfl) ?_ _
 try simp only [Act.put, U1,U2,U3,U4,U5,U6]
 clear hH
 generalize hw6 : w5.alloc _ = w6 at *
 clear hw6
 have I6 := hid (K6.out.row RI.out (by simp))
 have F6 := hid (K6.out.row RE.out (by simp))
 have S6 := hid (K6.out.row RS.out (by simp))
 have A6 : Hid (LyAt w6 (w5.heap.size :: w3.heap.size :: w1.heap.size :: ([w.heap.size + 2, w.heap.size + 1, w.heap.size] ++ G)) (some ⟨w5.heap.size, 0, none⟩) [.e e w1.heap.size, .s t w3.heap.size]) := hid (LyAt.two (by show Row w6 _ _ [.int .i64 (pN e.opn : Int), feV w1.heap.size, .int .i64 (hN t.opn : Int), fsV w3.heap.size]; rw [HPN.out, HHN.out]; exact B6.out) (by simp) ⟨by simp, R6.out, HFE.out, HRT.out⟩ ⟨by simp, Q6.out, HFS.out, HSR.out⟩)
 have E6 := hid (E1.out.trans (K6.out.sub (fun g hg => List.mem_append_right _ hg)))
 clear K6 R6 Q6 B6 K5 K4 K3 K2 R2 R3 R4 Q4 R5 Q5 H2 H3 H4 H5
 have ck : w6.cell? ⟨w.heap.size, 0, none⟩ = some (.int .i64 x.kind) := I6.out.at_ 0 _ rfl
 rw [HKK.out] at ck
 have hsl := HSL.out
 go_wp2_with (first
  | (refine wpl_load_midw rfl 28 (.tmp 20) rfl w.heap.size 6 rfl x.entry.cells.toList _ (item_entry x I6.out) Tryd.underlying28 rfl (by exact esize) ?_)
  | (refine wpList_load_row rfl 28 (.tmp 6) rfl (w.heap.size + 1) rfl 28 e.cells (0, 0) _ F6.out.arr Tryd.underlying28 rfl HZE.out ?_)
  | (refine wpl_eqe2 rfl x.entry e false (.tmp 21) (.tmp 22) _ rfl rfl rfl HEE ?_)
  | (refine wpl_load_midw (by kernel_rfl) 42 (.tmp 29) rfl w.heap.size 1 rfl x.stub.cells.toList _ (item_stub x I6.out) Tryd.underlying42 rfl (by exact stsize) ?_)
  | (refine wpl_load_want (by kernel_rfl) 42 (.tmp 7) rfl (w.heap.size + 2) rfl 42 t.cells (0, 0) _ S6.out.arr Tryd.underlying42 rfl HZS.out ?_)
  | (refine wpl_eqs (by kernel_rfl) x.stub t true (.tmp 30) (.tmp 31) _ rfl rfl rfl HES ?_))
 go_ret
 exact ⟨[w5.heap.size, w3.heap.size, w1.heap.size, w.heap.size + 2, w.heap.size + 1, w.heap.size], _, 2, [.e e w1.heap.size], rfl, H6.out, A6.out.left, rfl, by simp, E6.out⟩
set_option maxHeartbeats 4000000 in
theorem for_held {w0 w : World} {jp p gs : Nat} {S : Sp} {J : Jn} {G : List Nat} (h : Jd w0 w jp p gs S J G) (s : Nat) (hs : s < 8) (x : It) (e : En) (t : St) (hfe : e.fits) (hrt : Rt e) (hfs : t.fits) (hsr : SRt t) (hpn : pN e.opn = 4 + s) (hhn : hN t.opn = 12 + s) (hx : x.entry ≠ e) (hk : x.kind = 1) :
  Calls Tryd.prog 41 #[.int .i64 (s : Int), .agg x.cells, .agg e.cells, .agg t.cells] w (LF w0 w jp p gs S J G [lV (12 + s), lE e, lS t]) := by
 have HZE : Hid ((Tryd.prog.info? 28).map (·.size) = some e.cells.size) := esize
 have HZS : Hid ((Tryd.prog.info? 42).map (·.size) = some t.cells.size) := stsize
 obtain ⟨i0, hi0, hi1, hi2⟩ := layInfo
 have HPE : Hid (∀ g W, Calls Tryd.prog 45 #[.int .i64 (s : Int), .func (.func 76) #[] #[.pointer (some ⟨g, 0, none⟩)]] W (VE W (.agg #[.int .i64 ((4 + s : Nat) : Int), feV g]))) := hid fun g W => prep_e s g W hs
 have HHE : Hid (∀ g W, Calls Tryd.prog 43 #[.int .i64 (s : Int), .func (.func 78) #[] #[.pointer (some ⟨g, 0, none⟩)]] W (VE W (.agg #[.int .i64 ((12 + s : Nat) : Int), fsV g]))) := hid fun g W => head_s s g W hs
 have HHV : Hid (∀ W, Calls Tryd.prog 43 #[.int .i64 (s : Int), .func (.func 44) #[] #[]] W (VE W (.agg (Ly.v (12 + s)).cells.toArray))) := hid fun W => head_v s W hs
 have HWS : Hid (∀ W, Calls Tryd.prog 42 #[.agg x.cells] W fun e w' => e = .returned (.bool (decide (x.kind = 1 ∨ x.kind = 2))) ∧ Below W.heap.size W w') := hid fun W => was_any x W
 have HPN := hid hpn
 have HHN := hid hhn
 have HFE := hid hfe
 have HRT := hid hrt
 have HFS := hid hfs
 have HSR := hid hsr
 have HI := hid h
 have HEE : Hid (false = true ↔ x.entry = e) := hid (by simp [hx])
 have HKK := hid hk
 clear hk
 clear hx
 clear h hs hfe hrt hfs hsr hpn hhn
 go_enter Tryd.func41, Tryd.ntmps41
 go_wp2_with fail
 refine name_wp (fun w1 hw1 => ?_)
 have hbe : Below w.heap.size w w1 := by rw [hw1]; exact (((Below.refl _ _).alloc (Nat.le_refl _) _).alloc (by simp) _).alloc (by simp; omega) _
 have hsz : w1.heap.size = w.heap.size + 3 := by rw [hw1]; simp
 have RI : Hid (Row w1 w.heap.size 44 x.cells.toList) := hid (by rw [hw1]; exact ((Row.new w _ _).alloc _).alloc _)
 have RE : Hid (Row w1 (w.heap.size + 1) 28 e.cells.toList) := hid (by rw [hw1]; exact Row.alloc (w := (w.alloc _).alloc _) (alloc2_new _ _ _) _)
 have RS : Hid (Row w1 (w.heap.size + 2) 42 t.cells.toList) := hid (by rw [hw1]; exact alloc3_new _ _ _ _ _)
 have H1 := hid (HI.out.addl hbe [w.heap.size + 2, w.heap.size + 1, w.heap.size] (by simp; omega))
 have E1 := hid (HI.out.new hbe).2
 clear hw1 hbe hsz
 try simp only [Act.put, U1,U2,U3,U4,U5,U6]
 refine wp_region_held_drew (S := fun W => Jd w0 W jp p gs S J ([w.heap.size + 2, w.heap.size + 1, w.heap.size] ++ G) ∧ Ek w1 W ([w.heap.size + 2, w.heap.size + 1, w.heap.size] ++ G)) (by kernel_rfl) (⟨H1.out.drew, fun _ _ => rfl⟩) (fun hH => ?_)
 refine tk_ (i := 0) (v := .int .i64 (s : Int)) rfl (Or.inl ⟨by kernel_rfl, fun w' _ => by kernel_rfl⟩) hH ?_
 simp only [Act.put, U1, U3, U4, U5, U6]
 refine tk_ (i := 1) (v := .agg e.cells) rfl ?_ hH ?_
 ·
  refine yieldsIf_load_mid ?_ 28 (.tmp 6) ?_ (w.heap.size + 1) 0 ?_ (Array.toList e.cells) _ (fun W hW => Row.range (hW.2.row RE.out (by simp))) Tryd.underlying28 rfl (by exact HZE.out)
  all_goals kernel_rfl
 simp only [Act.put, U1,U2,U3,U4,U5,U6]
 refine tk_ (i := 4) (v := .int .i64 (s : Int)) rfl (Or.inl ⟨by kernel_rfl, fun w' _ => by kernel_rfl⟩) hH ?_
 simp only [Act.put, U1,U2,U3,U4,U5,U6]
 refine tk_ (i := 5) (v := .agg t.cells) rfl ?_ hH ?_
 ·
  refine yieldsIf_load_mid ?_ 42 (.tmp 7) ?_ (w.heap.size + 2) 0 ?_ (Array.toList t.cells) _ (fun W hW => Row.range (hW.2.row RS.out (by simp))) Tryd.underlying42 rfl (by exact HZS.out)
  all_goals kernel_rfl
 simp only [Act.put, U1,U2,U3,U4,U5,U6]
 refine wpAnyH_ready (rs := [2]) (by kernel_rfl) (by simp) ?_
 refine AllReadyH.cons rfl (fun K hK => ?_) AllReadyH.nil
 go_simp
 go_at_call 63
 refine (we_row _ _).mono ?_
 rintro x w2 ⟨rfl, hr2, hb2⟩
 go_wp2_with fail
 have H2 := hid (H1.out.drew.add hb2 (g := w1.heap.size) (Nat.le_refl _) hr2.lt)
 have K2 : Hid (Ek w1 w2 _) := hid (H1.out.drew.new hb2).2
 have R2 := hid hr2
 clear hr2 hb2
 refine hK.out _ _ (⟨H2.out.tail, K2.out⟩) (fun hH => ?_)
 clear hK K
 try simp only [Act.put, U1,U2,U3,U4,U5,U6]
 refine wpAnyH_ready (rs := [3]) (by kernel_rfl) (by simp) ?_
 refine AllReadyH.cons rfl (fun K hK => ?_) AllReadyH.nil
 go_simp
 go_at_call 45
 refine (HPE.out _ _).mono ?_
 rintro x w3 ⟨rfl, hb3⟩
 go_wp2_with fail
 have H3 := hid (H2.out.new hb3).1
 have K3 : Hid (Ek w1 w3 _) := hid (K2.out.trans (H2.out.new hb3).2.tail)
 have R3 := hid ((H2.out.new hb3).2.row R2.out (by simp))
 clear hb3
 refine hK.out _ _ (⟨H3.out.tail, K3.out⟩) (fun hH => ?_)
 clear hK K
 try simp only [Act.put, U1,U2,U3,U4,U5,U6]
 refine wpAnyH_ready (rs := [6]) (by kernel_rfl) (by simp) ?_
 refine AllReadyH.cons rfl (fun K hK => ?_) AllReadyH.nil
 go_simp
 go_at_call 64
 refine (ws_row _ _).mono ?_
 rintro x w4 ⟨rfl, hr4, hb4⟩
 go_wp2_with fail
 have q4 := (H3.out.new hb4).2
 have H4 := hid (H3.out.add hb4 (g := w3.heap.size) (Nat.le_refl _) hr4.lt)
 have K4 : Hid (Ek w1 w4 _) := hid (K3.out.trans q4.tail)
 have R4 := hid (q4.row R3.out (by simp))
 have Q4 := hid hr4
 clear q4 hr4 hb4
 refine hK.out _ _ (⟨H4.out.tail.tail, K4.out⟩) (fun hH => ?_)
 clear hK K
 try simp only [Act.put, U1,U2,U3,U4,U5,U6]
 refine wpAnyH_ready (rs := [7]) (by kernel_rfl) (by simp) ?_
 refine AllReadyH.cons rfl (fun K hK => ?_) AllReadyH.nil
 go_simp
 go_at_call 43
 refine (HHE.out _ _).mono ?_
 rintro x w5 ⟨rfl, hb5⟩
 go_wp2_with fail
 have H5 := hid (H4.out.new hb5).1
 have K5 : Hid (Ek w1 w5 _) := hid (K4.out.trans (H4.out.new hb5).2.tail.tail)
 have R5 := hid ((H4.out.new hb5).2.row R4.out (by simp))
 have Q5 := hid ((H4.out.new hb5).2.row Q4.out (by simp))
 clear hb5
 refine hK.out _ _ (⟨H5.out.tail.tail, K5.out⟩) (fun hH => ?_)
 clear hK K
 try simp only [Act.put, U1,U2,U3,U4,U5,U6]
 refine wpAnyH_ready (rs := [8]) (by kernel_rfl) (by simp) ?_
 refine AllReadyH.cons rfl (fun K hK => ?_) AllReadyH.nil
 rw [if_pos (by kernel_rfl)]
 refine wpl_slice2 (.tmp 13) (.tmp 17) rfl (.int .i64 ((4 + s : Nat) : Int)) (feV w1.heap.size) (.int .i64 ((12 + s : Nat) : Int)) (fsV w3.heap.size) (by kernel_rfl) (by kernel_rfl) Tryd.underlying82 i0 hi0 hi1 hi2 ?_
 have q6 := H5.out.alloc (.cells #[.int .i64 ((4 + s : Nat) : Int), feV w1.heap.size, .int .i64 ((12 + s : Nat) : Int), fsV w3.heap.size] 87)
 have B6 := hid (Row.new w5 87 #[.int .i64 ((4 + s : Nat) : Int), feV w1.heap.size, .int .i64 ((12 + s : Nat) : Int), fsV w3.heap.size])
 have H6 := hid q6.1
 have K6 : Hid (Ek w1 _ _) := hid (K5.out.trans q6.2.tail.tail)
 have R6 := hid (q6.2.row R5.out (by simp))
 have Q6 := hid (q6.2.row Q5.out (by simp))
 clear q6
 refine hK.out _ _ (⟨H6.out.tail.tail.tail, K6.out⟩) (fun hH => ?_)
 clear hK K
 try simp only [Act.put, U1,U2,U3,U4,U5,U6]
 refine tk_ (i := 9) (v := .slice (some ⟨w5.heap.size, 0, none⟩) 2 2) rfl (Or.inl ⟨by kernel_rfl, fun w' _ => by kernel_rfl⟩) hH ?_
 simp only [Act.put, U1,U2,U3,U4,U5,U6]
 refine wpAnyH_done (by kernel_rfl) ?_ _
 try simp only [Act.put, U1,U2,U3,U4,U5,U6]
 clear hH
 generalize hw6 : w5.alloc _ = w6 at *
 clear hw6
 have I6 := hid (K6.out.row RI.out (by simp))
 have F6 := hid (K6.out.row RE.out (by simp))
 have S6 := hid (K6.out.row RS.out (by simp))
 have A6 : Hid (LyAt w6 (w5.heap.size :: w3.heap.size :: w1.heap.size :: ([w.heap.size + 2, w.heap.size + 1, w.heap.size] ++ G)) (some ⟨w5.heap.size, 0, none⟩) [.e e w1.heap.size, .s t w3.heap.size]) := hid (LyAt.two (by show Row w6 _ _ [.int .i64 (pN e.opn : Int), feV w1.heap.size, .int .i64 (hN t.opn : Int), fsV w3.heap.size]; rw [HPN.out, HHN.out]; exact B6.out) (by simp) ⟨by simp, R6.out, HFE.out, HRT.out⟩ ⟨by simp, Q6.out, HFS.out, HSR.out⟩)
 have E6 := hid (E1.out.trans (K6.out.sub (fun g hg => List.mem_append_right _ hg)))
 clear K6 R6 Q6 B6 K5 K4 K3 K2 R2 R3 R4 Q4 R5 Q5 H2 H3 H4 H5
 have ck : w6.cell? ⟨w.heap.size, 0, none⟩ = some (.int .i64 x.kind) := I6.out.at_ 0 _ rfl
 rw [HKK.out] at ck
 rw [HKK.out] at HWS
 go_wp2_with (first
  | (refine wpl_load_midw rfl 28 (.tmp 20) rfl w.heap.size 6 rfl x.entry.cells.toList _ (item_entry x I6.out) Tryd.underlying28 rfl (by exact esize) ?_)
  | (refine wpList_load_row rfl 28 (.tmp 6) rfl (w.heap.size + 1) rfl 28 e.cells (0, 0) _ F6.out.arr Tryd.underlying28 rfl HZE.out ?_)
  | (refine wpl_eqe2 rfl x.entry e false (.tmp 21) (.tmp 22) _ rfl rfl rfl HEE ?_)
  | (refine wpList_load_row rfl 44 (.tmp 5) rfl w.heap.size rfl 44 x.cells (0, 0) _ I6.out.arr Tryd.underlying44 rfl itemSize13 ?_)
  | (go_at_call 42; refine (HWS.out _).mono ?_; rintro y w7 ⟨rfl, hb7⟩; have H7 := hid (H6.out.new hb7).1; have K7 := hid (H6.out.new hb7).2; have A7 := hid (A6.out.ek K7.out); have E7 := hid (E6.out.trans (K7.out.sub (fun g hg => by simp [hg]))); clear hb7)
  | (go_at_call 43; refine (HHV.out _).mono ?_; rintro y w8 ⟨rfl, hb8⟩; have H8 := hid (H7.out.new hb8).1; have K8 := hid (H7.out.new hb8).2; have A8 := hid (A7.out.ek K8.out); have E8 := hid (E7.out.trans (K8.out.sub (fun g hg => by simp [hg]))); clear hb8)
  | ((with_reducible show wpList _ _ _ ({ dst := some 41, op := _, type := _, pos := _, after := _, guard := _ } :: _) _ _); refine wpl_slice1 rfl 82 87 (.tmp 40) rfl i0 _ 2 Tryd.underlying82 hi0 hi1 hi2 (by decide) (by decide) (Ly.v (12 + s)).cells rfl rfl ?_; have q9 := JO.made H8.out (.v (12 + s)) trivial; have O9 := hid q9.1; have A9 := hid (A8.out.ek q9.2); have E9 := hid (E8.out.trans (q9.2.sub (fun g hg => by simp [hg]))); clear q9)
  | ((with_reducible show wpList _ _ _ ({ dst := some 43, op := _, type := _, pos := _, after := _, guard := _ } :: _) _ _); refine wpl_app_lys rfl (.tmp 41) (.tmp 42) rfl rfl [.e e w1.heap.size, .s t w3.heap.size] w5.heap.size 2 2 rfl rfl (by decide) A9.out O9.out (by simp) 3 rfl ?_; intro g10 q10 w10 hj10 he10; have O10 := hid hj10; have E10 := hid (E9.out.trans (he10.sub (fun g hg => by simp [hg]))); clear hj10 he10))
 obtain ⟨X, hX, hA⟩ := O10.out.at rfl
 go_ret
 exact ⟨X ++ [w5.heap.size, w3.heap.size, w1.heap.size, w.heap.size + 2, w.heap.size + 1, w.heap.size], _, q10, [.v (12 + s), .e e w1.heap.size, .s t w3.heap.size], rfl, by simpa using hX, by simpa using hA, rfl, by simp, E10.out⟩
set_option maxHeartbeats 4000000 in
theorem for_other {w0 w : World} {jp p gs : Nat} {S : Sp} {J : Jn} {G : List Nat} (h : Jd w0 w jp p gs S J G) (s : Nat) (hs : s < 8) (x : It) (e : En) (t : St) (hfe : e.fits) (hrt : Rt e) (hfs : t.fits) (hsr : SRt t) (hpn : pN e.opn = 4 + s) (hhn : hN t.opn = 12 + s) (hx : x.entry ≠ e) (hk : x.kind = 2) (hst : x.stub ≠ t) :
  Calls Tryd.prog 41 #[.int .i64 (s : Int), .agg x.cells, .agg e.cells, .agg t.cells] w (LF w0 w jp p gs S J G [lV (12 + s), lE e, lS t]) := by
 have HZE : Hid ((Tryd.prog.info? 28).map (·.size) = some e.cells.size) := esize
 have HZS : Hid ((Tryd.prog.info? 42).map (·.size) = some t.cells.size) := stsize
 obtain ⟨i0, hi0, hi1, hi2⟩ := layInfo
 have HPE : Hid (∀ g W, Calls Tryd.prog 45 #[.int .i64 (s : Int), .func (.func 76) #[] #[.pointer (some ⟨g, 0, none⟩)]] W (VE W (.agg #[.int .i64 ((4 + s : Nat) : Int), feV g]))) := hid fun g W => prep_e s g W hs
 have HHE : Hid (∀ g W, Calls Tryd.prog 43 #[.int .i64 (s : Int), .func (.func 78) #[] #[.pointer (some ⟨g, 0, none⟩)]] W (VE W (.agg #[.int .i64 ((12 + s : Nat) : Int), fsV g]))) := hid fun g W => head_s s g W hs
 have HHV : Hid (∀ W, Calls Tryd.prog 43 #[.int .i64 (s : Int), .func (.func 44) #[] #[]] W (VE W (.agg (Ly.v (12 + s)).cells.toArray))) := hid fun W => head_v s W hs
 have HWS : Hid (∀ W, Calls Tryd.prog 42 #[.agg x.cells] W fun e w' => e = .returned (.bool (decide (x.kind = 1 ∨ x.kind = 2))) ∧ Below W.heap.size W w') := hid fun W => was_any x W
 have HPN := hid hpn
 have HHN := hid hhn
 have HFE := hid hfe
 have HRT := hid hrt
 have HFS := hid hfs
 have HSR := hid hsr
 have HI := hid h
 have HEE : Hid (false = true ↔ x.entry = e) := hid (by simp [hx])
 have HKK := hid hk
 have HES := hid (show decide (x.stub = t) = false by simp [hst])
 clear hk hst
 clear hx
 clear h hs hfe hrt hfs hsr hpn hhn
 go_enter Tryd.func41, Tryd.ntmps41
 go_wp2_with fail
 refine name_wp (fun w1 hw1 => ?_)
 have hbe : Below w.heap.size w w1 := by rw [hw1]; exact (((Below.refl _ _).alloc (Nat.le_refl _) _).alloc (by simp) _).alloc (by simp; omega) _
 have hsz : w1.heap.size = w.heap.size + 3 := by rw [hw1]; simp
 have RI : Hid (Row w1 w.heap.size 44 x.cells.toList) := hid (by rw [hw1]; exact ((Row.new w _ _).alloc _).alloc _)
 have RE : Hid (Row w1 (w.heap.size + 1) 28 e.cells.toList) := hid (by rw [hw1]; exact Row.alloc (w := (w.alloc _).alloc _) (alloc2_new _ _ _) _)
 have RS : Hid (Row w1 (w.heap.size + 2) 42 t.cells.toList) := hid (by rw [hw1]; exact alloc3_new _ _ _ _ _)
 have H1 := hid (HI.out.addl hbe [w.heap.size + 2, w.heap.size + 1, w.heap.size] (by simp; omega))
 have E1 := hid (HI.out.new hbe).2
 clear hw1 hbe hsz
 try simp only [Act.put, U1,U2,U3,U4,U5,U6]
 refine wp_region_held_drew (S := fun W => Jd w0 W jp p gs S J ([w.heap.size + 2, w.heap.size + 1, w.heap.size] ++ G) ∧ Ek w1 W ([w.heap.size + 2, w.heap.size + 1, w.heap.size] ++ G)) (by kernel_rfl) (⟨H1.out.drew, fun _ _ => rfl⟩) (fun hH => ?_)
 refine tk_ (i := 0) (v := .int .i64 (s : Int)) rfl (Or.inl ⟨by kernel_rfl, fun w' _ => by kernel_rfl⟩) hH ?_
 simp only [Act.put, U1, U3, U4, U5, U6]
 refine tk_ (i := 1) (v := .agg e.cells) rfl ?_ hH ?_
 ·
  refine yieldsIf_load_mid ?_ 28 (.tmp 6) ?_ (w.heap.size + 1) 0 ?_ (Array.toList e.cells) _ (fun W hW => Row.range (hW.2.row RE.out (by simp))) Tryd.underlying28 rfl (by exact HZE.out)
  all_goals kernel_rfl
 simp only [Act.put, U1,U2,U3,U4,U5,U6]
 refine tk_ (i := 4) (v := .int .i64 (s : Int)) rfl (Or.inl ⟨by kernel_rfl, fun w' _ => by kernel_rfl⟩) hH ?_
 simp only [Act.put, U1,U2,U3,U4,U5,U6]
 refine tk_ (i := 5) (v := .agg t.cells) rfl ?_ hH ?_
 ·
  refine yieldsIf_load_mid ?_ 42 (.tmp 7) ?_ (w.heap.size + 2) 0 ?_ (Array.toList t.cells) _ (fun W hW => Row.range (hW.2.row RS.out (by simp))) Tryd.underlying42 rfl (by exact HZS.out)
  all_goals kernel_rfl
 simp only [Act.put, U1,U2,U3,U4,U5,U6]
 refine wpAnyH_ready (rs := [2]) (by kernel_rfl) (by simp) ?_
 refine AllReadyH.cons rfl (fun K hK => ?_) AllReadyH.nil
 go_simp
 go_at_call 63
 refine (we_row _ _).mono ?_
 rintro x w2 ⟨rfl, hr2, hb2⟩
 go_wp2_with fail
 have H2 := hid (H1.out.drew.add hb2 (g := w1.heap.size) (Nat.le_refl _) hr2.lt)
 have K2 : Hid (Ek w1 w2 _) := hid (H1.out.drew.new hb2).2
 have R2 := hid hr2
 clear hr2 hb2
 refine hK.out _ _ (⟨H2.out.tail, K2.out⟩) (fun hH => ?_)
 clear hK K
 try simp only [Act.put, U1,U2,U3,U4,U5,U6]
 refine wpAnyH_ready (rs := [3]) (by kernel_rfl) (by simp) ?_
 refine AllReadyH.cons rfl (fun K hK => ?_) AllReadyH.nil
 go_simp
 go_at_call 45
 refine (HPE.out _ _).mono ?_
 rintro x w3 ⟨rfl, hb3⟩
 go_wp2_with fail
 have H3 := hid (H2.out.new hb3).1
 have K3 : Hid (Ek w1 w3 _) := hid (K2.out.trans (H2.out.new hb3).2.tail)
 have R3 := hid ((H2.out.new hb3).2.row R2.out (by simp))
 clear hb3
 refine hK.out _ _ (⟨H3.out.tail, K3.out⟩) (fun hH => ?_)
 clear hK K
 try simp only [Act.put, U1,U2,U3,U4,U5,U6]
 refine wpAnyH_ready (rs := [6]) (by kernel_rfl) (by simp) ?_
 refine AllReadyH.cons rfl (fun K hK => ?_) AllReadyH.nil
 go_simp
 go_at_call 64
 refine (ws_row _ _).mono ?_
 rintro x w4 ⟨rfl, hr4, hb4⟩
 go_wp2_with fail
 have q4 := (H3.out.new hb4).2
 have H4 := hid (H3.out.add hb4 (g := w3.heap.size) (Nat.le_refl _) hr4.lt)
 have K4 : Hid (Ek w1 w4 _) := hid (K3.out.trans q4.tail)
 have R4 := hid (q4.row R3.out (by simp))
 have Q4 := hid hr4
 clear q4 hr4 hb4
 refine hK.out _ _ (⟨H4.out.tail.tail, K4.out⟩) (fun hH => ?_)
 clear hK K
 try simp only [Act.put, U1,U2,U3,U4,U5,U6]
 refine wpAnyH_ready (rs := [7]) (by kernel_rfl) (by simp) ?_
 refine AllReadyH.cons rfl (fun K hK => ?_) AllReadyH.nil
 go_simp
 go_at_call 43
 refine (HHE.out _ _).mono ?_
 rintro x w5 ⟨rfl, hb5⟩
 go_wp2_with fail
 have H5 := hid (H4.out.new hb5).1
 have K5 : Hid (Ek w1 w5 _) := hid (K4.out.trans (H4.out.new hb5).2.tail.tail)
 have R5 := hid ((H4.out.new hb5).2.row R4.out (by simp))
 have Q5 := hid ((H4.out.new hb5).2.row Q4.out (by simp))
 clear hb5
 refine hK.out _ _ (⟨H5.out.tail.tail, K5.out⟩) (fun hH => ?_)
 clear hK K
 try simp only [Act.put, U1,U2,U3,U4,U5,U6]
 refine wpAnyH_ready (rs := [8]) (by kernel_rfl) (by simp) ?_
 refine AllReadyH.cons rfl (fun K hK => ?_) AllReadyH.nil
 rw [if_pos (by kernel_rfl)]
 refine wpl_slice2 (.tmp 13) (.tmp 17) rfl (.int .i64 ((4 + s : Nat) : Int)) (feV w1.heap.size) (.int .i64 ((12 + s : Nat) : Int)) (fsV w3.heap.size) (by kernel_rfl) (by kernel_rfl) Tryd.underlying82 i0 hi0 hi1 hi2 ?_
 have q6 := H5.out.alloc (.cells #[.int .i64 ((4 + s : Nat) : Int), feV w1.heap.size, .int .i64 ((12 + s : Nat) : Int), fsV w3.heap.size] 87)
 have B6 := hid (Row.new w5 87 #[.int .i64 ((4 + s : Nat) : Int), feV w1.heap.size, .int .i64 ((12 + s : Nat) : Int), fsV w3.heap.size])
 have H6 := hid q6.1
 have K6 : Hid (Ek w1 _ _) := hid (K5.out.trans q6.2.tail.tail)
 have R6 := hid (q6.2.row R5.out (by simp))
 have Q6 := hid (q6.2.row Q5.out (by simp))
 clear q6
 refine hK.out _ _ (⟨H6.out.tail.tail.tail, K6.out⟩) (fun hH => ?_)
 clear hK K
 try simp only [Act.put, U1,U2,U3,U4,U5,U6]
 refine tk_ (i := 9) (v := .slice (some ⟨w5.heap.size, 0, none⟩) 2 2) rfl (Or.inl ⟨by kernel_rfl, fun w' _ => by kernel_rfl⟩) hH ?_
 simp only [Act.put, U1,U2,U3,U4,U5,U6]
 refine wpAnyH_done (by kernel_rfl) ?_ _
 try simp only [Act.put, U1,U2,U3,U4,U5,U6]
 clear hH
 generalize hw6 : w5.alloc _ = w6 at *
 clear hw6
 have I6 := hid (K6.out.row RI.out (by simp))
 have F6 := hid (K6.out.row RE.out (by simp))
 have S6 := hid (K6.out.row RS.out (by simp))
 have A6 : Hid (LyAt w6 (w5.heap.size :: w3.heap.size :: w1.heap.size :: ([w.heap.size + 2, w.heap.size + 1, w.heap.size] ++ G)) (some ⟨w5.heap.size, 0, none⟩) [.e e w1.heap.size, .s t w3.heap.size]) := hid (LyAt.two (by show Row w6 _ _ [.int .i64 (pN e.opn : Int), feV w1.heap.size, .int .i64 (hN t.opn : Int), fsV w3.heap.size]; rw [HPN.out, HHN.out]; exact B6.out) (by simp) ⟨by simp, R6.out, HFE.out, HRT.out⟩ ⟨by simp, Q6.out, HFS.out, HSR.out⟩)
 have E6 := hid (E1.out.trans (K6.out.sub (fun g hg => List.mem_append_right _ hg)))
 clear K6 R6 Q6 B6 K5 K4 K3 K2 R2 R3 R4 Q4 R5 Q5 H2 H3 H4 H5
 have ck : w6.cell? ⟨w.heap.size, 0, none⟩ = some (.int .i64 x.kind) := I6.out.at_ 0 _ rfl
 rw [HKK.out] at ck
 rw [HKK.out] at HWS
 go_wp2_with (first
  | (refine wpl_load_midw rfl 28 (.tmp 20) rfl w.heap.size 6 rfl x.entry.cells.toList _ (item_entry x I6.out) Tryd.underlying28 rfl (by exact esize) ?_)
  | (refine wpList_load_row rfl 28 (.tmp 6) rfl (w.heap.size + 1) rfl 28 e.cells (0, 0) _ F6.out.arr Tryd.underlying28 rfl HZE.out ?_)
  | (refine wpl_eqe2 rfl x.entry e false (.tmp 21) (.tmp 22) _ rfl rfl rfl HEE ?_)
  | (refine wpl_load_midw (by kernel_rfl) 42 (.tmp 29) rfl w.heap.size 1 rfl x.stub.cells.toList _ (item_stub x I6.out) Tryd.underlying42 rfl (by exact stsize) ?_)
  | (refine wpl_load_want (by kernel_rfl) 42 (.tmp 7) rfl (w.heap.size + 2) rfl 42 t.cells (0, 0) _ S6.out.arr Tryd.underlying42 rfl HZS.out ?_)
  | (refine wpl_eqs (by kernel_rfl) x.stub t false (.tmp 30) (.tmp 31) _ rfl rfl rfl HES ?_)
  | (refine wpList_load_row rfl 44 (.tmp 5) rfl w.heap.size rfl 44 x.cells (0, 0) _ I6.out.arr Tryd.underlying44 rfl itemSize13 ?_)
  | (go_at_call 42; refine (HWS.out _).mono ?_; rintro y w7 ⟨rfl, hb7⟩; have H7 := hid (H6.out.new hb7).1; have K7 := hid (H6.out.new hb7).2; have A7 := hid (A6.out.ek K7.out); have E7 := hid (E6.out.trans (K7.out.sub (fun g hg => by simp [hg]))); clear hb7)
  | (go_at_call 43; refine (HHV.out _).mono ?_; rintro y w8 ⟨rfl, hb8⟩; have H8 := hid (H7.out.new hb8).1; have K8 := hid (H7.out.new hb8).2; have A8 := hid (A7.out.ek K8.out); have E8 := hid (E7.out.trans (K8.out.sub (fun g hg => by simp [hg]))); clear hb8)
  | ((with_reducible show wpList _ _ _ ({ dst := some 41, op := _, type := _, pos := _, after := _, guard := _ } :: _) _ _); refine wpl_slice1 rfl 82 87 (.tmp 40) rfl i0 _ 2 Tryd.underlying82 hi0 hi1 hi2 (by decide) (by decide) (Ly.v (12 + s)).cells rfl rfl ?_; have q9 := JO.made H8.out (.v (12 + s)) trivial; have O9 := hid q9.1; have A9 := hid (A8.out.ek q9.2); have E9 := hid (E8.out.trans (q9.2.sub (fun g hg => by simp [hg]))); clear q9)
  | ((with_reducible show wpList _ _ _ ({ dst := some 43, op := _, type := _, pos := _, after := _, guard := _ } :: _) _ _); refine wpl_app_lys rfl (.tmp 41) (.tmp 42) rfl rfl [.e e w1.heap.size, .s t w3.heap.size] w5.heap.size 2 2 rfl rfl (by decide) A9.out O9.out (by simp) 3 rfl ?_; intro g10 q10 w10 hj10 he10; have O10 := hid hj10; have E10 := hid (E9.out.trans (he10.sub (fun g hg => by simp [hg]))); clear hj10 he10))
 obtain ⟨X, hX, hA⟩ := O10.out.at rfl
 go_ret
 exact ⟨X ++ [w5.heap.size, w3.heap.size, w1.heap.size, w.heap.size + 2, w.heap.size + 1, w.heap.size], _, q10, [.v (12 + s), .e e w1.heap.size, .s t w3.heap.size], rfl, by simpa using hX, by simpa using hA, rfl, by simp, E10.out⟩
set_option maxHeartbeats 4000000 in
theorem for_both {w0 w : World} {jp p gs : Nat} {S : Sp} {J : Jn} {G : List Nat} (h : Jd w0 w jp p gs S J G) (s : Nat) (hs : s < 8) (x : It) (e : En) (t : St) (hfe : e.fits) (hrt : Rt e) (hfs : t.fits) (hsr : SRt t) (hpn : pN e.opn = 4 + s) (hhn : hN t.opn = 12 + s) (hx : x.entry ≠ e) (hk : x.kind ≠ 1) (hk2 : x.kind ≠ 2) :
  Calls Tryd.prog 41 #[.int .i64 (s : Int), .agg x.cells, .agg e.cells, .agg t.cells] w (LF w0 w jp p gs S J G [lE e, lS t]) := by
 have HZE : Hid ((Tryd.prog.info? 28).map (·.size) = some e.cells.size) := esize
 have HZS : Hid ((Tryd.prog.info? 42).map (·.size) = some t.cells.size) := stsize
 obtain ⟨i0, hi0, hi1, hi2⟩ := layInfo
 have HPE : Hid (∀ g W, Calls Tryd.prog 45 #[.int .i64 (s : Int), .func (.func 76) #[] #[.pointer (some ⟨g, 0, none⟩)]] W (VE W (.agg #[.int .i64 ((4 + s : Nat) : Int), feV g]))) := hid fun g W => prep_e s g W hs
 have HHE : Hid (∀ g W, Calls Tryd.prog 43 #[.int .i64 (s : Int), .func (.func 78) #[] #[.pointer (some ⟨g, 0, none⟩)]] W (VE W (.agg #[.int .i64 ((12 + s : Nat) : Int), fsV g]))) := hid fun g W => head_s s g W hs
 have HHV : Hid (∀ W, Calls Tryd.prog 43 #[.int .i64 (s : Int), .func (.func 44) #[] #[]] W (VE W (.agg (Ly.v (12 + s)).cells.toArray))) := hid fun W => head_v s W hs
 have HWS : Hid (∀ W, Calls Tryd.prog 42 #[.agg x.cells] W fun e w' => e = .returned (.bool (decide (x.kind = 1 ∨ x.kind = 2))) ∧ Below W.heap.size W w') := hid fun W => was_any x W
 have HPN := hid hpn
 have HHN := hid hhn
 have HFE := hid hfe
 have HRT := hid hrt
 have HFS := hid hfs
 have HSR := hid hsr
 have HI := hid h
 have HEE : Hid (false = true ↔ x.entry = e) := hid (by simp [hx])
 have HKK := hid (show (x.kind == 2) = false by simpa using hk2)
 have HDD := hid (show decide (x.kind = 1 ∨ x.kind = 2) = false by simp [hk, hk2])
 clear hx hk hk2 HHV
 clear h hs hfe hrt hfs hsr hpn hhn
 go_enter Tryd.func41, Tryd.ntmps41
 go_wp2_with fail
 refine name_wp (fun w1 hw1 => ?_)
 have hbe : Below w.heap.size w w1 := by rw [hw1]; exact (((Below.refl _ _).alloc (Nat.le_refl _) _).alloc (by simp) _).alloc (by simp; omega) _
 have hsz : w1.heap.size = w.heap.size + 3 := by rw [hw1]; simp
 have RI : Hid (Row w1 w.heap.size 44 x.cells.toList) := hid (by rw [hw1]; exact ((Row.new w _ _).alloc _).alloc _)
 have RE : Hid (Row w1 (w.heap.size + 1) 28 e.cells.toList) := hid (by rw [hw1]; exact Row.alloc (w := (w.alloc _).alloc _) (alloc2_new _ _ _) _)
 have RS : Hid (Row w1 (w.heap.size + 2) 42 t.cells.toList) := hid (by rw [hw1]; exact alloc3_new _ _ _ _ _)
 have H1 := hid (HI.out.addl hbe [w.heap.size + 2, w.heap.size + 1, w.heap.size] (by simp; omega))
 have E1 := hid (HI.out.new hbe).2
 clear hw1 hbe hsz
 try simp only [Act.put, U1,U2,U3,U4,U5,U6]
 refine wp_region_held_drew (S := fun W => Jd w0 W jp p gs S J ([w.heap.size + 2, w.heap.size + 1, w.heap.size] ++ G) ∧ Ek w1 W ([w.heap.size + 2, w.heap.size + 1, w.heap.size] ++ G)) (by kernel_rfl) (⟨H1.out.drew, fun _ _ => rfl⟩) (fun hH => ?_)
 refine tk_ (i := 0) (v := .int .i64 (s : Int)) rfl (Or.inl ⟨by kernel_rfl, fun w' _ => by kernel_rfl⟩) hH ?_
 simp only [Act.put, U1, U3, U4, U5, U6]
 refine tk_ (i := 1) (v := .agg e.cells) rfl ?_ hH ?_
 ·
  refine yieldsIf_load_mid ?_ 28 (.tmp 6) ?_ (w.heap.size + 1) 0 ?_ (Array.toList e.cells) _ (fun W hW => Row.range (hW.2.row RE.out (by simp))) Tryd.underlying28 rfl (by exact HZE.out)
  all_goals kernel_rfl
 simp only [Act.put, U1,U2,U3,U4,U5,U6]
 refine tk_ (i := 4) (v := .int .i64 (s : Int)) rfl (Or.inl ⟨by kernel_rfl, fun w' _ => by kernel_rfl⟩) hH ?_
 simp only [Act.put, U1,U2,U3,U4,U5,U6]
 refine tk_ (i := 5) (v := .agg t.cells) rfl ?_ hH ?_
 ·
  refine yieldsIf_load_mid ?_ 42 (.tmp 7) ?_ (w.heap.size + 2) 0 ?_ (Array.toList t.cells) _ (fun W hW => Row.range (hW.2.row RS.out (by simp))) Tryd.underlying42 rfl (by exact HZS.out)
  all_goals kernel_rfl
 simp only [Act.put, U1,U2,U3,U4,U5,U6]
 refine wpAnyH_ready (rs := [2]) (by kernel_rfl) (by simp) ?_
 refine AllReadyH.cons rfl (fun K hK => ?_) AllReadyH.nil
 go_simp
 go_at_call 63
 refine (we_row _ _).mono ?_
 rintro x w2 ⟨rfl, hr2, hb2⟩
 go_wp2_with fail
 have H2 := hid (H1.out.drew.add hb2 (g := w1.heap.size) (Nat.le_refl _) hr2.lt)
 have K2 : Hid (Ek w1 w2 _) := hid (H1.out.drew.new hb2).2
 have R2 := hid hr2
 clear hr2 hb2
 refine hK.out _ _ (⟨H2.out.tail, K2.out⟩) (fun hH => ?_)
 clear hK K
 try simp only [Act.put, U1,U2,U3,U4,U5,U6]
 refine wpAnyH_ready (rs := [3]) (by kernel_rfl) (by simp) ?_
 refine AllReadyH.cons rfl (fun K hK => ?_) AllReadyH.nil
 go_simp
 go_at_call 45
 refine (HPE.out _ _).mono ?_
 rintro x w3 ⟨rfl, hb3⟩
 go_wp2_with fail
 have H3 := hid (H2.out.new hb3).1
 have K3 : Hid (Ek w1 w3 _) := hid (K2.out.trans (H2.out.new hb3).2.tail)
 have R3 := hid ((H2.out.new hb3).2.row R2.out (by simp))
 clear hb3
 refine hK.out _ _ (⟨H3.out.tail, K3.out⟩) (fun hH => ?_)
 clear hK K
 try simp only [Act.put, U1,U2,U3,U4,U5,U6]
 refine wpAnyH_ready (rs := [6]) (by kernel_rfl) (by simp) ?_
 refine AllReadyH.cons rfl (fun K hK => ?_) AllReadyH.nil
 go_simp
 go_at_call 64
 refine (ws_row _ _).mono ?_
 rintro x w4 ⟨rfl, hr4, hb4⟩
 go_wp2_with fail
 have q4 := (H3.out.new hb4).2
 have H4 := hid (H3.out.add hb4 (g := w3.heap.size) (Nat.le_refl _) hr4.lt)
 have K4 : Hid (Ek w1 w4 _) := hid (K3.out.trans q4.tail)
 have R4 := hid (q4.row R3.out (by simp))
 have Q4 := hid hr4
 clear q4 hr4 hb4
 refine hK.out _ _ (⟨H4.out.tail.tail, K4.out⟩) (fun hH => ?_)
 clear hK K
 try simp only [Act.put, U1,U2,U3,U4,U5,U6]
 refine wpAnyH_ready (rs := [7]) (by kernel_rfl) (by simp) ?_
 refine AllReadyH.cons rfl (fun K hK => ?_) AllReadyH.nil
 go_simp
 go_at_call 43
 refine (HHE.out _ _).mono ?_
 rintro x w5 ⟨rfl, hb5⟩
 go_wp2_with fail
 have H5 := hid (H4.out.new hb5).1
 have K5 : Hid (Ek w1 w5 _) := hid (K4.out.trans (H4.out.new hb5).2.tail.tail)
 have R5 := hid ((H4.out.new hb5).2.row R4.out (by simp))
 have Q5 := hid ((H4.out.new hb5).2.row Q4.out (by simp))
 clear hb5
 refine hK.out _ _ (⟨H5.out.tail.tail, K5.out⟩) (fun hH => ?_)
 clear hK K
 try simp only [Act.put, U1,U2,U3,U4,U5,U6]
 refine wpAnyH_ready (rs := [8]) (by kernel_rfl) (by simp) ?_
 refine AllReadyH.cons rfl (fun K hK => ?_) AllReadyH.nil
 rw [if_pos (by kernel_rfl)]
 refine wpl_slice2 (.tmp 13) (.tmp 17) rfl (.int .i64 ((4 + s : Nat) : Int)) (feV w1.heap.size) (.int .i64 ((12 + s : Nat) : Int)) (fsV w3.heap.size) (by kernel_rfl) (by kernel_rfl) Tryd.underlying82 i0 hi0 hi1 hi2 ?_
 have q6 := H5.out.alloc (.cells #[.int .i64 ((4 + s : Nat) : Int), feV w1.heap.size, .int .i64 ((12 + s : Nat) : Int), fsV w3.heap.size] 87)
 have B6 := hid (Row.new w5 87 #[.int .i64 ((4 + s : Nat) : Int), feV w1.heap.size, .int .i64 ((12 + s : Nat) : Int), fsV w3.heap.size])
 have H6 := hid q6.1
 have K6 : Hid (Ek w1 _ _) := hid (K5.out.trans q6.2.tail.tail)
 have R6 := hid (q6.2.row R5.out (by simp))
 have Q6 := hid (q6.2.row Q5.out (by simp))
 clear q6
 refine hK.out _ _ (⟨H6.out.tail.tail.tail, K6.out⟩) (fun hH => ?_)
 clear hK K
 try simp only [Act.put, U1,U2,U3,U4,U5,U6]
 refine tk_ (i := 9) (v := .slice (some ⟨w5.heap.size, 0, none⟩) 2 2) rfl (Or.inl ⟨by kernel_rfl, fun w' _ => by kernel_rfl⟩) hH ?_
 simp only [Act.put, U1,U2,U3,U4,U5,U6]
 refine wpAnyH_done (by kernel_rfl) ?_ _
 try simp only [Act.put, U1,U2,U3,U4,U5,U6]
 clear hH
 generalize hw6 : w5.alloc _ = w6 at *
 clear hw6
 have I6 := hid (K6.out.row RI.out (by simp))
 have F6 := hid (K6.out.row RE.out (by simp))
 have S6 := hid (K6.out.row RS.out (by simp))
 have A6 : Hid (LyAt w6 (w5.heap.size :: w3.heap.size :: w1.heap.size :: ([w.heap.size + 2, w.heap.size + 1, w.heap.size] ++ G)) (some ⟨w5.heap.size, 0, none⟩) [.e e w1.heap.size, .s t w3.heap.size]) := hid (LyAt.two (by show Row w6 _ _ [.int .i64 (pN e.opn : Int), feV w1.heap.size, .int .i64 (hN t.opn : Int), fsV w3.heap.size]; rw [HPN.out, HHN.out]; exact B6.out) (by simp) ⟨by simp, R6.out, HFE.out, HRT.out⟩ ⟨by simp, Q6.out, HFS.out, HSR.out⟩)
 have E6 := hid (E1.out.trans (K6.out.sub (fun g hg => List.mem_append_right _ hg)))
 clear K6 R6 Q6 B6 K5 K4 K3 K2 R2 R3 R4 Q4 R5 Q5 H2 H3 H4 H5
 have ck : w6.cell? ⟨w.heap.size, 0, none⟩ = some (.int .i64 x.kind) := I6.out.at_ 0 _ rfl
 rw [HDD.out] at HWS
 have hkk := HKK.out
 go_wp2_with (first
  | (refine wpl_load_midw rfl 28 (.tmp 20) rfl w.heap.size 6 rfl x.entry.cells.toList _ (item_entry x I6.out) Tryd.underlying28 rfl (by exact esize) ?_)
  | (refine wpList_load_row rfl 28 (.tmp 6) rfl (w.heap.size + 1) rfl 28 e.cells (0, 0) _ F6.out.arr Tryd.underlying28 rfl HZE.out ?_)
  | (refine wpl_eqe2 rfl x.entry e false (.tmp 21) (.tmp 22) _ rfl rfl rfl HEE ?_)
  | (refine wpList_load_row rfl 44 (.tmp 5) rfl w.heap.size rfl 44 x.cells (0, 0) _ I6.out.arr Tryd.underlying44 rfl itemSize13 ?_)
  | (go_at_call 42; refine (HWS.out _).mono ?_; rintro y w7 ⟨rfl, hb7⟩; have H7 := hid (H6.out.new hb7).1; have K7 := hid (H6.out.new hb7).2; have A7 := hid (A6.out.ek K7.out); have E7 := hid (E6.out.trans (K7.out.sub (fun g hg => by simp [hg]))); clear hb7))
 go_ret
 exact ⟨[w5.heap.size, w3.heap.size, w1.heap.size, w.heap.size + 2, w.heap.size + 1, w.heap.size], _, 2, [.e e w1.heap.size, .s t w3.heap.size], rfl, H7.out, A7.out, rfl, by simp, E7.out⟩
end Go.Proofs.YtafbeepacncooaaDoor
/-
  The walk of package journal's Put.
-/
namespace Go.Proofs.YtafbeepacncooaaDoor
open Go.RowKit
set_option maxRecDepth 10000

theorem wf_entry {n : Int} {x : It} (h : WfI n x) {e : En} (hr : Rt e) : x.entry = e → x.kind = 1 ∧ x = ⟨1, stubS e, e⟩ := by
 intro he
 rcases h with rfl | ⟨y, _, _, _, rfl⟩ | ⟨s, _, _, _, rfl⟩ | rfl
 ·
  rw [← he] at hr
  exact absurd hr (by show ¬ Rt en0; unfold Rt en0; decide)
 ·
  obtain rfl : y = e := he
  exact ⟨rfl, rfl⟩
 ·
  rw [← he] at hr
  exact absurd hr (by show ¬ Rt en0; unfold Rt en0; decide)
 ·
  rw [← he] at hr
  exact absurd hr (by show ¬ Rt en0; unfold Rt en0; decide)
theorem rt_body {e : En} (h : Rt e) : e.body.size ≤ 200 := by
 unfold Rt at h
 omega
open Classical in
/-- what Put lays -/
noncomputable def putL13 (x : It) (e : En) : List Lay := if x.entry = e then [] else putP x e
theorem for_any {w0 w : World} {jp p gs : Nat} {S : Sp} {J : Jn} {G : List Nat} (h : Jd w0 w jp p gs S J G) (s : Nat) (hs : s < 8) (x : It) (e : En) (he : e.fits) (hr : Rt e) (hn : e.opn % 8 = s) (_hx : WfI e.opn x) :
  Calls Tryd.prog 41 #[.int .i64 (s : Int), .agg x.cells, .agg e.cells, .agg (stubS e).cells] w (LF w0 w jp p gs S J G (putL13 x e)) := by
 have hpn : pN e.opn = 4 + s := by unfold pN; omega
 have hhn : hN e.opn = 12 + s := by unfold hN; omega
 have hhs : hN (stubS e).opn = 12 + s := by rw [show (stubS e).opn = e.opn by rw [stubS_rt hr]]; exact hhn
 unfold putL13
 by_cases h1 : x.entry = e
 ·
  rw [if_pos h1]
  exact for_same h s hs x e (stubS e) he hr (stubS_fits he) (stubS_ok hr) hpn hhs h1
 ·
  rw [if_neg h1]
  unfold putP
  by_cases k2 : x.kind = 2
  ·
   by_cases hst : x.stub = stubS e
   ·
    rw [if_neg (fun q => q.elim (fun q => by rw [q] at k2; cases k2) (fun q => q.2 hst)), if_pos ⟨k2, hst⟩]
    exact for_one h s hs x e (stubS e) he hr (stubS_fits he) (stubS_ok hr) hpn hhs h1 k2 hst
   ·
    rw [if_pos (.inr ⟨k2, hst⟩), if_neg (fun q => hst q.2), hhn]
    exact for_other h s hs x e (stubS e) he hr (stubS_fits he) (stubS_ok hr) hpn hhs h1 k2 hst
  ·
   by_cases k1 : x.kind = 1
   ·
    rw [if_pos (.inl k1), if_neg (fun q => k2 q.1), hhn]
    exact for_held h s hs x e (stubS e) he hr (stubS_fits he) (stubS_ok hr) hpn hhs h1 k1
   ·
    rw [if_neg (fun q => q.elim k1 (fun q => k2 q.1)), if_neg (fun q => k2 q.1)]
    exact for_both h s hs x e (stubS e) he hr (stubS_fits he) (stubS_ok hr) hpn hhs h1 k1 k2
theorem putP_len (x : It) (e : En) : (putP x e).length ≤ 3 := by
 unfold putP
 rw [List.length_append, List.length_append]
 have h1 : ∀ (c : Prop) [Decidable c] (x : Lay), (if c then [x] else []).length ≤ 1 := fun c _ x => by split <;> simp
 have h2 : ∀ (c : Prop) [Decidable c] (x : Lay), (if c then [] else [x]).length ≤ 1 := fun c _ x => by split <;> simp
 exact Nat.add_le_add (Nat.add_le_add (h1 _ _) (Nat.le_refl _)) (h2 _ _)
theorem put_eq {S : Sp} {J : Jn} (hw : JWf J) {e : En} (hr : Rt e) (hh : J.has e.opn) : putJ S J e = if (layL S (putL13 (J.item e.opn) e)).2 = 0 then ((layL S (putL13 (J.item e.opn) e)).1, J.set e.opn ⟨1, stubS e, e⟩, 0) else ((layL S (putL13 (J.item e.opn) e)).1, J, (layL S (putL13 (J.item e.opn) e)).2) := by
 have hi := hw.it _ hh
 unfold putJ
 rw [if_neg (not_not_intro hr), if_neg (not_not_intro hh)]
 unfold putL13
 by_cases he : (J.item e.opn).entry = e
 ·
  obtain ⟨k1, k2⟩ := wf_entry hi hr he
  rw [if_pos he, if_pos ⟨k1, he⟩]
  show _ = if (S, (0 : Int)).2 = 0 then (S, J.set e.opn ⟨1, stubS e, e⟩, 0) else _
  rw [if_pos rfl, ← k2, jset_same hw.len hh]
 ·
  rw [if_neg he, if_neg (fun q => he q.2)]
theorem stub_zero (e : En) : stubS e = st0 ↔ ¬ Rt e := by
 refine ⟨fun h hr => ?_, fun h => by unfold stubS; rw [if_neg h]⟩
 have := stubS_ok hr
 rw [h] at this
 exact st0_not this
set_option maxHeartbeats 4000000 in
theorem put_formj {w0 w : World} {jp p gs : Nat} {S : Sp} {J : Jn} {G : List Nat} (h : Jd w0 w jp p gs S J G) (_hw : JWf J) (e : En) (hf : e.fits) (hr : ¬ Rt e) (_hc : S.count ≤ 900000) :
  Calls Tryd.prog 19 #[.pointer (some ⟨jp, 0, none⟩), .agg e.cells] w (JC w0 w jp p gs S J G (.int .i64 4)) := by
 have HZE := hid esize
 have HZS := hid stsize
 have HSE : Hid (∀ t : En, t.cells.size = 9) := hid fun t => rfl
 have HSS : Hid (∀ t : St, t.cells.size = 5) := hid fun t => rfl
 have HOS : Hid (∀ t : St, t.cells.all (·.oneCell') = true) := hid stubs_one
 have HST : Hid (∀ W, Fd W → Calls Tryd.prog 13 #[.agg e.cells] W (VE W (.agg (stubS e).cells))) := hid fun W hW => sstub_any e hf W hW
 have HA := hid (h.alloc (.cells e.cells 28)).1
 have HK := hid (h.alloc (.cells e.cells 28)).2
 have HRA : Hid (Row (w.alloc (.cells e.cells 28)) w.heap.size 28 e.cells.toList) := hid (Row.new _ _ _)
 have hz := (stub_zero e).2 hr
 generalize stubS e = t at *
 have HEQ := hid (show decide (t = st0) = true by simp [hz])
 clear h _hw hf hr _hc hz
 go_enter Tryd.func19, Tryd.ntmps19
 go_wp2_with (first
  | (refine wpList_load_row rfl 28 (.tmp 3) rfl w.heap.size rfl 28 e.cells (0, 0) _ HRA.out.arr Tryd.underlying28 rfl (by rw [HSE.out]; exact HZE.out) ?_)
  | (go_at_call 13; refine (HST.out _ HA.out.fd).mono ?_; rintro x w1 ⟨rfl, hb1⟩; have H1 := hid (HA.out.new hb1).1; have K1 := hid (HA.out.new hb1).2; have R1 := hid (K1.out.row HRA.out (by simp)); have E1 := hid (HK.out.trans K1.out.tail); clear hb1)
  | (refine wpl_store_st rfl (.tmp 5) (.tmp 11) rfl (n := 5) HZS.out w1.heap.size st0.cells t.cells rfl rfl (Row.new _ _ _) ?_ (hid rfl) (hid (HSS.out _)) (hid (HOS.out _)); intro w2 hr2 hg2; obtain ⟨q1, q2⟩ := H1.out.one hg2; have H2 := hid q1; have E2 := hid (E1.out.trans q2.tail); have R2 := hid (q2.row R1.out (by simp)); have T2 := hid hr2; have c1 : w2.cell? ⟨w.heap.size, 1, none⟩ = some (.int .i64 e.opn) := R2.out.at_ 1 _ rfl; clear q1 q2 hr2 hg2)
  | (refine wpList_load_row rfl 42 (.tmp 5) rfl w1.heap.size rfl 42 t.cells (0, 0) _ T2.out.arr Tryd.underlying42 rfl (by rw [HSS.out]; exact HZS.out) ?_)
  | (refine wpl_eqs rfl t st0 _ (.tmp 12) (.tmp 13) _ rfl rfl rfl HEQ ?_))
 go_ret
 exact ⟨rfl, H2.out.tail.tail, E2.out⟩
set_option maxHeartbeats 4000000 in
theorem put_argj {w0 w : World} {jp p gs : Nat} {S : Sp} {J : Jn} {G : List Nat} (h : Jd w0 w jp p gs S J G) (hw : JWf J) (e : En) (hf : e.fits) (hr : Rt e) (hh : ¬ J.has e.opn) (_hc : S.count ≤ 900000) :
  Calls Tryd.prog 19 #[.pointer (some ⟨jp, 0, none⟩), .agg e.cells] w (JC w0 w jp p gs S J G (.int .i64 1)) := by
 have HZE := hid esize
 have HZS := hid stsize
 have HSE : Hid (∀ t : En, t.cells.size = 9) := hid fun t => rfl
 have HSS : Hid (∀ t : St, t.cells.size = 5) := hid fun t => rfl
 have HOS : Hid (∀ t : St, t.cells.all (·.oneCell') = true) := hid stubs_one
 have HST : Hid (∀ W, Fd W → Calls Tryd.prog 13 #[.agg e.cells] W (VE W (.agg (stubS e).cells))) := hid fun W hW => sstub_any e hf W hW
 have HA := hid (h.alloc (.cells e.cells 28)).1
 have HK := hid (h.alloc (.cells e.cells 28)).2
 have HRA : Hid (Row (w.alloc (.cells e.cells 28)) w.heap.size 28 e.cells.toList) := hid (Row.new _ _ _)
 have hz : ¬ stubS e = st0 := fun q => (stub_zero e).1 q hr
 have HHA : Hid (∀ W {X : List Nat}, Jd w0 W jp p gs S J X → Calls Tryd.prog 33 #[.pointer (some ⟨jp, 0, none⟩), .int .i64 e.opn] W fun x w' => x = .returned (.bool false) ∧ W = w') := hid fun W X hW => by
  have := has_any13 hW hw.c0 hw.c1 e.opn
  rw [decide_eq_false hh] at this
  exact this
 generalize stubS e = t at *
 have HEQ := hid (show decide (t = st0) = false by simp [hz])
 clear h hw hf hr _hc hz hh
 go_enter Tryd.func19, Tryd.ntmps19
 go_wp2_with (first
  | (refine wpList_load_row rfl 28 (.tmp 3) rfl w.heap.size rfl 28 e.cells (0, 0) _ HRA.out.arr Tryd.underlying28 rfl (by rw [HSE.out]; exact HZE.out) ?_)
  | (go_at_call 13; refine (HST.out _ HA.out.fd).mono ?_; rintro x w1 ⟨rfl, hb1⟩; have H1 := hid (HA.out.new hb1).1; have K1 := hid (HA.out.new hb1).2; have R1 := hid (K1.out.row HRA.out (by simp)); have E1 := hid (HK.out.trans K1.out.tail); clear hb1)
  | (refine wpl_store_st rfl (.tmp 5) (.tmp 11) rfl (n := 5) HZS.out w1.heap.size st0.cells t.cells rfl rfl (Row.new _ _ _) ?_ (hid rfl) (hid (HSS.out _)) (hid (HOS.out _)); intro w2 hr2 hg2; obtain ⟨q1, q2⟩ := H1.out.one hg2; have H2 := hid q1; have E2 := hid (E1.out.trans q2.tail); have R2 := hid (q2.row R1.out (by simp)); have T2 := hid hr2; have c1 : w2.cell? ⟨w.heap.size, 1, none⟩ = some (.int .i64 e.opn) := R2.out.at_ 1 _ rfl; clear q1 q2 hr2 hg2)
  | (refine wpList_load_row rfl 42 (.tmp 5) rfl w1.heap.size rfl 42 t.cells (0, 0) _ T2.out.arr Tryd.underlying42 rfl (by rw [HSS.out]; exact HZS.out) ?_)
  | (refine wpl_eqs rfl t st0 _ (.tmp 12) (.tmp 13) _ rfl rfl rfl HEQ ?_)
  | (go_at_call 33; refine (HHA.out _ H2.out).mono ?_; rintro x w3 ⟨rfl, hw3⟩; subst hw3))
 go_ret
 exact ⟨rfl, H2.out.tail.tail, E2.out⟩
set_option maxHeartbeats 4000000 in
theorem put_errj {w0 w : World} {jp p gs : Nat} {S : Sp} {J : Jn} {G : List Nat} (h : Jd w0 w jp p gs S J G) (hw : JWf J) (e : En) (hf : e.fits) (hr : Rt e) (hh : J.has e.opn) (hz0 : (layL S (putL13 (J.item e.opn) e)).2 ≠ 0) (hc : S.count ≤ 900000) :
  Calls Tryd.prog 19 #[.pointer (some ⟨jp, 0, none⟩), .agg e.cells] w (JC w0 w jp p gs (layL S (putL13 (J.item e.opn) e)).1 J G (.int .i64 (layL S (putL13 (J.item e.opn) e)).2)) := by
 have HZE := hid esize
 have HZS := hid stsize
 have HSE : Hid (∀ t : En, t.cells.size = 9) := hid fun t => rfl
 have HSS : Hid (∀ t : St, t.cells.size = 5) := hid fun t => rfl
 have HOS : Hid (∀ t : St, t.cells.all (·.oneCell') = true) := hid stubs_one
 have HST : Hid (∀ W, Fd W → Calls Tryd.prog 13 #[.agg e.cells] W (VE W (.agg (stubS e).cells))) := hid fun W hW => sstub_any e hf W hW
 have HA := hid (h.alloc (.cells e.cells 28)).1
 have HK := hid (h.alloc (.cells e.cells 28)).2
 have HRA : Hid (Row (w.alloc (.cells e.cells 28)) w.heap.size 28 e.cells.toList) := hid (Row.new _ _ _)
 have hz : ¬ stubS e = st0 := fun q => (stub_zero e).1 q hr
 have HHA : Hid (∀ W {X : List Nat}, Jd w0 W jp p gs S J X → Calls Tryd.prog 33 #[.pointer (some ⟨jp, 0, none⟩), .int .i64 e.opn] W fun x w' => x = .returned (.bool true) ∧ W = w') := hid fun W X hW => by
  have := has_any13 hW hw.c0 hw.c1 e.opn
  rw [decide_eq_true hh] at this
  exact this
 obtain ⟨s, hs, hso⟩ : ∃ s : Nat, s < 8 ∧ e.opn % 8 = s := ⟨(e.opn % 8).toNat, by omega, by omega⟩
 have h0 := hw.c0
 have hslot : slotN J.c s = e.opn := by
  have := slotN_of hh
  rw [show (e.opn % 8).toNat = s by omega] at this
  exact this
 have HSL : Hid (∀ W, Calls Tryd.prog 34 #[.int .i64 e.opn] W fun x w' => x = .returned (.int .i64 (s : Int)) ∧ W = w') := hid fun W => by
  have := slotOf_any e.opn (by have := hh.1; omega) W
  rw [hso] at this
  exact this
 have hb : (s : Int) < 8 := by omega
 have hxw := hw.it _ hh
 have HXR : Hid (∀ W {X : List Nat}, (∃ S, Jd w0 W jp p gs S J X) → W.rangeAt jp (2 + s * 15) (itC (J.item e.opn))) := hid fun W X hW => by
  obtain ⟨S', hW⟩ := hW
  have := hW.range hs
  rw [hslot] at this
  exact this
 have HFO : Hid (∀ W (X : List Nat), Jd w0 W jp p gs S J X → Calls Tryd.prog 41 #[.int .i64 (s : Int), .agg (J.item e.opn).cells, .agg e.cells, .agg (stubS e).cells] W (LF w0 W jp p gs S J X (putL13 (J.item e.opn) e))) := hid fun W X hW => for_any hW s hs _ e hf hr hso hxw
 have HLY : Hid (∀ W (X : List Nat) A c L, Jd w0 W jp p gs S J X → LyAt W X A L → L.map Ly.lay = putL13 (J.item e.opn) e → L.length ≤ 3 → Calls Tryd.prog 40 #[.pointer (some ⟨jp, 0, none⟩), .slice A (List.length L) c] W (JC w0 W jp p gs (layL S (putL13 (J.item e.opn) e)).1 J X (.int .i64 (layL S (putL13 (J.item e.opn) e)).2))) := hid fun W X A c L hW hA hm hn => by
  have := lay_any13 hW L A c hA (by omega)
  rw [hm] at this
  exact this
 have HSZ0 := hid h.size
 have HNG : Hid (w.heap.size ∉ G) := hid fun hn => Nat.lt_irrefl _ (h.lt _ hn)
 have HL8 := hid hw.len
 have HS8 := hid hs
 have HCL : Hid (∀ W, Calls Tryd.prog 35 #[.string e.body] W fun x w' => x = .returned (.string e.body) ∧ Below W.heap.size W w') := hid fun W => clone_any e.body W (by have := rt_body hr; omega)
 have hsze : (Tryd.prog.info? 28).map (·.size) = some e.cells.size := esize
 generalize layL S (putL13 (J.item e.opn) e) = RES at *
 obtain ⟨S1, z⟩ := RES
 simp only at *
 generalize J.item e.opn = x at *
 generalize stubS e = t at *
 have hszt : (Tryd.prog.info? 42).map (·.size) = some t.cells.size := stsize
 have HEQ := hid (show decide (t = st0) = false by simp [hz])
 have HSLT := hid hslot
 have HZ0 := hid (show (z != 0) = true by simpa using hz0)
 clear h hw hf hr hc hz hh hxw hso hs h0 hslot hz0
 go_enter Tryd.func19, Tryd.ntmps19
 go_wp2_with (first
  | (refine wpList_load_row rfl 28 (.tmp 3) rfl w.heap.size rfl 28 e.cells (0, 0) _ HRA.out.arr Tryd.underlying28 rfl (by rw [HSE.out]; exact HZE.out) ?_)
  | (go_at_call 13; refine (HST.out _ HA.out.fd).mono ?_; rintro x w1 ⟨rfl, hb1⟩; have H1 := hid (HA.out.new hb1).1; have K1 := hid (HA.out.new hb1).2; have R1 := hid (K1.out.row HRA.out (by simp)); have E1 := hid (HK.out.trans K1.out.tail); clear hb1)
  | (refine wpl_store_st rfl (.tmp 5) (.tmp 11) rfl (n := 5) HZS.out w1.heap.size st0.cells t.cells rfl rfl (Row.new _ _ _) ?_ (hid rfl) (hid (HSS.out _)) (hid (HOS.out _)); intro w2 hr2 hg2; obtain ⟨q1, q2⟩ := H1.out.one hg2; have H2 := hid q1; have E2 := hid (E1.out.trans q2.tail); have R2 := hid (q2.row R1.out (by simp)); have T2 := hid hr2; have c1 : w2.cell? ⟨w.heap.size, 1, none⟩ = some (.int .i64 e.opn) := R2.out.at_ 1 _ rfl; clear q1 q2 hr2 hg2)
  | (refine wpList_load_row rfl 42 (.tmp 5) rfl w1.heap.size rfl 42 t.cells (0, 0) _ T2.out.arr Tryd.underlying42 rfl (by rw [HSS.out]; exact HZS.out) ?_)
  | (refine wpl_eqs rfl t st0 _ (.tmp 12) (.tmp 13) _ rfl rfl rfl HEQ ?_)
  | (go_at_call 33; refine (HHA.out _ H2.out).mono ?_; rintro x w3 ⟨rfl, hw3⟩; subst hw3)
  | (go_at_call 34; refine (HSL.out _).mono ?_; rintro x w4 ⟨rfl, hw4⟩; subst hw4))
 try simp only [Act.put, U1,U2,U3,U4,U5,U6]
 refine wp_region_held_drew (S := fun W => (∃ S, Jd w0 W jp p gs S J (w1.heap.size :: w.heap.size :: G)) ∧ Ek w2 W (w1.heap.size :: w.heap.size :: G)) (by kernel_rfl) (⟨⟨_, H2.out.drew⟩, fun _ _ => rfl⟩) (fun hH => ?_)
 refine tk_ (i := 0) (v := .pointer (some ⟨jp, 0, none⟩)) rfl (Or.inl ⟨by kernel_rfl, fun w' _ => by kernel_rfl⟩) hH ?_
 simp only [Act.put, U1, U3, U4, U5, U6]
 refine tk_ (i := 1) (v := .int .i64 (s : Int)) rfl (Or.inl ⟨by kernel_rfl, fun w' _ => by kernel_rfl⟩) hH ?_
 simp only [Act.put, U1,U2,U3,U4,U5,U6]
 refine tk_ (i := 2) (v := .pointer (some ⟨jp, 0, none⟩)) rfl (Or.inl ⟨by kernel_rfl, fun w' _ => by kernel_rfl⟩) hH ?_
 simp only [Act.put, U1,U2,U3,U4,U5,U6]
 refine tk_ (i := 3) (v := .int .i64 (s : Int)) rfl (Or.inl ⟨by kernel_rfl, fun w' _ => by kernel_rfl⟩) hH ?_
 simp only [Act.put, U1,U2,U3,U4,U5,U6]
 refine tk_ (i := 4) (v := .pointer (some ⟨jp, 0, none⟩)) rfl (Or.inl ⟨by rfl, fun w' hw' => by clear hw'; go_simp⟩) hH ?_
 simp only [Act.put, U1,U2,U3,U4,U5,U6]
 refine tk_ (i := 5) (v := .pointer (some ⟨jp, 2, none⟩)) rfl (Or.inl ⟨by rfl, fun w' hw' => by clear hw'; go_simp⟩) hH ?_
 simp only [Act.put, U1,U2,U3,U4,U5,U6]
 refine tk_ (i := 6) (v := .pointer (some ⟨jp, 2 + s * 15, none⟩)) rfl (Or.inl ⟨by rfl, fun w' hw' => by clear hw'; go_simp⟩) hH ?_
 simp only [Act.put, U1,U2,U3,U4,U5,U6]
 refine tk_ (i := 7) (v := .agg x.cells) rfl ?_ hH ?_
 ·
  refine yieldsIf_load_mid ?_ 44 (.tmp 29) ?_ jp (2 + s * 15) ?_ (itC x) _ (fun W hW => HXR.out W hW.1) Tryd.underlying44 rfl itemSize13
  all_goals kernel_rfl
 simp only [Act.put, U1,U2,U3,U4,U5,U6]
 refine tk_ (i := 8) (v := .agg e.cells) rfl ?_ hH ?_
 ·
  refine yieldsIf_load_mid ?_ 28 (.tmp 3) ?_ w.heap.size 0 ?_ (Array.toList e.cells) _ (fun W hW => Row.range (hW.2.row R2.out (by simp))) Tryd.underlying28 rfl (by exact hsze)
  all_goals kernel_rfl
 simp only [Act.put, U1,U2,U3,U4,U5,U6]
 refine tk_ (i := 9) (v := .agg t.cells) rfl ?_ hH ?_
 ·
  refine yieldsIf_load_mid ?_ 42 (.tmp 5) ?_ w1.heap.size 0 ?_ (Array.toList t.cells) _ (fun W hW => Row.range (hW.2.row T2.out (by simp))) Tryd.underlying42 rfl (by exact hszt)
  all_goals kernel_rfl
 simp only [Act.put, U1,U2,U3,U4,U5,U6]
 refine wpAnyH_ready (rs := [10]) (by kernel_rfl) (by simp) ?_
 refine AllReadyH.cons rfl (fun K hK => ?_) AllReadyH.nil
 go_simp
 go_at_call 41
 refine (HFO.out _ _ H2.out.drew).mono ?_
 rintro y w5 ⟨X, A5, c5, L5, rfl, h5, a5, m5, n5, k5⟩
 go_wp2_with fail
 have H5 := hid h5
 have A5' := hid a5
 have M5 := hid m5
 have N5 := hid n5
 have K5 : Hid (Ek w2 w5 (w1.heap.size :: w.heap.size :: G)) := hid k5
 clear h5 a5 m5 n5 k5
 refine hK.out _ _ (⟨⟨_, H5.out.sub (fun g hg => List.mem_append_right _ hg)⟩, K5.out⟩) (fun hH => ?_)
 clear hK K
 try simp only [Act.put, U1,U2,U3,U4,U5,U6]
 refine wpAnyH_ready (rs := [11]) (by kernel_rfl) (by simp) ?_
 refine AllReadyH.cons rfl (fun K hK => ?_) AllReadyH.nil
 go_simp
 go_at_call 40
 refine (HLY.out _ _ _ _ _ H5.out A5'.out M5.out N5.out).mono ?_
 rintro y w6 ⟨rfl, h6, k6⟩
 go_wp2_with fail
 have H6 := hid (h6.sub (fun g hg => List.mem_append_right X hg))
 have K6 : Hid (Ek w2 w6 (w1.heap.size :: w.heap.size :: G)) := hid (K5.out.trans (k6.sub (fun g hg => List.mem_append_right X hg)))
 clear h6 k6
 refine hK.out _ _ (⟨⟨_, H6.out⟩, K6.out⟩) (fun hH => ?_)
 clear hK K
 try simp only [Act.put, U1,U2,U3,U4,U5,U6]
 refine tk_ (i := 12) (v := .int .i64 z) rfl (Or.inl ⟨by kernel_rfl, fun w' _ => by kernel_rfl⟩) hH ?_
 simp only [Act.put, U1,U2,U3,U4,U5,U6]
 refine wpAnyH_done (by kernel_rfl) ?_ _
 try simp only [Act.put, U1,U2,U3,U4,U5,U6]
 clear hH
 have E6 := hid (E2.out.trans K6.out.tail.tail)
 have R6 := hid (K6.out.row R2.out (by simp))
 have T6 := hid (K6.out.row T2.out (by simp))
 have hz0 := HZ0.out
 go_wp2_with fail
 go_ret
 exact ⟨rfl, H6.out.tail.tail, E6.out⟩
set_option maxHeartbeats 4000000 in
theorem put_okj {w0 w : World} {jp p gs : Nat} {S : Sp} {J : Jn} {G : List Nat} (h : Jd w0 w jp p gs S J G) (hw : JWf J) (e : En) (hf : e.fits) (hr : Rt e) (hh : J.has e.opn) (hz0 : (layL S (putL13 (J.item e.opn) e)).2 = 0) (hc : S.count ≤ 900000) :
  Calls Tryd.prog 19 #[.pointer (some ⟨jp, 0, none⟩), .agg e.cells] w (JC w0 w jp p gs (layL S (putL13 (J.item e.opn) e)).1 (J.set e.opn ⟨1, stubS e, e⟩) G (.int .i64 0)) := by
 have HZE := hid esize
 have HZS := hid stsize
 have HSE : Hid (∀ t : En, t.cells.size = 9) := hid fun t => rfl
 have HSS : Hid (∀ t : St, t.cells.size = 5) := hid fun t => rfl
 have HOS : Hid (∀ t : St, t.cells.all (·.oneCell') = true) := hid stubs_one
 have HST : Hid (∀ W, Fd W → Calls Tryd.prog 13 #[.agg e.cells] W (VE W (.agg (stubS e).cells))) := hid fun W hW => sstub_any e hf W hW
 have HA := hid (h.alloc (.cells e.cells 28)).1
 have HK := hid (h.alloc (.cells e.cells 28)).2
 have HRA : Hid (Row (w.alloc (.cells e.cells 28)) w.heap.size 28 e.cells.toList) := hid (Row.new _ _ _)
 have hz : ¬ stubS e = st0 := fun q => (stub_zero e).1 q hr
 have HHA : Hid (∀ W {X : List Nat}, Jd w0 W jp p gs S J X → Calls Tryd.prog 33 #[.pointer (some ⟨jp, 0, none⟩), .int .i64 e.opn] W fun x w' => x = .returned (.bool true) ∧ W = w') := hid fun W X hW => by
  have := has_any13 hW hw.c0 hw.c1 e.opn
  rw [decide_eq_true hh] at this
  exact this
 obtain ⟨s, hs, hso⟩ : ∃ s : Nat, s < 8 ∧ e.opn % 8 = s := ⟨(e.opn % 8).toNat, by omega, by omega⟩
 have h0 := hw.c0
 have hslot : slotN J.c s = e.opn := by
  have := slotN_of hh
  rw [show (e.opn % 8).toNat = s by omega] at this
  exact this
 have HSL : Hid (∀ W, Calls Tryd.prog 34 #[.int .i64 e.opn] W fun x w' => x = .returned (.int .i64 (s : Int)) ∧ W = w') := hid fun W => by
  have := slotOf_any e.opn (by have := hh.1; omega) W
  rw [hso] at this
  exact this
 have hb : (s : Int) < 8 := by omega
 have hxw := hw.it _ hh
 have HXR : Hid (∀ W {X : List Nat}, (∃ S, Jd w0 W jp p gs S J X) → W.rangeAt jp (2 + s * 15) (itC (J.item e.opn))) := hid fun W X hW => by
  obtain ⟨S', hW⟩ := hW
  have := hW.range hs
  rw [hslot] at this
  exact this
 have HFO : Hid (∀ W (X : List Nat), Jd w0 W jp p gs S J X → Calls Tryd.prog 41 #[.int .i64 (s : Int), .agg (J.item e.opn).cells, .agg e.cells, .agg (stubS e).cells] W (LF w0 W jp p gs S J X (putL13 (J.item e.opn) e))) := hid fun W X hW => for_any hW s hs _ e hf hr hso hxw
 have HLY : Hid (∀ W (X : List Nat) A c L, Jd w0 W jp p gs S J X → LyAt W X A L → L.map Ly.lay = putL13 (J.item e.opn) e → L.length ≤ 3 → Calls Tryd.prog 40 #[.pointer (some ⟨jp, 0, none⟩), .slice A (List.length L) c] W (JC w0 W jp p gs (layL S (putL13 (J.item e.opn) e)).1 J X (.int .i64 (layL S (putL13 (J.item e.opn) e)).2))) := hid fun W X A c L hW hA hm hn => by
  have := lay_any13 hW L A c hA (by omega)
  rw [hm] at this
  exact this
 have HSZ0 := hid h.size
 have HNG : Hid (w.heap.size ∉ G) := hid fun hn => Nat.lt_irrefl _ (h.lt _ hn)
 have HL8 := hid hw.len
 have HS8 := hid hs
 have HCL : Hid (∀ W, Calls Tryd.prog 35 #[.string e.body] W fun x w' => x = .returned (.string e.body) ∧ Below W.heap.size W w') := hid fun W => clone_any e.body W (by have := rt_body hr; omega)
 have hsze : (Tryd.prog.info? 28).map (·.size) = some e.cells.size := esize
 generalize layL S (putL13 (J.item e.opn) e) = RES at *
 obtain ⟨S1, z⟩ := RES
 simp only at *
 subst hz0
 generalize J.item e.opn = x at *
 generalize stubS e = t at *
 have hszt : (Tryd.prog.info? 42).map (·.size) = some t.cells.size := stsize
 have HEQ := hid (show decide (t = st0) = false by simp [hz])
 have HSLT := hid hslot
 clear h hw hf hr hc hz hh hxw hso h0 hslot
 go_enter Tryd.func19, Tryd.ntmps19
 go_wp2_with (first
  | (refine wpList_load_row rfl 28 (.tmp 3) rfl w.heap.size rfl 28 e.cells (0, 0) _ HRA.out.arr Tryd.underlying28 rfl (by rw [HSE.out]; exact HZE.out) ?_)
  | (go_at_call 13; refine (HST.out _ HA.out.fd).mono ?_; rintro x w1 ⟨rfl, hb1⟩; have H1 := hid (HA.out.new hb1).1; have K1 := hid (HA.out.new hb1).2; have R1 := hid (K1.out.row HRA.out (by simp)); have E1 := hid (HK.out.trans K1.out.tail); clear hb1)
  | (refine wpl_store_st rfl (.tmp 5) (.tmp 11) rfl (n := 5) HZS.out w1.heap.size st0.cells t.cells rfl rfl (Row.new _ _ _) ?_ (hid rfl) (hid (HSS.out _)) (hid (HOS.out _)); intro w2 hr2 hg2; obtain ⟨q1, q2⟩ := H1.out.one hg2; have H2 := hid q1; have E2 := hid (E1.out.trans q2.tail); have R2 := hid (q2.row R1.out (by simp)); have T2 := hid hr2; have c1 : w2.cell? ⟨w.heap.size, 1, none⟩ = some (.int .i64 e.opn) := R2.out.at_ 1 _ rfl; clear q1 q2 hr2 hg2)
  | (refine wpList_load_row rfl 42 (.tmp 5) rfl w1.heap.size rfl 42 t.cells (0, 0) _ T2.out.arr Tryd.underlying42 rfl (by rw [HSS.out]; exact HZS.out) ?_)
  | (refine wpl_eqs rfl t st0 _ (.tmp 12) (.tmp 13) _ rfl rfl rfl HEQ ?_)
  | (go_at_call 33; refine (HHA.out _ H2.out).mono ?_; rintro x w3 ⟨rfl, hw3⟩; subst hw3)
  | (go_at_call 34; refine (HSL.out _).mono ?_; rintro x w4 ⟨rfl, hw4⟩; subst hw4))
 try simp only [Act.put, U1,U2,U3,U4,U5,U6]
 refine wp_region_held_drew (S := fun W => (∃ S, Jd w0 W jp p gs S J (w1.heap.size :: w.heap.size :: G)) ∧ Ek w2 W (w1.heap.size :: w.heap.size :: G)) (by kernel_rfl) (⟨⟨_, H2.out.drew⟩, fun _ _ => rfl⟩) (fun hH => ?_)
 refine tk_ (i := 0) (v := .pointer (some ⟨jp, 0, none⟩)) rfl (Or.inl ⟨by kernel_rfl, fun w' _ => by kernel_rfl⟩) hH ?_
 simp only [Act.put, U1, U3, U4, U5, U6]
 refine tk_ (i := 1) (v := .int .i64 (s : Int)) rfl (Or.inl ⟨by kernel_rfl, fun w' _ => by kernel_rfl⟩) hH ?_
 simp only [Act.put, U1,U2,U3,U4,U5,U6]
 refine tk_ (i := 2) (v := .pointer (some ⟨jp, 0, none⟩)) rfl (Or.inl ⟨by kernel_rfl, fun w' _ => by kernel_rfl⟩) hH ?_
 simp only [Act.put, U1,U2,U3,U4,U5,U6]
 refine tk_ (i := 3) (v := .int .i64 (s : Int)) rfl (Or.inl ⟨by kernel_rfl, fun w' _ => by kernel_rfl⟩) hH ?_
 simp only [Act.put, U1,U2,U3,U4,U5,U6]
 refine tk_ (i := 4) (v := .pointer (some ⟨jp, 0, none⟩)) rfl (Or.inl ⟨by rfl, fun w' hw' => by clear hw'; go_simp⟩) hH ?_
 simp only [Act.put, U1,U2,U3,U4,U5,U6]
 refine tk_ (i := 5) (v := .pointer (some ⟨jp, 2, none⟩)) rfl (Or.inl ⟨by rfl, fun w' hw' => by clear hw'; go_simp⟩) hH ?_
 simp only [Act.put, U1,U2,U3,U4,U5,U6]
 refine tk_ (i := 6) (v := .pointer (some ⟨jp, 2 + s * 15, none⟩)) rfl (Or.inl ⟨by rfl, fun w' hw' => by clear hw'; go_simp⟩) hH ?_
 simp only [Act.put, U1,U2,U3,U4,U5,U6]
 refine tk_ (i := 7) (v := .agg x.cells) rfl ?_ hH ?_
 ·
  refine yieldsIf_load_mid ?_ 44 (.tmp 29) ?_ jp (2 + s * 15) ?_ (itC x) _ (fun W hW => HXR.out W hW.1) Tryd.underlying44 rfl itemSize13
  all_goals kernel_rfl
 simp only [Act.put, U1,U2,U3,U4,U5,U6]
 refine tk_ (i := 8) (v := .agg e.cells) rfl ?_ hH ?_
 ·
  refine yieldsIf_load_mid ?_ 28 (.tmp 3) ?_ w.heap.size 0 ?_ (Array.toList e.cells) _ (fun W hW => Row.range (hW.2.row R2.out (by simp))) Tryd.underlying28 rfl (by exact hsze)
  all_goals kernel_rfl
 simp only [Act.put, U1,U2,U3,U4,U5,U6]
 refine tk_ (i := 9) (v := .agg t.cells) rfl ?_ hH ?_
 ·
  refine yieldsIf_load_mid ?_ 42 (.tmp 5) ?_ w1.heap.size 0 ?_ (Array.toList t.cells) _ (fun W hW => Row.range (hW.2.row T2.out (by simp))) Tryd.underlying42 rfl (by exact hszt)
  all_goals kernel_rfl
 simp only [Act.put, U1,U2,U3,U4,U5,U6]
 refine wpAnyH_ready (rs := [10]) (by kernel_rfl) (by simp) ?_
 refine AllReadyH.cons rfl (fun K hK => ?_) AllReadyH.nil
 go_simp
 go_at_call 41
 refine (HFO.out _ _ H2.out.drew).mono ?_
 rintro y w5 ⟨X, A5, c5, L5, rfl, h5, a5, m5, n5, k5⟩
 go_wp2_with fail
 have H5 := hid h5
 have A5' := hid a5
 have M5 := hid m5
 have N5 := hid n5
 have K5 : Hid (Ek w2 w5 (w1.heap.size :: w.heap.size :: G)) := hid k5
 clear h5 a5 m5 n5 k5
 refine hK.out _ _ (⟨⟨_, H5.out.sub (fun g hg => List.mem_append_right _ hg)⟩, K5.out⟩) (fun hH => ?_)
 clear hK K
 try simp only [Act.put, U1,U2,U3,U4,U5,U6]
 refine wpAnyH_ready (rs := [11]) (by kernel_rfl) (by simp) ?_
 refine AllReadyH.cons rfl (fun K hK => ?_) AllReadyH.nil
 go_simp
 go_at_call 40
 refine (HLY.out _ _ _ _ _ H5.out A5'.out M5.out N5.out).mono ?_
 rintro y w6 ⟨rfl, h6, k6⟩
 go_wp2_with fail
 have H6 := hid (h6.sub (fun g hg => List.mem_append_right X hg))
 have K6 : Hid (Ek w2 w6 (w1.heap.size :: w.heap.size :: G)) := hid (K5.out.trans (k6.sub (fun g hg => List.mem_append_right X hg)))
 clear h6 k6
 refine hK.out _ _ (⟨⟨_, H6.out⟩, K6.out⟩) (fun hH => ?_)
 clear hK K
 try simp only [Act.put, U1,U2,U3,U4,U5,U6]
 refine tk_ (i := 12) (v := .int .i64 0) rfl (Or.inl ⟨by kernel_rfl, fun w' _ => by kernel_rfl⟩) hH ?_
 simp only [Act.put, U1,U2,U3,U4,U5,U6]
 refine wpAnyH_done (by kernel_rfl) ?_ _
 try simp only [Act.put, U1,U2,U3,U4,U5,U6]
 clear hH
 have E6 := hid (E2.out.trans K6.out.tail.tail)
 have R6 := hid (K6.out.row R2.out (by simp))
 have T6 := hid (K6.out.row T2.out (by simp))
 have c8 : w6.cell? ⟨w.heap.size, 8, none⟩ = some (.string e.body) := R6.out.at_ 8 _ rfl
 have HNE : Hid (¬ w.heap.size = w1.heap.size) := hid (by have := H1.out.lt w.heap.size (by simp); omega)
 go_wp2_with (first
  | (go_at_call 35; refine (HCL.out _).mono ?_; rintro y w7 ⟨rfl, hb7⟩; have H7 := hid (H6.out.new hb7).1; have K7 := hid (H6.out.new hb7).2; have E7 := hid (E6.out.trans K7.out.tail.tail); have R7 := hid (K7.out.row R6.out (by simp)); have T7 := hid (K7.out.row T6.out (by simp)); clear hb7)
  | (refine wpl_store_c rfl 9 (.tmp 41) (.tmp 40) rfl w.heap.size 8 (.string e.body) rfl rfl R7.out (by kernel_rfl) ?_ (hid (by show 8 < 9; decide)) (hid rfl); intro w8 hr8 hg8; have H8 := hid (H7.out.put (g := w.heap.size) (by simp) HSZ0.out hg8); have E8 := hid (E7.out.trans (ek_put hg8 (fun g hg => H7.out.lt g (by simp [hg])) HNG.out)); have R8 : Hid (Row w8 w.heap.size 28 e.cells.toList) := hid hr8; have T8 := hid ((ek_put (G := [w1.heap.size]) hg8 (fun g hg => H7.out.lt g (by simp at hg; simp [hg])) (by simp; exact HNE.out)).row T7.out (by simp)); clear hr8 hg8))
 try simp only [Act.put]
 refine wp_region_held_drew (S := fun W => (∃ J, Jd w0 W jp p gs S1 J (w1.heap.size :: w.heap.size :: G)) ∧ Ek w8 W (w1.heap.size :: w.heap.size :: G)) (by kernel_rfl) (⟨⟨_, H8.out.drew⟩, fun _ _ => rfl⟩) (fun hH => ?_)
 refine tk_ (i := 0) (v := .pointer (some ⟨jp, 0, none⟩)) rfl (Or.inl ⟨by kernel_rfl, fun w' _ => by kernel_rfl⟩) hH ?_
 simp only [Act.put, U1, U3, U4, U5, U6]
 refine tk_ (i := 1) (v := .int .i64 (s : Int)) rfl (Or.inl ⟨by kernel_rfl, fun w' _ => by kernel_rfl⟩) hH ?_
 simp only [Act.put, U1,U2,U3,U4,U5,U6]
 refine tk_ (i := 2) (v := .agg t.cells) rfl ?_ hH ?_
 ·
  refine yieldsIf_load_mid ?_ 42 (.tmp 5) ?_ w1.heap.size 0 ?_ (Array.toList t.cells) _ (fun W hW => Row.range (hW.2.row T8.out (by simp))) Tryd.underlying42 rfl (by exact hszt)
  all_goals kernel_rfl
 simp only [Act.put, U1,U2,U3,U4,U5,U6]
 refine tk_ (i := 3) (v := .agg e.cells) rfl ?_ hH ?_
 ·
  refine yieldsIf_load_mid ?_ 28 (.tmp 3) ?_ w.heap.size 0 ?_ (Array.toList e.cells) _ (fun W hW => Row.range (hW.2.row R8.out (by simp))) Tryd.underlying28 rfl (by exact hsze)
  all_goals kernel_rfl
 simp only [Act.put, U1,U2,U3,U4,U5,U6]
 refine tk_ (i := 4) (v := .agg (⟨1, t, e⟩ : It).cells) rfl (Or.inl ⟨by kernel_rfl, fun w' _ => by kernel_rfl⟩) hH ?_
 simp only [Act.put, U1,U2,U3,U4,U5,U6]
 refine tk_ (i := 5) (v := .pointer (some ⟨jp, 0, none⟩)) rfl (Or.inl ⟨by rfl, fun w' hw' => by clear hw'; go_simp⟩) hH ?_
 simp only [Act.put, U1,U2,U3,U4,U5,U6]
 refine tk_ (i := 6) (v := .pointer (some ⟨jp, 2, none⟩)) rfl (Or.inl ⟨by rfl, fun w' hw' => by clear hw'; go_simp⟩) hH ?_
 simp only [Act.put, U1,U2,U3,U4,U5,U6]
 refine tk_ (i := 7) (v := .pointer (some ⟨jp, 2 + s * 15, none⟩)) rfl (Or.inl ⟨by rfl, fun w' hw' => by clear hw'; go_simp⟩) hH ?_
 simp only [Act.put, U1,U2,U3,U4,U5,U6]
 refine wpAnyH_ready (rs := [8]) (by kernel_rfl) (by simp) ?_
 refine AllReadyH.cons rfl (fun K hK => ?_) AllReadyH.nil
 rw [if_pos (by kernel_rfl)]
 refine wp_store_mid 44 (.tmp 49) (.tmp 46) rfl jp (2 + s * 15) (⟨1, t, e⟩ : It).cells rfl rfl (H8.out.drew.there HS8.out _) itemSize13 (itC_one _) ?_
 refine hK.out _ _ (⟨⟨_, (H8.out.drew.setIt HL8.out HS8.out _).1⟩, (H8.out.drew.setIt HL8.out HS8.out _).2.sub (fun g hg => hg)⟩) (fun hH => ?_)
 clear hK K
 try simp only [Act.put, U1, U2, U3]
 refine wpAnyH_done (by kernel_rfl) ?_ _
 try simp only [Act.put, U1,U2,U3,U4,U5,U6]
 have H9 := hid (H8.out.drew.setIt HL8.out HS8.out (⟨1, t, e⟩ : It)).1
 have E9 : Hid (Ek w _ G) := hid (E8.out.trans (H8.out.drew.setIt HL8.out HS8.out (⟨1, t, e⟩ : It)).2.tail.tail)
 clear hH
 generalize World.setCells _ jp (2 + s * 15) _ = w9 at *
 rw [HSLT.out] at H9
 go_wp2_with fail
 go_ret
 exact ⟨rfl, H9.out.tail.tail, E9.out⟩
theorem put_any13 {w0 w : World} {jp p gs : Nat} {S : Sp} {J : Jn} {G : List Nat} (h : Jd w0 w jp p gs S J G) (hw : JWf J) (e : En) (hf : e.fits) (hc : S.count ≤ 900000) :
  Calls Tryd.prog 19 #[.pointer (some ⟨jp, 0, none⟩), .agg e.cells] w (JC w0 w jp p gs (putJ S J e).1 (putJ S J e).2.1 G (.int .i64 (putJ S J e).2.2)) := by
 by_cases hr : Rt e
 ·
  by_cases hh : J.has e.opn
  ·
   rw [put_eq hw hr hh]
   by_cases hz : (layL S (putL13 (J.item e.opn) e)).2 = 0
   ·
    rw [if_pos hz]
    exact put_okj h hw e hf hr hh hz hc
   ·
    rw [if_neg hz]
    exact put_errj h hw e hf hr hh hz hc
  ·
   have e1 : putJ S J e = (S, J, 1) := by unfold putJ; rw [if_neg (not_not_intro hr), if_pos hh]
   rw [e1]
   exact put_argj h hw e hf hr hh hc
 ·
  have e1 : putJ S J e = (S, J, 4) := by unfold putJ; rw [if_pos hr]
  rw [e1]
  exact put_formj h hw e hf hr hc
end Go.Proofs.YtafbeepacncooaaDoor
