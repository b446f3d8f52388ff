/-
  Lists of layers that grow; a slot that is turned.
-/
import Derived.Test.YtafbeepacncooaaDoorP05
import Derived.Deep.AppendLies
namespace Go.Proofs.YtafbeepacncooaaDoor
open Go.RowKit
set_option maxRecDepth 10000

theorem layInfo4 : ∃ ie, Tryd.prog.info? 87 = some ie ∧ ie.zero = some (.agg #[.int .i64 0, .nilFunc]) ∧ ie.size = 2 ∧ ie.bytes = 16 := by
 have e : (Tryd.prog.info? 87).map (fun i => (i.zero, i.size, i.bytes)) = some (some (.agg #[.int .i64 0, .nilFunc]), 2, 16) := by kernel_rfl
 obtain ⟨i, hi, he⟩ := Option.map_eq_some_iff.1 e
 obtain ⟨h1, h2⟩ := Prod.mk.inj he
 obtain ⟨h2, h3⟩ := Prod.mk.inj h2
 exact ⟨i, hi, h1, h2, h3⟩
theorem cells_len (x : Ly) : x.cells.length = 2 := rfl
theorem cells_one13 (x : Ly) : ∀ u ∈ x.cells, u.oneCell' = true := by
 intro u hu
 simp only [Ly.cells, List.mem_cons, List.not_mem_nil, or_false] at hu
 rcases hu with rfl | rfl
 ·
  rfl
 ·
  exact fv_one x
theorem flat_cells (L : List Ly) : (L.map Ly.cells).flatten.length = L.length * 2 := by
 rw [flat_length 2 _ (by simp [cells_len])]
 simp
/-- a journal, and a list of layers in memory of its own -/
def JO (w0 w : World) (jp p gs : Nat) (S : Sp) (J : Jn) (G : List Nat) (v : Value) (L : List Ly) : Prop :=
 ∃ X, Jd w0 w jp p gs S J (X ++ G) ∧ w.ownsRow w0.heap.size 87 2 v L.length (L.map Ly.cells).flatten ∧ (∀ g, v.ownBlock = some g → g ∈ X) ∧ (∀ x ∈ L, x.At w G) ∧ (∀ x ∈ X, x ∉ G)
section
variable {w0 w w' : World} {jp p gs : Nat} {S : Sp} {J : Jn} {G : List Nat} {v : Value} {L : List Ly}
theorem JO.nil (h : Jd w0 w jp p gs S J G) : JO w0 w jp p gs S J G (.slice none 0 0) [] := ⟨[], h, World.ownsRow_nil _ _ _ _, by simp [Value.ownBlock], by simp, by simp⟩
theorem JO.jd (h : JO w0 w jp p gs S J G v L) : Jd w0 w jp p gs S J G := by
 obtain ⟨X, h, _⟩ := h
 exact h.sub (fun g hg => List.mem_append_right _ hg)
theorem own_ek {B : Nat} {e : TypeId} {s n : Nat} {xs : List Value} {X : List Nat} (ho : w.ownsRow B e s v n xs) (hk : Ek w w' X) (hg : ∀ g, v.ownBlock = some g → g ∈ X) : w'.ownsRow B e s v n xs := by
 refine ⟨ho.1, ?_⟩
 rcases ho.2 with hn | ⟨g, cap, cur, rfl, hb, hgg, rest⟩
 ·
  exact .inl hn
 ·
  refine .inr ⟨g, cap, cur, rfl, hb, ?_, rest⟩
  rw [hk g (hg g rfl)]
  exact hgg
theorem JO.new (h : JO w0 w jp p gs S J G v L) (hb : Below w.heap.size w w') : JO w0 w' jp p gs S J G v L ∧ Ek w w' G := by
 obtain ⟨X, h1, h2, h3, h4, h5⟩ := h
 obtain ⟨k1, k2⟩ := h1.new hb
 have kG : Ek w w' G := k2.sub (fun g hg => List.mem_append_right _ hg)
 exact ⟨⟨X, k1, own_ek h2 (k2.sub (fun g hg => List.mem_append_left _ hg)) h3, h3, fun x hx => (h4 x hx).ek kG, h5⟩, kG⟩
/-- the closure's block is put apart -/
theorem JO.add (h : JO w0 w jp p gs S J G v L) (hb : Below w.heap.size w w') {g : Nat} (hg : w.heap.size ≤ g) (hlt : g < w'.heap.size) : JO w0 w' jp p gs S J (g :: G) v L := by
 obtain ⟨X, h1, h2, h3, h4, h5⟩ := h
 obtain ⟨k1, k2⟩ := h1.new hb
 have kG : Ek w w' G := k2.sub (fun g hg => List.mem_append_right _ hg)
 refine ⟨X, (h1.add hb hg hlt).sub ?_, own_ek h2 (k2.sub (fun g hg => List.mem_append_left _ hg)) h3, h3, fun x hx => ((h4 x hx).ek kG).sub (fun b hb => List.mem_cons_of_mem _ hb), fun x hx => ?_⟩
 ·
  intro x hx
  simp only [List.mem_append, List.mem_cons] at hx ⊢
  rcases hx with h | h | h
  ·
   exact .inr (.inl h)
  ·
   exact .inl h
  ·
   exact .inr (.inr h)
 ·
  have := h1.lt x (by simp [hx])
  simp only [List.mem_cons, not_or]
  exact ⟨by omega, h5 x hx⟩
theorem Jd.grow {X : List Nat} (h : Jd w0 w jp p gs S J X) {r : Option Nat} (hb : w.grownBy w' r) (hr : ∀ b, r = some b → b ∈ X ∧ w0.heap.size ≤ b) {g : Nat} (hg : g ∈ X ∨ g = w.heap.size) (hlt : g < w'.heap.size) : Jd w0 w' jp p gs S J (g :: X) := by
 have hj := h.jlt
 obtain ⟨⟨vd, h1, h2, h3, h4, h5⟩, hrow, hj0, hjx⟩ := h
 have hgn : ∀ b, b < w.heap.size → b ∉ X → b ≠ g := fun b hb hn e => by
  subst e
  rcases hg with h | h
  ·
   exact hn h
  ·
   omega
 refine ⟨⟨vd, h1.fr (fp := r.toList) ((Fr.refl w r.toList).grown hb (fun k hk => .inl (by simp [hk]))) (fun b hb' hn => ?_), fun b hb' => ⟨(h2 b hb').1, ?_⟩, ?_, fun x hx => ?_, h5⟩, ?_, hj0, ?_⟩
 ·
  have := hr b (by simpa using hn)
  exact (h2 b hb').2 (by simp [this.1])
 ·
  have hlb := h1.lt b hb'
  have := (h2 b hb').2
  simp only [List.mem_cons, not_or] at this ⊢
  exact ⟨this.1, hgn b hlb this.2, this.2⟩
 ·
  refine h3.trans ⟨hb.os, hb.tape, hb.output, hb.size, fun k hk => hb.block k (by have := h3.size; omega) (fun e => ?_)⟩
  have := hr k e.symm
  omega
 ·
  simp only [List.mem_cons] at hx
  rcases hx with rfl | rfl | hx
  ·
   exact Nat.lt_of_lt_of_le hj hb.size
  ·
   exact hlt
  ·
   exact Nat.lt_of_lt_of_le (h4 x (by simp [hx])) hb.size
 ·
  exact (hb.block jp hj (fun e => hjx (hr jp e.symm).1)).trans hrow
 ·
  simp only [List.mem_cons, not_or]
  exact ⟨hgn jp hj hjx, hjx⟩
/-- one more layer -/
theorem wpl_app_ly {ops : Array Oper} {rest : List Oper} {o : Oper} {a : Act} {Q : Exit → Act → World → Prop} (hgd : o.guard = none) (s x : Operand) (ho : o.op = .call { callee := .builtin .append, args := #[s, x], argTypes := #[82, 82] })
  (hs : a.eval s = v) (y : Ly) (gy : Nat) (hx : a.eval x = .slice (some ⟨gy, 0, none⟩) 1 1) (hrow : Row w gy 87 y.cells) (hJ : JO w0 w jp p gs S J G v L) (hy : y.At w G) (hL : L.length ≤ 1000) (n : Nat) (hn : n = L.length + 1)
  (h : ∀ g cap w', JO w0 w' jp p gs S J G (.slice (some ⟨g, 0, none⟩) n cap) (L ++ [y]) → Ek w w' G → wpList Tryd.prog ops Q rest (a.put o.dst (.slice (some ⟨g, 0, none⟩) n cap)) w') : wpList Tryd.prog ops Q (o :: rest) a w := by
 subst hn
 obtain ⟨i0, hi0, hi1, hi2, hi3⟩ := layInfo4
 obtain ⟨X, h1, h2, h3, h4, h5⟩ := hJ
 refine wpList_append_lies w hgd s x 82 ho w0.heap.size 87 i0 _ 2 16 Tryd.underlying82 hi0 hi1 hi2 hi3 rfl (by decide) v L.length _ hs h2 ⟨gy, 0, none⟩ 1 1 y.cells hx rfl (fun j u hu => ?_) (cells_one13 y) (by decide) (Nat.le_trans (show L.length + 1 ≤ 1001 by omega) (by decide)) (by omega) h1.size _ rfl (fun g cap w' k1 k2 k3 k4 => ?_)
 ·
  have := hrow.cell j
  rw [hu] at this
  by_cases h0 : j = 0
  ·
   subst h0
   simpa [Addr.add] using this
  ·
   simpa [Addr.add, h0] using this
 ·
  have hlt := h1.lt
  have hgb : g ∈ X ∨ g = w.heap.size := k3.imp (h3 g) id
  have hE : Ek w w' G := fun b hb => k2.block b (hlt b (by simp [hb])) (fun e => h5 b (h3 b e.symm) hb)
  have hr : ∀ b, v.ownBlock = some b → b ∈ X ++ G ∧ w0.heap.size ≤ b := fun b hv => by
   refine ⟨List.mem_append_left _ (h3 b hv), ?_⟩
   rcases h2.2 with ⟨hn, _⟩ | ⟨g2, c2, cu2, hv2, hb2, _⟩
   ·
    rw [hn] at hv; cases hv
   ·
    rw [hv2] at hv
    cases hv
    exact hb2
  have hjd := h1.grow k2 hr (g := g) (hgb.imp (fun h => List.mem_append_left _ h) id) k4
  refine h g cap w' ⟨g :: X, hjd, ?_, ?_, ?_, ?_⟩ hE
  ·
   rw [List.length_append, List.map_append, List.flatten_append]
   simpa using k1
  ·
   intro b hb
   simp [Value.ownBlock] at hb
   simp [hb]
  ·
   intro x hx
   rcases List.mem_append.1 hx with hx | hx
   ·
    exact (h4 x hx).ek hE
   ·
    rw [List.mem_singleton.1 hx]
    exact hy.ek hE
  ·
   intro x hx
   rcases List.mem_cons.1 hx with rfl | hx
   ·
    rcases hgb with h | h
    ·
     exact h5 _ h
    ·
     intro hm
     have := hlt x (by simp [hm])
     omega
   ·
    exact h5 x hx
/-- the list as lay takes it -/
theorem JO.at {g n cap : Nat} (h : JO w0 w jp p gs S J G (.slice (some ⟨g, 0, none⟩) n cap) L) (hn : n = L.length) : ∃ X, Jd w0 w jp p gs S J (X ++ G) ∧ LyAt w (X ++ G) (some ⟨g, 0, none⟩) L := by
 subst hn
 obtain ⟨X, h1, h2, h3, h4, _⟩ := h
 refine ⟨X, h1, fun x hx => (h4 x hx).sub (fun b hb => List.mem_append_right _ hb), fun _ => ⟨g, 0, rfl, List.mem_append_left _ (h3 g rfl), fun k j u hk hu => ?_⟩⟩
 have hj : j < 2 := (List.getElem?_eq_some_iff.1 hu).1
 have h1 := h2.cellAt (k * 2 + j) (show k * 2 + j < L.length * 2 by omega)
 rw [show 0 + k * 2 + j = k * 2 + j by omega, h1, flat_get 2 (L.map Ly.cells) k j (by simp [cells_len]) hj, List.getElem?_map, List.getElem?_eq_getElem hk]
 exact hu
end
/-! ### a slot that is turned -/
theorem gset13 (w : World) (g i : Nat) (v : Value) : w.grownBy (w.setCell ⟨g, i, none⟩ v) (some g) := ⟨rfl, rfl, rfl, by simp, fun k _ hr => heap_setCell_other w ⟨g, i, none⟩ k v (by intro e; exact hr (by rw [e]))⟩
theorem gtrans13 {w w1 w2 : World} {g : Nat} (h : w.grownBy w1 (some g)) (k : w1.grownBy w2 (some g)) : w.grownBy w2 (some g) :=
 ⟨k.os.trans h.os, k.tape.trans h.tape, k.output.trans h.output, Nat.le_trans h.size k.size, fun b hb hn => (k.block b (Nat.lt_of_lt_of_le hb h.size) hn).trans (h.block b hb hn)⟩
theorem row_cells {w : World} {g : Nat} {e : TypeId} {xs : List Value} (h : Row w g e xs) : ∀ (vs : List Value) (o : Nat), o + vs.length ≤ xs.length → Row (w.setCells g o vs) g e (splice xs o vs) ∧ w.grownBy (w.setCells g o vs) (some g)
 | [], o, ho => ⟨by simpa [splice, World.setCells] using h, World.grownBy.refl _ _⟩
 | v :: r, o, ho => by
  simp only [List.length_cons] at ho
  obtain ⟨h1, h2⟩ := row_cells (h.set_ o v) r (o + 1) (by rw [List.length_set]; omega)
  have e : splice (xs.set o v) (o + 1) r = splice xs o (v :: r) := by
   unfold splice
   have hk : o < xs.length := by omega
   rw [List.drop_set_of_lt (by omega), List.take_succ_eq_append_getElem (by simpa using hk), List.take_set_of_le (Nat.le_refl _)]
   simp [Nat.add_assoc, Nat.add_comm 1]
  rw [e] at h1
  exact ⟨h1, gtrans13 (gset13 _ _ _ _) h2⟩
theorem row_there {w : World} {g : Nat} {e : TypeId} {xs : List Value} (h : Row w g e xs) (o n : Nat) (ho : o + n ≤ xs.length) : w.there g o n := fun j hj => by
 rw [h.cell, List.getElem?_eq_getElem (by omega)]
 exact ⟨rfl, h.frozen _⟩
theorem itemSize13 : (Tryd.prog.info? 44).map (·.size) = some 15 := by kernel_rfl
theorem itC_one (x : It) : x.cells.all (·.oneCell') = true := by simp [It.cells, Value.oneCell']
theorem Jd.there {w0 w : World} {jp p gs : Nat} {S : Sp} {J : Jn} {G : List Nat} (h : Jd w0 w jp p gs S J G) {s : Nat} (hs : s < 8) (x : It) : w.there jp (2 + s * 15) x.cells.size :=
 row_there h.row _ _ (by rw [jC_len, Jn.slots_len]; show _ + 15 ≤ _; omega)
theorem Jd.setIt {w0 w : World} {jp p gs : Nat} {S : Sp} {J : Jn} {G : List Nat} (h : Jd w0 w jp p gs S J G) (hl : J.x.length = 8) {s : Nat} (hs : s < 8) (x : It) :
  Jd w0 (w.setCells jp (2 + s * 15) x.cells.toList) jp p gs S (J.set (slotN J.c s) x) G ∧ Ek w (w.setCells jp (2 + s * 15) x.cells.toList) G := by
 obtain ⟨h1, h2⟩ := row_cells h.row x.cells.toList (2 + s * 15) (by rw [jC_len, Jn.slots_len]; show _ + 15 ≤ _; omega)
 have e := jC_splice p J.c (l := J.slots) (s := s) (by rw [Jn.slots_len]; exact hs) x
 unfold itC at e
 rw [e, slots_set hl hs x] at h1
 exact h.turn h2 h1
end Go.Proofs.YtafbeepacncooaaDoor
/-
  The walk of package journal's clean.
-/
namespace Go.Proofs.YtafbeepacncooaaDoor
open Go.RowKit
set_option maxRecDepth 10000

/-- the layers of a cleaning -/
def cleanL (_n : Int) (s : Nat) (a b : Bool) : List Ly := (if a then [.v (4 + s)] else []) ++ (if b then [.v (12 + s)] else [])
theorem stubT_no (p : List UInt8) : (stubT p).2.1 = false → (stubT p).1 = st0 := by
 unfold stubT
 split
 ·
  simp
 ·
  split <;> simp
theorem clean_eq {p h : List UInt8} {n : Int} {s : Nat} (hp : pN n = 4 + s) (hh : hN n = 12 + s) (h1 : 1 ≤ n) :
  cleanP p h n = (cleanL n s (!(entryS p).2.2 || decide ((entryS p).1.opn = n)) (!(stubT h).2.2 || decide ((stubT h).1.opn = n))).map Ly.lay := by
 have e1 : ((entryS p).2.2 = false ∨ ((entryS p).2.1 = true ∧ (entryS p).1.opn = n)) ↔ (!(entryS p).2.2 || decide ((entryS p).1.opn = n)) = true := by
  have q1 := entryS_none p
  cases h2 : (entryS p).2.1
  ·
   have := q1 h2
   rw [this]
   have : ¬ (en0.opn = n) := by show ¬ ((0 : Int) = n); omega
   simp [this]
  ·
   simp
 have e2 : ((stubT h).2.2 = false ∨ ((stubT h).2.1 = true ∧ (stubT h).1.opn = n)) ↔ (!(stubT h).2.2 || decide ((stubT h).1.opn = n)) = true := by
  have q1 := stubT_no h
  cases h2 : (stubT h).2.1
  ·
   have := q1 h2
   rw [this]
   have : ¬ (st0.opn = n) := by show ¬ ((0 : Int) = n); omega
   simp [this]
  ·
   simp
 unfold cleanP cleanL
 rw [hp, hh]
 simp only [e1, e2, List.map_append]
 congr 1
 ·
  split <;> rfl
 ·
  split <;> rfl
/-- nothing at all is laid -/
theorem lay_none {w0 w : World} {jp p gs : Nat} {S : Sp} {J : Jn} {G : List Nat} (h : Jd w0 w jp p gs S J G) (hc : S.count ≤ 1000000) : Calls Tryd.prog 40 #[.pointer (some ⟨jp, 0, none⟩), .slice none 0 0] w (JC w0 w jp p gs S J G (.int .i64 0)) :=
 lay_any13 h [] none 0 ⟨by simp, by simp⟩ (by simp; omega)
set_option maxHeartbeats 4000000 in
theorem clean_00 {w0 w : World} {jp p gs : Nat} {S : Sp} {J : Jn} {G : List Nat} (h : Jd w0 w jp p gs S J G) (s : Nat) (hs : s < 8) (n : Int) (pd hd : ByteArray) (ex : En) (sx : St) (k1 k2 : Bool) (hc : S.count ≤ 1000000)
  (HOP : Hid (Calls Tryd.prog 62 #[.pointer (some ⟨jp, 0, none⟩), .int .i64 (s : Int)] w fun e w' => e = .returned (.int .i64 n) ∧ w = w'))
  (HE : Hid (∀ W, Fd W → Calls Tryd.prog 51 #[.string pd] W (LQ W ex.cells k1 false))) (HS : Hid (∀ W, Calls Tryd.prog 52 #[.string hd] W (LQ W sx.cells k2 false))) :
  Calls Tryd.prog 61 #[.pointer (some ⟨jp, 0, none⟩), .int .i64 (s : Int), .string pd, .string hd] w (JC w0 w jp p gs (layL S ((cleanL n s true true).map Ly.lay)).1 J G (.int .i64 (layL S ((cleanL n s true true).map Ly.lay)).2)) := by
 have HZE := hid esize
 have HZS := hid stsize
 obtain ⟨i0, hi0, hi1, hi2⟩ := layInfo
 have HSE : Hid (∀ t : En, t.cells.size = 9) := hid fun t => rfl
 have HOE : Hid (∀ t : En, t.cells.all (·.oneCell') = true) := hid ecells_one
 have HSS : Hid (∀ t : St, t.cells.size = 5) := hid fun t => rfl
 have HOS : Hid (∀ t : St, t.cells.all (·.oneCell') = true) := hid stubs_one
 have HPR : Hid (∀ W, Calls Tryd.prog 45 #[.int .i64 (s : Int), .func (.func 44) #[] #[]] W (VE W (.agg (Ly.v (4 + s)).cells.toArray))) := hid fun W => prep_v s W hs
 have HHD : Hid (∀ W, Calls Tryd.prog 43 #[.int .i64 (s : Int), .func (.func 44) #[] #[]] W (VE W (.agg (Ly.v (12 + s)).cells.toArray))) := hid fun W => head_v s W hs
 have HLY : Hid (∀ W X g c, Jd w0 W jp p gs S J (X ++ G) → LyAt W (X ++ G) (some ⟨g, 0, none⟩) (cleanL n s true true) → Calls Tryd.prog 40 #[.pointer (some ⟨jp, 0, none⟩), .slice (some ⟨g, 0, none⟩) 2 c] W (JC w0 W jp p gs (layL S ((cleanL n s true true).map Ly.lay)).1 J (X ++ G) (.int .i64 (layL S ((cleanL n s true true).map Ly.lay)).2))) := hid fun W X g c hW hA => lay_any13 hW (cleanL n s true true) _ c hA (by simp [cleanL]; omega)
 have HH : Hid (JO w0 w jp p gs S J G (.slice none 0 0) []) := hid (JO.nil h)
 clear h hc hs
 go_enter Tryd.func61, Tryd.ntmps61
 go_wp2_with (first
  | (go_at_call 62; refine HOP.out.mono ?_; rintro e w1 ⟨rfl, hw⟩; obtain rfl := hw.symm; clear hw)
  | (go_at_call 51; refine (HE.out _ HH.out.jd.fd).mono ?_; rintro e w2 ⟨rfl, hb2⟩; have H2 := hid (HH.out.new hb2).1; have E2 := hid (HH.out.new hb2).2; clear hb2)
  | (refine wpl_store_st rfl (.tmp 11) (.tmp 23) rfl (n := 9) HZE.out w2.heap.size en0.cells ex.cells rfl rfl (Row.new _ _ _) ?_ (hid rfl) (hid (HSE.out _)) (hid (HOE.out _)); intro w3 hr3 hb3; have b3 : Below w2.heap.size w2 w3 := ((Below.refl w2.heap.size w2).alloc (Nat.le_refl _) _).trans (below_grown hb3 (Nat.le_refl _) (by simp)); have H3 := hid (H2.out.new b3).1; have E3 := hid (E2.out.trans (H2.out.new b3).2); have c3 : w3.cell? ⟨w2.heap.size, 1, none⟩ = some (.int .i64 ex.opn) := hr3.at_ 1 _ rfl; clear hr3 hb3 b3)
  | (go_at_call 45; refine (HPR.out _).mono ?_; rintro e w4 ⟨rfl, hb4⟩; have H4 := hid (H3.out.new hb4).1; have E4 := hid (E3.out.trans (H3.out.new hb4).2); clear hb4)
  | ((with_reducible show wpList _ _ _ ({ dst := some 37, op := _, type := _, pos := _, after := _, guard := _ } :: _) _ _); refine wpl_slice1 rfl 82 87 (.tmp 36) rfl i0 _ 2 Tryd.underlying82 hi0 hi1 hi2 (by decide) (by decide) (Ly.v (4 + s)).cells rfl rfl ?_; have r4 := hid (Row.new w4 87 (Ly.v (4 + s)).cells.toArray); have b4 := (Below.refl w4.heap.size w4).alloc (Nat.le_refl _) (.cells (Ly.v (4 + s)).cells.toArray 87); have H4a := hid (H4.out.new b4).1; have E4a := hid (E4.out.trans (H4.out.new b4).2); clear b4)
  | ((with_reducible show wpList _ _ _ ({ dst := some 38, op := _, type := _, pos := _, after := _, guard := _ } :: _) _ _); refine wpl_app_ly rfl (.tmp 34) (.tmp 37) rfl rfl (Ly.v (4 + s)) w4.heap.size rfl r4.out H4a.out trivial (by simp) 1 rfl ?_; intro g5 q5 w5 hj5 he5; have H5 := hid hj5; have E5 := hid (E4a.out.trans he5); clear hj5 he5)
  | (go_at_call 52; refine (HS.out _).mono ?_; rintro e w6 ⟨rfl, hb6⟩; have H6 := hid (H5.out.new hb6).1; have E6 := hid (E5.out.trans (H5.out.new hb6).2); clear hb6)
  | (refine wpl_store_st rfl (.tmp 14) (.tmp 42) rfl (n := 5) HZS.out w6.heap.size st0.cells sx.cells rfl rfl (Row.new _ _ _) ?_ (hid rfl) (hid (HSS.out _)) (hid (HOS.out _)); intro w7 hr hb; have b : Below w6.heap.size w6 w7 := ((Below.refl w6.heap.size w6).alloc (Nat.le_refl _) _).trans (below_grown hb (Nat.le_refl _) (by simp)); have H7 := hid (H6.out.new b).1; have E7 := hid (E6.out.trans (H6.out.new b).2); have c7 : w7.cell? ⟨w6.heap.size, 0, none⟩ = some (.int .i64 sx.opn) := hr.at_ 0 _ rfl; clear hr hb b)
  | (go_at_call 43; refine (HHD.out _).mono ?_; rintro e w8 ⟨rfl, hb8⟩; have H8 := hid (H7.out.new hb8).1; have E8 := hid (E7.out.trans (H7.out.new hb8).2); clear hb8)
  | ((with_reducible show wpList _ _ _ ({ dst := some 56, op := _, type := _, pos := _, after := _, guard := _ } :: _) _ _); refine wpl_slice1 rfl 82 87 (.tmp 55) rfl i0 _ 2 Tryd.underlying82 hi0 hi1 hi2 (by decide) (by decide) (Ly.v (12 + s)).cells rfl rfl ?_; have r8 := hid (Row.new w8 87 (Ly.v (12 + s)).cells.toArray); have b8 := (Below.refl w8.heap.size w8).alloc (Nat.le_refl _) (.cells (Ly.v (12 + s)).cells.toArray 87); have H8a := hid (H8.out.new b8).1; have E8a := hid (E8.out.trans (H8.out.new b8).2); clear b8)
  | ((with_reducible show wpList _ _ _ ({ dst := some 57, op := _, type := _, pos := _, after := _, guard := _ } :: _) _ _); refine wpl_app_ly rfl (.tmp 53) (.tmp 56) rfl rfl (Ly.v (12 + s)) w8.heap.size rfl r8.out H8a.out trivial (by simp) 2 rfl ?_; intro g9 q9 w9 hj9 he9; have H9 := hid hj9; have E9 := hid (E8a.out.trans he9); clear hj9 he9)
  | (go_at_call 40; obtain ⟨X, hX, hA⟩ := H9.out.at rfl; have HX := hid hX; have HA := hid hA; clear hX hA; refine (HLY.out _ _ _ _ HX.out HA.out).mono ?_; rintro e w20 ⟨rfl, h20, k20⟩; have H20 := hid (h20.sub (fun g hg => List.mem_append_right X hg)); have E20 := hid (E9.out.trans (k20.sub (fun g hg => List.mem_append_right X hg))); clear h20 k20))
 go_ret
 exact ⟨rfl, H20.out, E20.out⟩
set_option maxHeartbeats 4000000 in
theorem clean_01 {w0 w : World} {jp p gs : Nat} {S : Sp} {J : Jn} {G : List Nat} (h : Jd w0 w jp p gs S J G) (s : Nat) (hs : s < 8) (n : Int) (pd hd : ByteArray) (ex : En) (sx : St) (k1 k2 : Bool) (hb : sx.opn = n) (hc : S.count ≤ 1000000)
  (HOP : Hid (Calls Tryd.prog 62 #[.pointer (some ⟨jp, 0, none⟩), .int .i64 (s : Int)] w fun e w' => e = .returned (.int .i64 n) ∧ w = w'))
  (HE : Hid (∀ W, Fd W → Calls Tryd.prog 51 #[.string pd] W (LQ W ex.cells k1 false))) (HS : Hid (∀ W, Calls Tryd.prog 52 #[.string hd] W (LQ W sx.cells k2 true))) :
  Calls Tryd.prog 61 #[.pointer (some ⟨jp, 0, none⟩), .int .i64 (s : Int), .string pd, .string hd] w (JC w0 w jp p gs (layL S ((cleanL n s true true).map Ly.lay)).1 J G (.int .i64 (layL S ((cleanL n s true true).map Ly.lay)).2)) := by
 have HZE := hid esize
 have HZS := hid stsize
 obtain ⟨i0, hi0, hi1, hi2⟩ := layInfo
 have HSE : Hid (∀ t : En, t.cells.size = 9) := hid fun t => rfl
 have HOE : Hid (∀ t : En, t.cells.all (·.oneCell') = true) := hid ecells_one
 have HSS : Hid (∀ t : St, t.cells.size = 5) := hid fun t => rfl
 have HOS : Hid (∀ t : St, t.cells.all (·.oneCell') = true) := hid stubs_one
 have HPR : Hid (∀ W, Calls Tryd.prog 45 #[.int .i64 (s : Int), .func (.func 44) #[] #[]] W (VE W (.agg (Ly.v (4 + s)).cells.toArray))) := hid fun W => prep_v s W hs
 have HHD : Hid (∀ W, Calls Tryd.prog 43 #[.int .i64 (s : Int), .func (.func 44) #[] #[]] W (VE W (.agg (Ly.v (12 + s)).cells.toArray))) := hid fun W => head_v s W hs
 have HLY : Hid (∀ W X g c, Jd w0 W jp p gs S J (X ++ G) → LyAt W (X ++ G) (some ⟨g, 0, none⟩) (cleanL n s true true) → Calls Tryd.prog 40 #[.pointer (some ⟨jp, 0, none⟩), .slice (some ⟨g, 0, none⟩) 2 c] W (JC w0 W jp p gs (layL S ((cleanL n s true true).map Ly.lay)).1 J (X ++ G) (.int .i64 (layL S ((cleanL n s true true).map Ly.lay)).2))) := hid fun W X g c hW hA => lay_any13 hW (cleanL n s true true) _ c hA (by simp [cleanL]; omega)
 have HH : Hid (JO w0 w jp p gs S J G (.slice none 0 0) []) := hid (JO.nil h)
 have hb2 : (sx.opn == n) = true := by simp [hb]
 clear h hc hs
 go_enter Tryd.func61, Tryd.ntmps61
 go_wp2_with (first
  | (go_at_call 62; refine HOP.out.mono ?_; rintro e w1 ⟨rfl, hw⟩; obtain rfl := hw.symm; clear hw)
  | (go_at_call 51; refine (HE.out _ HH.out.jd.fd).mono ?_; rintro e w2 ⟨rfl, hb2⟩; have H2 := hid (HH.out.new hb2).1; have E2 := hid (HH.out.new hb2).2; clear hb2)
  | (refine wpl_store_st rfl (.tmp 11) (.tmp 23) rfl (n := 9) HZE.out w2.heap.size en0.cells ex.cells rfl rfl (Row.new _ _ _) ?_ (hid rfl) (hid (HSE.out _)) (hid (HOE.out _)); intro w3 hr3 hb3; have b3 : Below w2.heap.size w2 w3 := ((Below.refl w2.heap.size w2).alloc (Nat.le_refl _) _).trans (below_grown hb3 (Nat.le_refl _) (by simp)); have H3 := hid (H2.out.new b3).1; have E3 := hid (E2.out.trans (H2.out.new b3).2); have c3 : w3.cell? ⟨w2.heap.size, 1, none⟩ = some (.int .i64 ex.opn) := hr3.at_ 1 _ rfl; clear hr3 hb3 b3)
  | (go_at_call 45; refine (HPR.out _).mono ?_; rintro e w4 ⟨rfl, hb4⟩; have H4 := hid (H3.out.new hb4).1; have E4 := hid (E3.out.trans (H3.out.new hb4).2); clear hb4)
  | ((with_reducible show wpList _ _ _ ({ dst := some 37, op := _, type := _, pos := _, after := _, guard := _ } :: _) _ _); refine wpl_slice1 rfl 82 87 (.tmp 36) rfl i0 _ 2 Tryd.underlying82 hi0 hi1 hi2 (by decide) (by decide) (Ly.v (4 + s)).cells rfl rfl ?_; have r4 := hid (Row.new w4 87 (Ly.v (4 + s)).cells.toArray); have b4 := (Below.refl w4.heap.size w4).alloc (Nat.le_refl _) (.cells (Ly.v (4 + s)).cells.toArray 87); have H4a := hid (H4.out.new b4).1; have E4a := hid (E4.out.trans (H4.out.new b4).2); clear b4)
  | ((with_reducible show wpList _ _ _ ({ dst := some 38, op := _, type := _, pos := _, after := _, guard := _ } :: _) _ _); refine wpl_app_ly rfl (.tmp 34) (.tmp 37) rfl rfl (Ly.v (4 + s)) w4.heap.size rfl r4.out H4a.out trivial (by simp) 1 rfl ?_; intro g5 q5 w5 hj5 he5; have H5 := hid hj5; have E5 := hid (E4a.out.trans he5); clear hj5 he5)
  | (go_at_call 52; refine (HS.out _).mono ?_; rintro e w6 ⟨rfl, hb6⟩; have H6 := hid (H5.out.new hb6).1; have E6 := hid (E5.out.trans (H5.out.new hb6).2); clear hb6)
  | (refine wpl_store_st rfl (.tmp 14) (.tmp 42) rfl (n := 5) HZS.out w6.heap.size st0.cells sx.cells rfl rfl (Row.new _ _ _) ?_ (hid rfl) (hid (HSS.out _)) (hid (HOS.out _)); intro w7 hr hb; have b : Below w6.heap.size w6 w7 := ((Below.refl w6.heap.size w6).alloc (Nat.le_refl _) _).trans (below_grown hb (Nat.le_refl _) (by simp)); have H7 := hid (H6.out.new b).1; have E7 := hid (E6.out.trans (H6.out.new b).2); have c7 : w7.cell? ⟨w6.heap.size, 0, none⟩ = some (.int .i64 sx.opn) := hr.at_ 0 _ rfl; clear hr hb b)
  | (go_at_call 43; refine (HHD.out _).mono ?_; rintro e w8 ⟨rfl, hb8⟩; have H8 := hid (H7.out.new hb8).1; have E8 := hid (E7.out.trans (H7.out.new hb8).2); clear hb8)
  | ((with_reducible show wpList _ _ _ ({ dst := some 56, op := _, type := _, pos := _, after := _, guard := _ } :: _) _ _); refine wpl_slice1 rfl 82 87 (.tmp 55) rfl i0 _ 2 Tryd.underlying82 hi0 hi1 hi2 (by decide) (by decide) (Ly.v (12 + s)).cells rfl rfl ?_; have r8 := hid (Row.new w8 87 (Ly.v (12 + s)).cells.toArray); have b8 := (Below.refl w8.heap.size w8).alloc (Nat.le_refl _) (.cells (Ly.v (12 + s)).cells.toArray 87); have H8a := hid (H8.out.new b8).1; have E8a := hid (E8.out.trans (H8.out.new b8).2); clear b8)
  | ((with_reducible show wpList _ _ _ ({ dst := some 57, op := _, type := _, pos := _, after := _, guard := _ } :: _) _ _); refine wpl_app_ly rfl (.tmp 53) (.tmp 56) rfl rfl (Ly.v (12 + s)) w8.heap.size rfl r8.out H8a.out trivial (by simp) 2 rfl ?_; intro g9 q9 w9 hj9 he9; have H9 := hid hj9; have E9 := hid (E8a.out.trans he9); clear hj9 he9)
  | (go_at_call 40; obtain ⟨X, hX, hA⟩ := H9.out.at rfl; have HX := hid hX; have HA := hid hA; clear hX hA; refine (HLY.out _ _ _ _ HX.out HA.out).mono ?_; rintro e w20 ⟨rfl, h20, k20⟩; have H20 := hid (h20.sub (fun g hg => List.mem_append_right X hg)); have E20 := hid (E9.out.trans (k20.sub (fun g hg => List.mem_append_right X hg))); clear h20 k20))
 go_ret
 exact ⟨rfl, H20.out, E20.out⟩
set_option maxHeartbeats 4000000 in
theorem clean_02 {w0 w : World} {jp p gs : Nat} {S : Sp} {J : Jn} {G : List Nat} (h : Jd w0 w jp p gs S J G) (s : Nat) (hs : s < 8) (n : Int) (pd hd : ByteArray) (ex : En) (sx : St) (k1 k2 : Bool) (hb : (sx.opn == n) = false) (hc : S.count ≤ 1000000)
  (HOP : Hid (Calls Tryd.prog 62 #[.pointer (some ⟨jp, 0, none⟩), .int .i64 (s : Int)] w fun e w' => e = .returned (.int .i64 n) ∧ w = w'))
  (HE : Hid (∀ W, Fd W → Calls Tryd.prog 51 #[.string pd] W (LQ W ex.cells k1 false))) (HS : Hid (∀ W, Calls Tryd.prog 52 #[.string hd] W (LQ W sx.cells k2 true))) :
  Calls Tryd.prog 61 #[.pointer (some ⟨jp, 0, none⟩), .int .i64 (s : Int), .string pd, .string hd] w (JC w0 w jp p gs (layL S ((cleanL n s true false).map Ly.lay)).1 J G (.int .i64 (layL S ((cleanL n s true false).map Ly.lay)).2)) := by
 have HZE := hid esize
 have HZS := hid stsize
 obtain ⟨i0, hi0, hi1, hi2⟩ := layInfo
 have HSE : Hid (∀ t : En, t.cells.size = 9) := hid fun t => rfl
 have HOE : Hid (∀ t : En, t.cells.all (·.oneCell') = true) := hid ecells_one
 have HSS : Hid (∀ t : St, t.cells.size = 5) := hid fun t => rfl
 have HOS : Hid (∀ t : St, t.cells.all (·.oneCell') = true) := hid stubs_one
 have HPR : Hid (∀ W, Calls Tryd.prog 45 #[.int .i64 (s : Int), .func (.func 44) #[] #[]] W (VE W (.agg (Ly.v (4 + s)).cells.toArray))) := hid fun W => prep_v s W hs
 have HLY : Hid (∀ W X g c, Jd w0 W jp p gs S J (X ++ G) → LyAt W (X ++ G) (some ⟨g, 0, none⟩) (cleanL n s true false) → Calls Tryd.prog 40 #[.pointer (some ⟨jp, 0, none⟩), .slice (some ⟨g, 0, none⟩) 1 c] W (JC w0 W jp p gs (layL S ((cleanL n s true false).map Ly.lay)).1 J (X ++ G) (.int .i64 (layL S ((cleanL n s true false).map Ly.lay)).2))) := hid fun W X g c hW hA => lay_any13 hW (cleanL n s true false) _ c hA (by simp [cleanL]; omega)
 have HH : Hid (JO w0 w jp p gs S J G (.slice none 0 0) []) := hid (JO.nil h)
 clear h hc hs
 go_enter Tryd.func61, Tryd.ntmps61
 go_wp2_with (first
  | (go_at_call 62; refine HOP.out.mono ?_; rintro e w1 ⟨rfl, hw⟩; obtain rfl := hw.symm; clear hw)
  | (go_at_call 51; refine (HE.out _ HH.out.jd.fd).mono ?_; rintro e w2 ⟨rfl, hb2⟩; have H2 := hid (HH.out.new hb2).1; have E2 := hid (HH.out.new hb2).2; clear hb2)
  | (refine wpl_store_st rfl (.tmp 11) (.tmp 23) rfl (n := 9) HZE.out w2.heap.size en0.cells ex.cells rfl rfl (Row.new _ _ _) ?_ (hid rfl) (hid (HSE.out _)) (hid (HOE.out _)); intro w3 hr3 hb3; have b3 : Below w2.heap.size w2 w3 := ((Below.refl w2.heap.size w2).alloc (Nat.le_refl _) _).trans (below_grown hb3 (Nat.le_refl _) (by simp)); have H3 := hid (H2.out.new b3).1; have E3 := hid (E2.out.trans (H2.out.new b3).2); have c3 : w3.cell? ⟨w2.heap.size, 1, none⟩ = some (.int .i64 ex.opn) := hr3.at_ 1 _ rfl; clear hr3 hb3 b3)
  | (go_at_call 45; refine (HPR.out _).mono ?_; rintro e w4 ⟨rfl, hb4⟩; have H4 := hid (H3.out.new hb4).1; have E4 := hid (E3.out.trans (H3.out.new hb4).2); clear hb4)
  | ((with_reducible show wpList _ _ _ ({ dst := some 37, op := _, type := _, pos := _, after := _, guard := _ } :: _) _ _); refine wpl_slice1 rfl 82 87 (.tmp 36) rfl i0 _ 2 Tryd.underlying82 hi0 hi1 hi2 (by decide) (by decide) (Ly.v (4 + s)).cells rfl rfl ?_; have r4 := hid (Row.new w4 87 (Ly.v (4 + s)).cells.toArray); have b4 := (Below.refl w4.heap.size w4).alloc (Nat.le_refl _) (.cells (Ly.v (4 + s)).cells.toArray 87); have H4a := hid (H4.out.new b4).1; have E4a := hid (E4.out.trans (H4.out.new b4).2); clear b4)
  | ((with_reducible show wpList _ _ _ ({ dst := some 38, op := _, type := _, pos := _, after := _, guard := _ } :: _) _ _); refine wpl_app_ly rfl (.tmp 34) (.tmp 37) rfl rfl (Ly.v (4 + s)) w4.heap.size rfl r4.out H4a.out trivial (by simp) 1 rfl ?_; intro g5 q5 w5 hj5 he5; have H5 := hid hj5; have E5 := hid (E4a.out.trans he5); clear hj5 he5)
  | (go_at_call 52; refine (HS.out _).mono ?_; rintro e w6 ⟨rfl, hb6⟩; have H6 := hid (H5.out.new hb6).1; have E6 := hid (E5.out.trans (H5.out.new hb6).2); clear hb6)
  | (refine wpl_store_st rfl (.tmp 14) (.tmp 42) rfl (n := 5) HZS.out w6.heap.size st0.cells sx.cells rfl rfl (Row.new _ _ _) ?_ (hid rfl) (hid (HSS.out _)) (hid (HOS.out _)); intro w7 hr hb; have b : Below w6.heap.size w6 w7 := ((Below.refl w6.heap.size w6).alloc (Nat.le_refl _) _).trans (below_grown hb (Nat.le_refl _) (by simp)); have H7 := hid (H6.out.new b).1; have E7 := hid (E6.out.trans (H6.out.new b).2); have c7 : w7.cell? ⟨w6.heap.size, 0, none⟩ = some (.int .i64 sx.opn) := hr.at_ 0 _ rfl; clear hr hb b)
  | (go_at_call 40; obtain ⟨X, hX, hA⟩ := H7.out.at rfl; have HX := hid hX; have HA := hid hA; clear hX hA; refine (HLY.out _ _ _ _ HX.out HA.out).mono ?_; rintro e w20 ⟨rfl, h20, k20⟩; have H20 := hid (h20.sub (fun g hg => List.mem_append_right X hg)); have E20 := hid (E7.out.trans (k20.sub (fun g hg => List.mem_append_right X hg))); clear h20 k20))
 go_ret
 exact ⟨rfl, H20.out, E20.out⟩
set_option maxHeartbeats 4000000 in
theorem clean_10 {w0 w : World} {jp p gs : Nat} {S : Sp} {J : Jn} {G : List Nat} (h : Jd w0 w jp p gs S J G) (s : Nat) (hs : s < 8) (n : Int) (pd hd : ByteArray) (ex : En) (sx : St) (k1 k2 : Bool) (ha : ex.opn = n) (hc : S.count ≤ 1000000)
  (HOP : Hid (Calls Tryd.prog 62 #[.pointer (some ⟨jp, 0, none⟩), .int .i64 (s : Int)] w fun e w' => e = .returned (.int .i64 n) ∧ w = w'))
  (HE : Hid (∀ W, Fd W → Calls Tryd.prog 51 #[.string pd] W (LQ W ex.cells k1 true))) (HS : Hid (∀ W, Calls Tryd.prog 52 #[.string hd] W (LQ W sx.cells k2 false))) :
  Calls Tryd.prog 61 #[.pointer (some ⟨jp, 0, none⟩), .int .i64 (s : Int), .string pd, .string hd] w (JC w0 w jp p gs (layL S ((cleanL n s true true).map Ly.lay)).1 J G (.int .i64 (layL S ((cleanL n s true true).map Ly.lay)).2)) := by
 have HZE := hid esize
 have HZS := hid stsize
 obtain ⟨i0, hi0, hi1, hi2⟩ := layInfo
 have HSE : Hid (∀ t : En, t.cells.size = 9) := hid fun t => rfl
 have HOE : Hid (∀ t : En, t.cells.all (·.oneCell') = true) := hid ecells_one
 have HSS : Hid (∀ t : St, t.cells.size = 5) := hid fun t => rfl
 have HOS : Hid (∀ t : St, t.cells.all (·.oneCell') = true) := hid stubs_one
 have HPR : Hid (∀ W, Calls Tryd.prog 45 #[.int .i64 (s : Int), .func (.func 44) #[] #[]] W (VE W (.agg (Ly.v (4 + s)).cells.toArray))) := hid fun W => prep_v s W hs
 have HHD : Hid (∀ W, Calls Tryd.prog 43 #[.int .i64 (s : Int), .func (.func 44) #[] #[]] W (VE W (.agg (Ly.v (12 + s)).cells.toArray))) := hid fun W => head_v s W hs
 have HLY : Hid (∀ W X g c, Jd w0 W jp p gs S J (X ++ G) → LyAt W (X ++ G) (some ⟨g, 0, none⟩) (cleanL n s true true) → Calls Tryd.prog 40 #[.pointer (some ⟨jp, 0, none⟩), .slice (some ⟨g, 0, none⟩) 2 c] W (JC w0 W jp p gs (layL S ((cleanL n s true true).map Ly.lay)).1 J (X ++ G) (.int .i64 (layL S ((cleanL n s true true).map Ly.lay)).2))) := hid fun W X g c hW hA => lay_any13 hW (cleanL n s true true) _ c hA (by simp [cleanL]; omega)
 have HH : Hid (JO w0 w jp p gs S J G (.slice none 0 0) []) := hid (JO.nil h)
 have ha2 : (ex.opn == n) = true := by simp [ha]
 clear h hc hs
 go_enter Tryd.func61, Tryd.ntmps61
 go_wp2_with (first
  | (go_at_call 62; refine HOP.out.mono ?_; rintro e w1 ⟨rfl, hw⟩; obtain rfl := hw.symm; clear hw)
  | (go_at_call 51; refine (HE.out _ HH.out.jd.fd).mono ?_; rintro e w2 ⟨rfl, hb2⟩; have H2 := hid (HH.out.new hb2).1; have E2 := hid (HH.out.new hb2).2; clear hb2)
  | (refine wpl_store_st rfl (.tmp 11) (.tmp 23) rfl (n := 9) HZE.out w2.heap.size en0.cells ex.cells rfl rfl (Row.new _ _ _) ?_ (hid rfl) (hid (HSE.out _)) (hid (HOE.out _)); intro w3 hr3 hb3; have b3 : Below w2.heap.size w2 w3 := ((Below.refl w2.heap.size w2).alloc (Nat.le_refl _) _).trans (below_grown hb3 (Nat.le_refl _) (by simp)); have H3 := hid (H2.out.new b3).1; have E3 := hid (E2.out.trans (H2.out.new b3).2); have c3 : w3.cell? ⟨w2.heap.size, 1, none⟩ = some (.int .i64 ex.opn) := hr3.at_ 1 _ rfl; clear hr3 hb3 b3)
  | (go_at_call 45; refine (HPR.out _).mono ?_; rintro e w4 ⟨rfl, hb4⟩; have H4 := hid (H3.out.new hb4).1; have E4 := hid (E3.out.trans (H3.out.new hb4).2); clear hb4)
  | ((with_reducible show wpList _ _ _ ({ dst := some 37, op := _, type := _, pos := _, after := _, guard := _ } :: _) _ _); refine wpl_slice1 rfl 82 87 (.tmp 36) rfl i0 _ 2 Tryd.underlying82 hi0 hi1 hi2 (by decide) (by decide) (Ly.v (4 + s)).cells rfl rfl ?_; have r4 := hid (Row.new w4 87 (Ly.v (4 + s)).cells.toArray); have b4 := (Below.refl w4.heap.size w4).alloc (Nat.le_refl _) (.cells (Ly.v (4 + s)).cells.toArray 87); have H4a := hid (H4.out.new b4).1; have E4a := hid (E4.out.trans (H4.out.new b4).2); clear b4)
  | ((with_reducible show wpList _ _ _ ({ dst := some 38, op := _, type := _, pos := _, after := _, guard := _ } :: _) _ _); refine wpl_app_ly rfl (.tmp 34) (.tmp 37) rfl rfl (Ly.v (4 + s)) w4.heap.size rfl r4.out H4a.out trivial (by simp) 1 rfl ?_; intro g5 q5 w5 hj5 he5; have H5 := hid hj5; have E5 := hid (E4a.out.trans he5); clear hj5 he5)
  | (go_at_call 52; refine (HS.out _).mono ?_; rintro e w6 ⟨rfl, hb6⟩; have H6 := hid (H5.out.new hb6).1; have E6 := hid (E5.out.trans (H5.out.new hb6).2); clear hb6)
  | (refine wpl_store_st rfl (.tmp 14) (.tmp 42) rfl (n := 5) HZS.out w6.heap.size st0.cells sx.cells rfl rfl (Row.new _ _ _) ?_ (hid rfl) (hid (HSS.out _)) (hid (HOS.out _)); intro w7 hr hb; have b : Below w6.heap.size w6 w7 := ((Below.refl w6.heap.size w6).alloc (Nat.le_refl _) _).trans (below_grown hb (Nat.le_refl _) (by simp)); have H7 := hid (H6.out.new b).1; have E7 := hid (E6.out.trans (H6.out.new b).2); have c7 : w7.cell? ⟨w6.heap.size, 0, none⟩ = some (.int .i64 sx.opn) := hr.at_ 0 _ rfl; clear hr hb b)
  | (go_at_call 43; refine (HHD.out _).mono ?_; rintro e w8 ⟨rfl, hb8⟩; have H8 := hid (H7.out.new hb8).1; have E8 := hid (E7.out.trans (H7.out.new hb8).2); clear hb8)
  | ((with_reducible show wpList _ _ _ ({ dst := some 56, op := _, type := _, pos := _, after := _, guard := _ } :: _) _ _); refine wpl_slice1 rfl 82 87 (.tmp 55) rfl i0 _ 2 Tryd.underlying82 hi0 hi1 hi2 (by decide) (by decide) (Ly.v (12 + s)).cells rfl rfl ?_; have r8 := hid (Row.new w8 87 (Ly.v (12 + s)).cells.toArray); have b8 := (Below.refl w8.heap.size w8).alloc (Nat.le_refl _) (.cells (Ly.v (12 + s)).cells.toArray 87); have H8a := hid (H8.out.new b8).1; have E8a := hid (E8.out.trans (H8.out.new b8).2); clear b8)
  | ((with_reducible show wpList _ _ _ ({ dst := some 57, op := _, type := _, pos := _, after := _, guard := _ } :: _) _ _); refine wpl_app_ly rfl (.tmp 53) (.tmp 56) rfl rfl (Ly.v (12 + s)) w8.heap.size rfl r8.out H8a.out trivial (by simp) 2 rfl ?_; intro g9 q9 w9 hj9 he9; have H9 := hid hj9; have E9 := hid (E8a.out.trans he9); clear hj9 he9)
  | (go_at_call 40; obtain ⟨X, hX, hA⟩ := H9.out.at rfl; have HX := hid hX; have HA := hid hA; clear hX hA; refine (HLY.out _ _ _ _ HX.out HA.out).mono ?_; rintro e w20 ⟨rfl, h20, k20⟩; have H20 := hid (h20.sub (fun g hg => List.mem_append_right X hg)); have E20 := hid (E9.out.trans (k20.sub (fun g hg => List.mem_append_right X hg))); clear h20 k20))
 go_ret
 exact ⟨rfl, H20.out, E20.out⟩
set_option maxHeartbeats 4000000 in
theorem clean_11 {w0 w : World} {jp p gs : Nat} {S : Sp} {J : Jn} {G : List Nat} (h : Jd w0 w jp p gs S J G) (s : Nat) (hs : s < 8) (n : Int) (pd hd : ByteArray) (ex : En) (sx : St) (k1 k2 : Bool) (ha : ex.opn = n) (hb : sx.opn = n) (hc : S.count ≤ 1000000)
  (HOP : Hid (Calls Tryd.prog 62 #[.pointer (some ⟨jp, 0, none⟩), .int .i64 (s : Int)] w fun e w' => e = .returned (.int .i64 n) ∧ w = w'))
  (HE : Hid (∀ W, Fd W → Calls Tryd.prog 51 #[.string pd] W (LQ W ex.cells k1 true))) (HS : Hid (∀ W, Calls Tryd.prog 52 #[.string hd] W (LQ W sx.cells k2 true))) :
  Calls Tryd.prog 61 #[.pointer (some ⟨jp, 0, none⟩), .int .i64 (s : Int), .string pd, .string hd] w (JC w0 w jp p gs (layL S ((cleanL n s true true).map Ly.lay)).1 J G (.int .i64 (layL S ((cleanL n s true true).map Ly.lay)).2)) := by
 have HZE := hid esize
 have HZS := hid stsize
 obtain ⟨i0, hi0, hi1, hi2⟩ := layInfo
 have HSE : Hid (∀ t : En, t.cells.size = 9) := hid fun t => rfl
 have HOE : Hid (∀ t : En, t.cells.all (·.oneCell') = true) := hid ecells_one
 have HSS : Hid (∀ t : St, t.cells.size = 5) := hid fun t => rfl
 have HOS : Hid (∀ t : St, t.cells.all (·.oneCell') = true) := hid stubs_one
 have HPR : Hid (∀ W, Calls Tryd.prog 45 #[.int .i64 (s : Int), .func (.func 44) #[] #[]] W (VE W (.agg (Ly.v (4 + s)).cells.toArray))) := hid fun W => prep_v s W hs
 have HHD : Hid (∀ W, Calls Tryd.prog 43 #[.int .i64 (s : Int), .func (.func 44) #[] #[]] W (VE W (.agg (Ly.v (12 + s)).cells.toArray))) := hid fun W => head_v s W hs
 have HLY : Hid (∀ W X g c, Jd w0 W jp p gs S J (X ++ G) → LyAt W (X ++ G) (some ⟨g, 0, none⟩) (cleanL n s true true) → Calls Tryd.prog 40 #[.pointer (some ⟨jp, 0, none⟩), .slice (some ⟨g, 0, none⟩) 2 c] W (JC w0 W jp p gs (layL S ((cleanL n s true true).map Ly.lay)).1 J (X ++ G) (.int .i64 (layL S ((cleanL n s true true).map Ly.lay)).2))) := hid fun W X g c hW hA => lay_any13 hW (cleanL n s true true) _ c hA (by simp [cleanL]; omega)
 have HH : Hid (JO w0 w jp p gs S J G (.slice none 0 0) []) := hid (JO.nil h)
 have ha2 : (ex.opn == n) = true := by simp [ha]
 have hb2 : (sx.opn == n) = true := by simp [hb]
 clear h hc hs
 go_enter Tryd.func61, Tryd.ntmps61
 go_wp2_with (first
  | (go_at_call 62; refine HOP.out.mono ?_; rintro e w1 ⟨rfl, hw⟩; obtain rfl := hw.symm; clear hw)
  | (go_at_call 51; refine (HE.out _ HH.out.jd.fd).mono ?_; rintro e w2 ⟨rfl, hb2⟩; have H2 := hid (HH.out.new hb2).1; have E2 := hid (HH.out.new hb2).2; clear hb2)
  | (refine wpl_store_st rfl (.tmp 11) (.tmp 23) rfl (n := 9) HZE.out w2.heap.size en0.cells ex.cells rfl rfl (Row.new _ _ _) ?_ (hid rfl) (hid (HSE.out _)) (hid (HOE.out _)); intro w3 hr3 hb3; have b3 : Below w2.heap.size w2 w3 := ((Below.refl w2.heap.size w2).alloc (Nat.le_refl _) _).trans (below_grown hb3 (Nat.le_refl _) (by simp)); have H3 := hid (H2.out.new b3).1; have E3 := hid (E2.out.trans (H2.out.new b3).2); have c3 : w3.cell? ⟨w2.heap.size, 1, none⟩ = some (.int .i64 ex.opn) := hr3.at_ 1 _ rfl; clear hr3 hb3 b3)
  | (go_at_call 45; refine (HPR.out _).mono ?_; rintro e w4 ⟨rfl, hb4⟩; have H4 := hid (H3.out.new hb4).1; have E4 := hid (E3.out.trans (H3.out.new hb4).2); clear hb4)
  | ((with_reducible show wpList _ _ _ ({ dst := some 37, op := _, type := _, pos := _, after := _, guard := _ } :: _) _ _); refine wpl_slice1 rfl 82 87 (.tmp 36) rfl i0 _ 2 Tryd.underlying82 hi0 hi1 hi2 (by decide) (by decide) (Ly.v (4 + s)).cells rfl rfl ?_; have r4 := hid (Row.new w4 87 (Ly.v (4 + s)).cells.toArray); have b4 := (Below.refl w4.heap.size w4).alloc (Nat.le_refl _) (.cells (Ly.v (4 + s)).cells.toArray 87); have H4a := hid (H4.out.new b4).1; have E4a := hid (E4.out.trans (H4.out.new b4).2); clear b4)
  | ((with_reducible show wpList _ _ _ ({ dst := some 38, op := _, type := _, pos := _, after := _, guard := _ } :: _) _ _); refine wpl_app_ly rfl (.tmp 34) (.tmp 37) rfl rfl (Ly.v (4 + s)) w4.heap.size rfl r4.out H4a.out trivial (by simp) 1 rfl ?_; intro g5 q5 w5 hj5 he5; have H5 := hid hj5; have E5 := hid (E4a.out.trans he5); clear hj5 he5)
  | (go_at_call 52; refine (HS.out _).mono ?_; rintro e w6 ⟨rfl, hb6⟩; have H6 := hid (H5.out.new hb6).1; have E6 := hid (E5.out.trans (H5.out.new hb6).2); clear hb6)
  | (refine wpl_store_st rfl (.tmp 14) (.tmp 42) rfl (n := 5) HZS.out w6.heap.size st0.cells sx.cells rfl rfl (Row.new _ _ _) ?_ (hid rfl) (hid (HSS.out _)) (hid (HOS.out _)); intro w7 hr hb; have b : Below w6.heap.size w6 w7 := ((Below.refl w6.heap.size w6).alloc (Nat.le_refl _) _).trans (below_grown hb (Nat.le_refl _) (by simp)); have H7 := hid (H6.out.new b).1; have E7 := hid (E6.out.trans (H6.out.new b).2); have c7 : w7.cell? ⟨w6.heap.size, 0, none⟩ = some (.int .i64 sx.opn) := hr.at_ 0 _ rfl; clear hr hb b)
  | (go_at_call 43; refine (HHD.out _).mono ?_; rintro e w8 ⟨rfl, hb8⟩; have H8 := hid (H7.out.new hb8).1; have E8 := hid (E7.out.trans (H7.out.new hb8).2); clear hb8)
  | ((with_reducible show wpList _ _ _ ({ dst := some 56, op := _, type := _, pos := _, after := _, guard := _ } :: _) _ _); refine wpl_slice1 rfl 82 87 (.tmp 55) rfl i0 _ 2 Tryd.underlying82 hi0 hi1 hi2 (by decide) (by decide) (Ly.v (12 + s)).cells rfl rfl ?_; have r8 := hid (Row.new w8 87 (Ly.v (12 + s)).cells.toArray); have b8 := (Below.refl w8.heap.size w8).alloc (Nat.le_refl _) (.cells (Ly.v (12 + s)).cells.toArray 87); have H8a := hid (H8.out.new b8).1; have E8a := hid (E8.out.trans (H8.out.new b8).2); clear b8)
  | ((with_reducible show wpList _ _ _ ({ dst := some 57, op := _, type := _, pos := _, after := _, guard := _ } :: _) _ _); refine wpl_app_ly rfl (.tmp 53) (.tmp 56) rfl rfl (Ly.v (12 + s)) w8.heap.size rfl r8.out H8a.out trivial (by simp) 2 rfl ?_; intro g9 q9 w9 hj9 he9; have H9 := hid hj9; have E9 := hid (E8a.out.trans he9); clear hj9 he9)
  | (go_at_call 40; obtain ⟨X, hX, hA⟩ := H9.out.at rfl; have HX := hid hX; have HA := hid hA; clear hX hA; refine (HLY.out _ _ _ _ HX.out HA.out).mono ?_; rintro e w20 ⟨rfl, h20, k20⟩; have H20 := hid (h20.sub (fun g hg => List.mem_append_right X hg)); have E20 := hid (E9.out.trans (k20.sub (fun g hg => List.mem_append_right X hg))); clear h20 k20))
 go_ret
 exact ⟨rfl, H20.out, E20.out⟩
set_option maxHeartbeats 4000000 in
theorem clean_12 {w0 w : World} {jp p gs : Nat} {S : Sp} {J : Jn} {G : List Nat} (h : Jd w0 w jp p gs S J G) (s : Nat) (hs : s < 8) (n : Int) (pd hd : ByteArray) (ex : En) (sx : St) (k1 k2 : Bool) (ha : ex.opn = n) (hb : (sx.opn == n) = false) (hc : S.count ≤ 1000000)
  (HOP : Hid (Calls Tryd.prog 62 #[.pointer (some ⟨jp, 0, none⟩), .int .i64 (s : Int)] w fun e w' => e = .returned (.int .i64 n) ∧ w = w'))
  (HE : Hid (∀ W, Fd W → Calls Tryd.prog 51 #[.string pd] W (LQ W ex.cells k1 true))) (HS : Hid (∀ W, Calls Tryd.prog 52 #[.string hd] W (LQ W sx.cells k2 true))) :
  Calls Tryd.prog 61 #[.pointer (some ⟨jp, 0, none⟩), .int .i64 (s : Int), .string pd, .string hd] w (JC w0 w jp p gs (layL S ((cleanL n s true false).map Ly.lay)).1 J G (.int .i64 (layL S ((cleanL n s true false).map Ly.lay)).2)) := by
 have HZE := hid esize
 have HZS := hid stsize
 obtain ⟨i0, hi0, hi1, hi2⟩ := layInfo
 have HSE : Hid (∀ t : En, t.cells.size = 9) := hid fun t => rfl
 have HOE : Hid (∀ t : En, t.cells.all (·.oneCell') = true) := hid ecells_one
 have HSS : Hid (∀ t : St, t.cells.size = 5) := hid fun t => rfl
 have HOS : Hid (∀ t : St, t.cells.all (·.oneCell') = true) := hid stubs_one
 have HPR : Hid (∀ W, Calls Tryd.prog 45 #[.int .i64 (s : Int), .func (.func 44) #[] #[]] W (VE W (.agg (Ly.v (4 + s)).cells.toArray))) := hid fun W => prep_v s W hs
 have HLY : Hid (∀ W X g c, Jd w0 W jp p gs S J (X ++ G) → LyAt W (X ++ G) (some ⟨g, 0, none⟩) (cleanL n s true false) → Calls Tryd.prog 40 #[.pointer (some ⟨jp, 0, none⟩), .slice (some ⟨g, 0, none⟩) 1 c] W (JC w0 W jp p gs (layL S ((cleanL n s true false).map Ly.lay)).1 J (X ++ G) (.int .i64 (layL S ((cleanL n s true false).map Ly.lay)).2))) := hid fun W X g c hW hA => lay_any13 hW (cleanL n s true false) _ c hA (by simp [cleanL]; omega)
 have HH : Hid (JO w0 w jp p gs S J G (.slice none 0 0) []) := hid (JO.nil h)
 have ha2 : (ex.opn == n) = true := by simp [ha]
 clear h hc hs
 go_enter Tryd.func61, Tryd.ntmps61
 go_wp2_with (first
  | (go_at_call 62; refine HOP.out.mono ?_; rintro e w1 ⟨rfl, hw⟩; obtain rfl := hw.symm; clear hw)
  | (go_at_call 51; refine (HE.out _ HH.out.jd.fd).mono ?_; rintro e w2 ⟨rfl, hb2⟩; have H2 := hid (HH.out.new hb2).1; have E2 := hid (HH.out.new hb2).2; clear hb2)
  | (refine wpl_store_st rfl (.tmp 11) (.tmp 23) rfl (n := 9) HZE.out w2.heap.size en0.cells ex.cells rfl rfl (Row.new _ _ _) ?_ (hid rfl) (hid (HSE.out _)) (hid (HOE.out _)); intro w3 hr3 hb3; have b3 : Below w2.heap.size w2 w3 := ((Below.refl w2.heap.size w2).alloc (Nat.le_refl _) _).trans (below_grown hb3 (Nat.le_refl _) (by simp)); have H3 := hid (H2.out.new b3).1; have E3 := hid (E2.out.trans (H2.out.new b3).2); have c3 : w3.cell? ⟨w2.heap.size, 1, none⟩ = some (.int .i64 ex.opn) := hr3.at_ 1 _ rfl; clear hr3 hb3 b3)
  | (go_at_call 45; refine (HPR.out _).mono ?_; rintro e w4 ⟨rfl, hb4⟩; have H4 := hid (H3.out.new hb4).1; have E4 := hid (E3.out.trans (H3.out.new hb4).2); clear hb4)
  | ((with_reducible show wpList _ _ _ ({ dst := some 37, op := _, type := _, pos := _, after := _, guard := _ } :: _) _ _); refine wpl_slice1 rfl 82 87 (.tmp 36) rfl i0 _ 2 Tryd.underlying82 hi0 hi1 hi2 (by decide) (by decide) (Ly.v (4 + s)).cells rfl rfl ?_; have r4 := hid (Row.new w4 87 (Ly.v (4 + s)).cells.toArray); have b4 := (Below.refl w4.heap.size w4).alloc (Nat.le_refl _) (.cells (Ly.v (4 + s)).cells.toArray 87); have H4a := hid (H4.out.new b4).1; have E4a := hid (E4.out.trans (H4.out.new b4).2); clear b4)
  | ((with_reducible show wpList _ _ _ ({ dst := some 38, op := _, type := _, pos := _, after := _, guard := _ } :: _) _ _); refine wpl_app_ly rfl (.tmp 34) (.tmp 37) rfl rfl (Ly.v (4 + s)) w4.heap.size rfl r4.out H4a.out trivial (by simp) 1 rfl ?_; intro g5 q5 w5 hj5 he5; have H5 := hid hj5; have E5 := hid (E4a.out.trans he5); clear hj5 he5)
  | (go_at_call 52; refine (HS.out _).mono ?_; rintro e w6 ⟨rfl, hb6⟩; have H6 := hid (H5.out.new hb6).1; have E6 := hid (E5.out.trans (H5.out.new hb6).2); clear hb6)
  | (refine wpl_store_st rfl (.tmp 14) (.tmp 42) rfl (n := 5) HZS.out w6.heap.size st0.cells sx.cells rfl rfl (Row.new _ _ _) ?_ (hid rfl) (hid (HSS.out _)) (hid (HOS.out _)); intro w7 hr hb; have b : Below w6.heap.size w6 w7 := ((Below.refl w6.heap.size w6).alloc (Nat.le_refl _) _).trans (below_grown hb (Nat.le_refl _) (by simp)); have H7 := hid (H6.out.new b).1; have E7 := hid (E6.out.trans (H6.out.new b).2); have c7 : w7.cell? ⟨w6.heap.size, 0, none⟩ = some (.int .i64 sx.opn) := hr.at_ 0 _ rfl; clear hr hb b)
  | (go_at_call 40; obtain ⟨X, hX, hA⟩ := H7.out.at rfl; have HX := hid hX; have HA := hid hA; clear hX hA; refine (HLY.out _ _ _ _ HX.out HA.out).mono ?_; rintro e w20 ⟨rfl, h20, k20⟩; have H20 := hid (h20.sub (fun g hg => List.mem_append_right X hg)); have E20 := hid (E7.out.trans (k20.sub (fun g hg => List.mem_append_right X hg))); clear h20 k20))
 go_ret
 exact ⟨rfl, H20.out, E20.out⟩
set_option maxHeartbeats 4000000 in
theorem clean_20 {w0 w : World} {jp p gs : Nat} {S : Sp} {J : Jn} {G : List Nat} (h : Jd w0 w jp p gs S J G) (s : Nat) (hs : s < 8) (n : Int) (pd hd : ByteArray) (ex : En) (sx : St) (k1 k2 : Bool) (ha : (ex.opn == n) = false) (hc : S.count ≤ 1000000)
  (HOP : Hid (Calls Tryd.prog 62 #[.pointer (some ⟨jp, 0, none⟩), .int .i64 (s : Int)] w fun e w' => e = .returned (.int .i64 n) ∧ w = w'))
  (HE : Hid (∀ W, Fd W → Calls Tryd.prog 51 #[.string pd] W (LQ W ex.cells k1 true))) (HS : Hid (∀ W, Calls Tryd.prog 52 #[.string hd] W (LQ W sx.cells k2 false))) :
  Calls Tryd.prog 61 #[.pointer (some ⟨jp, 0, none⟩), .int .i64 (s : Int), .string pd, .string hd] w (JC w0 w jp p gs (layL S ((cleanL n s false true).map Ly.lay)).1 J G (.int .i64 (layL S ((cleanL n s false true).map Ly.lay)).2)) := by
 have HZE := hid esize
 have HZS := hid stsize
 obtain ⟨i0, hi0, hi1, hi2⟩ := layInfo
 have HSE : Hid (∀ t : En, t.cells.size = 9) := hid fun t => rfl
 have HOE : Hid (∀ t : En, t.cells.all (·.oneCell') = true) := hid ecells_one
 have HSS : Hid (∀ t : St, t.cells.size = 5) := hid fun t => rfl
 have HOS : Hid (∀ t : St, t.cells.all (·.oneCell') = true) := hid stubs_one
 have HHD : Hid (∀ W, Calls Tryd.prog 43 #[.int .i64 (s : Int), .func (.func 44) #[] #[]] W (VE W (.agg (Ly.v (12 + s)).cells.toArray))) := hid fun W => head_v s W hs
 have HLY : Hid (∀ W X g c, Jd w0 W jp p gs S J (X ++ G) → LyAt W (X ++ G) (some ⟨g, 0, none⟩) (cleanL n s false true) → Calls Tryd.prog 40 #[.pointer (some ⟨jp, 0, none⟩), .slice (some ⟨g, 0, none⟩) 1 c] W (JC w0 W jp p gs (layL S ((cleanL n s false true).map Ly.lay)).1 J (X ++ G) (.int .i64 (layL S ((cleanL n s false true).map Ly.lay)).2))) := hid fun W X g c hW hA => lay_any13 hW (cleanL n s false true) _ c hA (by simp [cleanL]; omega)
 have HH : Hid (JO w0 w jp p gs S J G (.slice none 0 0) []) := hid (JO.nil h)
 clear h hc hs
 go_enter Tryd.func61, Tryd.ntmps61
 go_wp2_with (first
  | (go_at_call 62; refine HOP.out.mono ?_; rintro e w1 ⟨rfl, hw⟩; obtain rfl := hw.symm; clear hw)
  | (go_at_call 51; refine (HE.out _ HH.out.jd.fd).mono ?_; rintro e w2 ⟨rfl, hb2⟩; have H2 := hid (HH.out.new hb2).1; have E2 := hid (HH.out.new hb2).2; clear hb2)
  | (refine wpl_store_st rfl (.tmp 11) (.tmp 23) rfl (n := 9) HZE.out w2.heap.size en0.cells ex.cells rfl rfl (Row.new _ _ _) ?_ (hid rfl) (hid (HSE.out _)) (hid (HOE.out _)); intro w3 hr3 hb3; have b3 : Below w2.heap.size w2 w3 := ((Below.refl w2.heap.size w2).alloc (Nat.le_refl _) _).trans (below_grown hb3 (Nat.le_refl _) (by simp)); have H3 := hid (H2.out.new b3).1; have E3 := hid (E2.out.trans (H2.out.new b3).2); have c3 : w3.cell? ⟨w2.heap.size, 1, none⟩ = some (.int .i64 ex.opn) := hr3.at_ 1 _ rfl; clear hr3 hb3 b3)
  | (go_at_call 52; refine (HS.out _).mono ?_; rintro e w4 ⟨rfl, hb4⟩; have H4 := hid (H3.out.new hb4).1; have E4 := hid (E3.out.trans (H3.out.new hb4).2); clear hb4)
  | (refine wpl_store_st rfl (.tmp 14) (.tmp 42) rfl (n := 5) HZS.out w4.heap.size st0.cells sx.cells rfl rfl (Row.new _ _ _) ?_ (hid rfl) (hid (HSS.out _)) (hid (HOS.out _)); intro w5 hr hb; have b : Below w4.heap.size w4 w5 := ((Below.refl w4.heap.size w4).alloc (Nat.le_refl _) _).trans (below_grown hb (Nat.le_refl _) (by simp)); have H5 := hid (H4.out.new b).1; have E5 := hid (E4.out.trans (H4.out.new b).2); have c5 : w5.cell? ⟨w4.heap.size, 0, none⟩ = some (.int .i64 sx.opn) := hr.at_ 0 _ rfl; clear hr hb b)
  | (go_at_call 43; refine (HHD.out _).mono ?_; rintro e w6 ⟨rfl, hb6⟩; have H6 := hid (H5.out.new hb6).1; have E6 := hid (E5.out.trans (H5.out.new hb6).2); clear hb6)
  | ((with_reducible show wpList _ _ _ ({ dst := some 56, op := _, type := _, pos := _, after := _, guard := _ } :: _) _ _); refine wpl_slice1 rfl 82 87 (.tmp 55) rfl i0 _ 2 Tryd.underlying82 hi0 hi1 hi2 (by decide) (by decide) (Ly.v (12 + s)).cells rfl rfl ?_; have r6 := hid (Row.new w6 87 (Ly.v (12 + s)).cells.toArray); have b6 := (Below.refl w6.heap.size w6).alloc (Nat.le_refl _) (.cells (Ly.v (12 + s)).cells.toArray 87); have H6a := hid (H6.out.new b6).1; have E6a := hid (E6.out.trans (H6.out.new b6).2); clear b6)
  | ((with_reducible show wpList _ _ _ ({ dst := some 57, op := _, type := _, pos := _, after := _, guard := _ } :: _) _ _); refine wpl_app_ly rfl (.tmp 53) (.tmp 56) rfl rfl (Ly.v (12 + s)) w6.heap.size rfl r6.out H6a.out trivial (by simp) 1 rfl ?_; intro g7 q7 w7 hj7 he7; have H7 := hid hj7; have E7 := hid (E6a.out.trans he7); clear hj7 he7)
  | (go_at_call 40; obtain ⟨X, hX, hA⟩ := H7.out.at rfl; have HX := hid hX; have HA := hid hA; clear hX hA; refine (HLY.out _ _ _ _ HX.out HA.out).mono ?_; rintro e w20 ⟨rfl, h20, k20⟩; have H20 := hid (h20.sub (fun g hg => List.mem_append_right X hg)); have E20 := hid (E7.out.trans (k20.sub (fun g hg => List.mem_append_right X hg))); clear h20 k20))
 go_ret
 exact ⟨rfl, H20.out, E20.out⟩
set_option maxHeartbeats 4000000 in
theorem clean_21 {w0 w : World} {jp p gs : Nat} {S : Sp} {J : Jn} {G : List Nat} (h : Jd w0 w jp p gs S J G) (s : Nat) (hs : s < 8) (n : Int) (pd hd : ByteArray) (ex : En) (sx : St) (k1 k2 : Bool) (ha : (ex.opn == n) = false) (hb : sx.opn = n) (hc : S.count ≤ 1000000)
  (HOP : Hid (Calls Tryd.prog 62 #[.pointer (some ⟨jp, 0, none⟩), .int .i64 (s : Int)] w fun e w' => e = .returned (.int .i64 n) ∧ w = w'))
  (HE : Hid (∀ W, Fd W → Calls Tryd.prog 51 #[.string pd] W (LQ W ex.cells k1 true))) (HS : Hid (∀ W, Calls Tryd.prog 52 #[.string hd] W (LQ W sx.cells k2 true))) :
  Calls Tryd.prog 61 #[.pointer (some ⟨jp, 0, none⟩), .int .i64 (s : Int), .string pd, .string hd] w (JC w0 w jp p gs (layL S ((cleanL n s false true).map Ly.lay)).1 J G (.int .i64 (layL S ((cleanL n s false true).map Ly.lay)).2)) := by
 have HZE := hid esize
 have HZS := hid stsize
 obtain ⟨i0, hi0, hi1, hi2⟩ := layInfo
 have HSE : Hid (∀ t : En, t.cells.size = 9) := hid fun t => rfl
 have HOE : Hid (∀ t : En, t.cells.all (·.oneCell') = true) := hid ecells_one
 have HSS : Hid (∀ t : St, t.cells.size = 5) := hid fun t => rfl
 have HOS : Hid (∀ t : St, t.cells.all (·.oneCell') = true) := hid stubs_one
 have HHD : Hid (∀ W, Calls Tryd.prog 43 #[.int .i64 (s : Int), .func (.func 44) #[] #[]] W (VE W (.agg (Ly.v (12 + s)).cells.toArray))) := hid fun W => head_v s W hs
 have HLY : Hid (∀ W X g c, Jd w0 W jp p gs S J (X ++ G) → LyAt W (X ++ G) (some ⟨g, 0, none⟩) (cleanL n s false true) → Calls Tryd.prog 40 #[.pointer (some ⟨jp, 0, none⟩), .slice (some ⟨g, 0, none⟩) 1 c] W (JC w0 W jp p gs (layL S ((cleanL n s false true).map Ly.lay)).1 J (X ++ G) (.int .i64 (layL S ((cleanL n s false true).map Ly.lay)).2))) := hid fun W X g c hW hA => lay_any13 hW (cleanL n s false true) _ c hA (by simp [cleanL]; omega)
 have HH : Hid (JO w0 w jp p gs S J G (.slice none 0 0) []) := hid (JO.nil h)
 have hb2 : (sx.opn == n) = true := by simp [hb]
 clear h hc hs
 go_enter Tryd.func61, Tryd.ntmps61
 go_wp2_with (first
  | (go_at_call 62; refine HOP.out.mono ?_; rintro e w1 ⟨rfl, hw⟩; obtain rfl := hw.symm; clear hw)
  | (go_at_call 51; refine (HE.out _ HH.out.jd.fd).mono ?_; rintro e w2 ⟨rfl, hb2⟩; have H2 := hid (HH.out.new hb2).1; have E2 := hid (HH.out.new hb2).2; clear hb2)
  | (refine wpl_store_st rfl (.tmp 11) (.tmp 23) rfl (n := 9) HZE.out w2.heap.size en0.cells ex.cells rfl rfl (Row.new _ _ _) ?_ (hid rfl) (hid (HSE.out _)) (hid (HOE.out _)); intro w3 hr3 hb3; have b3 : Below w2.heap.size w2 w3 := ((Below.refl w2.heap.size w2).alloc (Nat.le_refl _) _).trans (below_grown hb3 (Nat.le_refl _) (by simp)); have H3 := hid (H2.out.new b3).1; have E3 := hid (E2.out.trans (H2.out.new b3).2); have c3 : w3.cell? ⟨w2.heap.size, 1, none⟩ = some (.int .i64 ex.opn) := hr3.at_ 1 _ rfl; clear hr3 hb3 b3)
  | (go_at_call 52; refine (HS.out _).mono ?_; rintro e w4 ⟨rfl, hb4⟩; have H4 := hid (H3.out.new hb4).1; have E4 := hid (E3.out.trans (H3.out.new hb4).2); clear hb4)
  | (refine wpl_store_st rfl (.tmp 14) (.tmp 42) rfl (n := 5) HZS.out w4.heap.size st0.cells sx.cells rfl rfl (Row.new _ _ _) ?_ (hid rfl) (hid (HSS.out _)) (hid (HOS.out _)); intro w5 hr hb; have b : Below w4.heap.size w4 w5 := ((Below.refl w4.heap.size w4).alloc (Nat.le_refl _) _).trans (below_grown hb (Nat.le_refl _) (by simp)); have H5 := hid (H4.out.new b).1; have E5 := hid (E4.out.trans (H4.out.new b).2); have c5 : w5.cell? ⟨w4.heap.size, 0, none⟩ = some (.int .i64 sx.opn) := hr.at_ 0 _ rfl; clear hr hb b)
  | (go_at_call 43; refine (HHD.out _).mono ?_; rintro e w6 ⟨rfl, hb6⟩; have H6 := hid (H5.out.new hb6).1; have E6 := hid (E5.out.trans (H5.out.new hb6).2); clear hb6)
  | ((with_reducible show wpList _ _ _ ({ dst := some 56, op := _, type := _, pos := _, after := _, guard := _ } :: _) _ _); refine wpl_slice1 rfl 82 87 (.tmp 55) rfl i0 _ 2 Tryd.underlying82 hi0 hi1 hi2 (by decide) (by decide) (Ly.v (12 + s)).cells rfl rfl ?_; have r6 := hid (Row.new w6 87 (Ly.v (12 + s)).cells.toArray); have b6 := (Below.refl w6.heap.size w6).alloc (Nat.le_refl _) (.cells (Ly.v (12 + s)).cells.toArray 87); have H6a := hid (H6.out.new b6).1; have E6a := hid (E6.out.trans (H6.out.new b6).2); clear b6)
  | ((with_reducible show wpList _ _ _ ({ dst := some 57, op := _, type := _, pos := _, after := _, guard := _ } :: _) _ _); refine wpl_app_ly rfl (.tmp 53) (.tmp 56) rfl rfl (Ly.v (12 + s)) w6.heap.size rfl r6.out H6a.out trivial (by simp) 1 rfl ?_; intro g7 q7 w7 hj7 he7; have H7 := hid hj7; have E7 := hid (E6a.out.trans he7); clear hj7 he7)
  | (go_at_call 40; obtain ⟨X, hX, hA⟩ := H7.out.at rfl; have HX := hid hX; have HA := hid hA; clear hX hA; refine (HLY.out _ _ _ _ HX.out HA.out).mono ?_; rintro e w20 ⟨rfl, h20, k20⟩; have H20 := hid (h20.sub (fun g hg => List.mem_append_right X hg)); have E20 := hid (E7.out.trans (k20.sub (fun g hg => List.mem_append_right X hg))); clear h20 k20))
 go_ret
 exact ⟨rfl, H20.out, E20.out⟩
set_option maxHeartbeats 4000000 in
theorem clean_22 {w0 w : World} {jp p gs : Nat} {S : Sp} {J : Jn} {G : List Nat} (h : Jd w0 w jp p gs S J G) (s : Nat) (_hs : s < 8) (n : Int) (pd hd : ByteArray) (ex : En) (sx : St) (k1 k2 : Bool) (ha : (ex.opn == n) = false) (hb : (sx.opn == n) = false) (hc : S.count ≤ 1000000)
  (HOP : Hid (Calls Tryd.prog 62 #[.pointer (some ⟨jp, 0, none⟩), .int .i64 (s : Int)] w fun e w' => e = .returned (.int .i64 n) ∧ w = w'))
  (HE : Hid (∀ W, Fd W → Calls Tryd.prog 51 #[.string pd] W (LQ W ex.cells k1 true))) (HS : Hid (∀ W, Calls Tryd.prog 52 #[.string hd] W (LQ W sx.cells k2 true))) :
  Calls Tryd.prog 61 #[.pointer (some ⟨jp, 0, none⟩), .int .i64 (s : Int), .string pd, .string hd] w (JC w0 w jp p gs (layL S ((cleanL n s false false).map Ly.lay)).1 J G (.int .i64 (layL S ((cleanL n s false false).map Ly.lay)).2)) := by
 have HZE := hid esize
 have HZS := hid stsize
 obtain ⟨i0, hi0, hi1, hi2⟩ := layInfo
 have HSE : Hid (∀ t : En, t.cells.size = 9) := hid fun t => rfl
 have HOE : Hid (∀ t : En, t.cells.all (·.oneCell') = true) := hid ecells_one
 have HSS : Hid (∀ t : St, t.cells.size = 5) := hid fun t => rfl
 have HOS : Hid (∀ t : St, t.cells.all (·.oneCell') = true) := hid stubs_one
 have HL0 : Hid (∀ W, Jd w0 W jp p gs S J G → Calls Tryd.prog 40 #[.pointer (some ⟨jp, 0, none⟩), .slice none 0 0] W (JC w0 W jp p gs S J G (.int .i64 0))) := hid fun W hW => lay_none hW hc
 have e0 : layL S (([] : List Ly).map Ly.lay) = (S, 0) := rfl
 have HH : Hid (JO w0 w jp p gs S J G (.slice none 0 0) []) := hid (JO.nil h)
 clear h hc _hs
 go_enter Tryd.func61, Tryd.ntmps61
 go_wp2_with (first
  | (go_at_call 62; refine HOP.out.mono ?_; rintro e w1 ⟨rfl, hw⟩; obtain rfl := hw.symm; clear hw)
  | (go_at_call 51; refine (HE.out _ HH.out.jd.fd).mono ?_; rintro e w2 ⟨rfl, hb2⟩; have H2 := hid (HH.out.new hb2).1; have E2 := hid (HH.out.new hb2).2; clear hb2)
  | (refine wpl_store_st rfl (.tmp 11) (.tmp 23) rfl (n := 9) HZE.out w2.heap.size en0.cells ex.cells rfl rfl (Row.new _ _ _) ?_ (hid rfl) (hid (HSE.out _)) (hid (HOE.out _)); intro w3 hr3 hb3; have b3 : Below w2.heap.size w2 w3 := ((Below.refl w2.heap.size w2).alloc (Nat.le_refl _) _).trans (below_grown hb3 (Nat.le_refl _) (by simp)); have H3 := hid (H2.out.new b3).1; have E3 := hid (E2.out.trans (H2.out.new b3).2); have c3 : w3.cell? ⟨w2.heap.size, 1, none⟩ = some (.int .i64 ex.opn) := hr3.at_ 1 _ rfl; clear hr3 hb3 b3)
  | (go_at_call 52; refine (HS.out _).mono ?_; rintro e w4 ⟨rfl, hb4⟩; have H4 := hid (H3.out.new hb4).1; have E4 := hid (E3.out.trans (H3.out.new hb4).2); clear hb4)
  | (refine wpl_store_st rfl (.tmp 14) (.tmp 42) rfl (n := 5) HZS.out w4.heap.size st0.cells sx.cells rfl rfl (Row.new _ _ _) ?_ (hid rfl) (hid (HSS.out _)) (hid (HOS.out _)); intro w5 hr hb; have b : Below w4.heap.size w4 w5 := ((Below.refl w4.heap.size w4).alloc (Nat.le_refl _) _).trans (below_grown hb (Nat.le_refl _) (by simp)); have H5 := hid (H4.out.new b).1; have E5 := hid (E4.out.trans (H4.out.new b).2); have c5 : w5.cell? ⟨w4.heap.size, 0, none⟩ = some (.int .i64 sx.opn) := hr.at_ 0 _ rfl; clear hr hb b)
  | (go_at_call 40; refine (HL0.out _ H5.out.jd).mono ?_; rintro e w20 ⟨rfl, h20, k20⟩; have H20 := hid h20; have E20 := hid (E5.out.trans k20); clear h20 k20))
 go_ret
 exact ⟨rfl, H20.out, E20.out⟩
theorem clean_any13 {w0 w : World} {jp p gs : Nat} {S : Sp} {J : Jn} {G : List Nat} (h : Jd w0 w jp p gs S J G) (h0 : 0 ≤ J.c) (h1 : J.c ≤ 72057594037927927) (s : Nat) (hs : s < 8) (pd hd : ByteArray) (hc : S.count ≤ 1000000) :
  Calls Tryd.prog 61 #[.pointer (some ⟨jp, 0, none⟩), .int .i64 (s : Int), .string pd, .string hd] w (JC w0 w jp p gs (layL S (cleanP (sb pd) (sb hd) (slotN J.c s))).1 J G (.int .i64 (layL S (cleanP (sb pd) (sb hd) (slotN J.c s))).2)) := by
 have hi := slotN_in J.c s
 have hm := slotN_mod J.c s hs
 have HOP := hid (oper_any h h0 h1 s hs)
 have HE : Hid (∀ W, Fd W → Calls Tryd.prog 51 #[.string pd] W (LQ W (entryS (sb pd)).1.cells (entryS (sb pd)).2.1 (entryS (sb pd)).2.2)) := hid fun W hW => entryS_any pd W hW
 have HS : Hid (∀ W, Calls Tryd.prog 52 #[.string hd] W (LQ W (stubT (sb hd)).1.cells (stubT (sb hd)).2.1 (stubT (sb hd)).2.2)) := hid fun W => stubT_any hd W
 rw [clean_eq (s := s) (by unfold pN; omega) (by unfold hN; omega) (by omega)]
 generalize slotN J.c s = n at *
 generalize entryS (sb pd) = E at *
 generalize stubT (sb hd) = T at *
 obtain ⟨ex, k1, r1⟩ := E
 obtain ⟨sx, k2, r2⟩ := T
 simp only at *
 cases r1
 ·
  cases r2
  ·
   exact clean_00 h s hs n pd hd ex sx k1 k2 hc HOP HE HS
  ·
   by_cases hb : sx.opn = n
   ·
    simp only [hb, Bool.not_true, Bool.not_false, decide_true, Bool.or_true, Bool.true_or]
    exact clean_01 h s hs n pd hd ex sx k1 k2 hb hc HOP HE HS
   ·
    simp only [hb, Bool.not_true, Bool.not_false, decide_false, Bool.or_false, Bool.true_or]
    exact clean_02 h s hs n pd hd ex sx k1 k2 (by simpa using hb) hc HOP HE HS
 ·
  by_cases ha : ex.opn = n
  ·
   simp only [ha, Bool.not_true, decide_true, Bool.or_true]
   cases r2
   ·
    exact clean_10 h s hs n pd hd ex sx k1 k2 ha hc HOP HE HS
   ·
    by_cases hb : sx.opn = n
    ·
     simp only [hb, Bool.not_true, decide_true, Bool.or_true]
     exact clean_11 h s hs n pd hd ex sx k1 k2 ha hb hc HOP HE HS
    ·
     simp only [hb, Bool.not_true, decide_false, Bool.or_false]
     exact clean_12 h s hs n pd hd ex sx k1 k2 ha (by simpa using hb) hc HOP HE HS
  ·
   simp only [ha, Bool.not_true, decide_false, Bool.or_false]
   cases r2
   ·
    exact clean_20 h s hs n pd hd ex sx k1 k2 (by simpa using ha) hc HOP HE HS
   ·
    by_cases hb : sx.opn = n
    ·
     simp only [hb, Bool.not_true, decide_true, Bool.or_true]
     exact clean_21 h s hs n pd hd ex sx k1 k2 (by simpa using ha) hb hc HOP HE HS
    ·
     simp only [hb, Bool.not_true, decide_false, Bool.or_false]
     exact clean_22 h s hs n pd hd ex sx k1 k2 (by simpa using ha) (by simpa using hb) hc HOP HE HS
end Go.Proofs.YtafbeepacncooaaDoor
/-
  The walk of package journal's find.
-/
namespace Go.Proofs.YtafbeepacncooaaDoor
open Go.RowKit
set_option maxRecDepth 10000

section
variable {w0 w w1 : World} {jp p gs : Nat} {S : Sp} {J : Jn} {G : List Nat}
/-- a variable's block, made and stored -/
theorem Jd.one (h : Jd w0 w jp p gs S J G) {o : Obj} (hg : (w.alloc o).grownBy w1 (some w.heap.size)) : Jd w0 w1 jp p gs S J (w.heap.size :: G) ∧ Ek w w1 G := by
 have hb : Below w.heap.size w w1 := ((Below.refl w.heap.size w).alloc (Nat.le_refl _) o).trans (below_grown hg (Nat.le_refl _) (by simp))
 exact ⟨h.add hb (Nat.le_refl _) (by have := hg.size; simp at this; omega), (h.new hb).2⟩
/-- two blocks, the second one stored -/
theorem Jd.two (h : Jd w0 w jp p gs S J G) {C : Array Value} {T : TypeId} {o : Obj} (hg : ((w.alloc (.cells C T)).alloc o).grownBy w1 (some (w.heap.size + 1))) :
  Jd w0 w1 jp p gs S J ((w.heap.size + 1) :: w.heap.size :: G) ∧ Ek w w1 G ∧ Row w1 w.heap.size T C.toList := by
 have hb0 : Below w.heap.size w (w.alloc (.cells C T)) := (Below.refl w.heap.size w).alloc (Nat.le_refl _) _
 have h1 := h.add hb0 (g := w.heap.size) (Nat.le_refl _) (by simp)
 have hs : (w.alloc (.cells C T)).heap.size = w.heap.size + 1 := by simp
 have h2 := h1.one (o := o) (w1 := w1) (by rw [hs]; exact hg)
 rw [hs] at h2
 exact ⟨h2.1, (h.new hb0).2.trans h2.2.tail, h2.2.row (Row.new w T C) (by simp)⟩
end
theorem rg_alloc {w : World} {g k : Nat} {cs : List Value} {o : Obj} (h : w.rangeAt g k cs) : (w.alloc o).rangeAt g k cs := fun j v hv => (World.cell?_alloc_lt _ _ _ (World.block_lt_of_cell? w _ (h j v hv))).trans (h j v hv)
set_option maxHeartbeats 2000000 in
theorem find_yes {w0 w : World} {jp p gs : Nat} {S : Sp} {J : Jn} {G : List Nat} (h : Jd w0 w jp p gs S J G) (s : Nat) (hs : s < 8) (pd : ByteArray) (hy : stubS (entryS (sb pd)).1 = (J.item (slotN J.c s)).stub) :
  Calls Tryd.prog 37 #[.pointer (some ⟨jp, 0, none⟩), .int .i64 (s : Int), .string pd] w (JC w0 w jp p gs S J G (.tuple #[.agg (entryS (sb pd)).1.cells, .bool true])) := by
 have HZ := hid stsize
 have HZE := hid esize
 have hb : (s : Int) < 8 := by omega
 have HRG := hid (stub_range h hs)
 have HE : Hid (∀ W, Fd W → Calls Tryd.prog 51 #[.string pd] W (LQ W (entryS (sb pd)).1.cells (entryS (sb pd)).2.1 (entryS (sb pd)).2.2)) := hid fun W hW => entryS_any pd W hW
 have HST : Hid (∀ W, Fd W → Calls Tryd.prog 13 #[.agg (entryS (sb pd)).1.cells] W (VE W (.agg (stubS (entryS (sb pd)).1).cells))) := hid fun W hW => sstub_any _ (entryS_fits _) W hW
 have HSZ : Hid (∀ t : St, t.cells.size = 5) := hid fun t => rfl
 have HON : Hid (∀ t : St, t.cells.all (·.oneCell') = true) := hid stubs_one
 have HSE : Hid (∀ t : En, t.cells.size = 9) := hid fun t => rfl
 have HOE : Hid (∀ t : En, t.cells.all (·.oneCell') = true) := hid ecells_one
 have HI := hid h
 generalize (J.item (slotN J.c s)).stub = t at *
 generalize stubS (entryS (sb pd)).1 = y at *
 generalize entryS (sb pd) = T at *
 obtain ⟨ex, b1, b2⟩ := T
 simp only at *
 have HEQ := hid (show decide (y = t) = true by simp [hy])
 clear h hs hy
 go_enter Tryd.func37, Tryd.ntmps37
 go_wp2_with (first
  | (refine wpl_load_midw rfl 42 (.tmp 17) rfl jp (2 + s * 15 + 1) rfl t.cells.toList _ (rg_alloc HRG.out) Tryd.underlying42 rfl (by rw [Array.length_toList, HSZ.out]; exact HZ.out) ?_)
  | ((with_reducible show wpList _ _ _ ({ dst := none, op := .store _ (.tmp 8) _, type := _, pos := _, after := _, guard := _ } :: _) _ _); refine wpl_store_st rfl (.tmp 8) (.tmp 18) rfl (n := 5) HZ.out (w.heap.size + 1) st0.cells t.cells rfl rfl (alloc2_new _ _ _) ?_ (hid rfl) (hid (HSZ.out _)) (hid (HON.out _)); intro w1 hr1 hb1; obtain ⟨q1, q2, q3⟩ := HI.out.two hb1; have H1 := hid q1; have E1 := hid q2; have A1 := hid q3; have R1 := hid hr1; clear q1 q2 q3 hr1 hb1)
  | (go_at_call 51; refine (HE.out _ H1.out.fd).mono ?_; rintro e w2 ⟨rfl, hb2⟩; have H2 := hid (H1.out.new hb2).1; have K2 := hid (H1.out.new hb2).2; have E2 := hid (E1.out.trans K2.out.tail.tail); have R2 := hid (K2.out.row R1.out (by simp)); have A2 := hid (K2.out.row A1.out (by simp)); clear hb2)
  | ((with_reducible show wpList _ _ _ ({ dst := none, op := .store _ (.tmp 9) _, type := _, pos := _, after := _, guard := _ } :: _) _ _); refine wpl_store_st rfl (.tmp 9) (.tmp 22) rfl (n := 9) HZE.out w2.heap.size en0.cells ex.cells rfl rfl (Row.new _ _ _) ?_ (hid rfl) (hid (HSE.out _)) (hid (HOE.out _)); intro w3 hr3 hb3; obtain ⟨q1, q2⟩ := H2.out.one hb3; have H3 := hid q1; have E3 := hid (E2.out.trans q2.tail.tail); have R3 := hid (q2.row R2.out (by simp)); have A3 := hid (q2.row A2.out (by simp)); have X3 := hid hr3; clear q1 q2 hr3 hb3))
 have hsze : (Tryd.prog.info? 28).map (·.size) = some ex.cells.size := by rw [HSE.out]; exact HZE.out
 have hszt : (Tryd.prog.info? 42).map (·.size) = some t.cells.size := by rw [HSZ.out]; exact HZ.out
 try simp only [Act.put, U1,U2,U3,U4,U5,U6]
 refine wp_region_held_drew (S := fun W => Jd w0 W jp p gs S J (w2.heap.size :: (w.heap.size + 1) :: w.heap.size :: G) ∧ Ek w3 W (w2.heap.size :: (w.heap.size + 1) :: w.heap.size :: G)) (by kernel_rfl) (⟨H3.out.drew, fun _ _ => rfl⟩) (fun hH => ?_)
 refine tk_ (i := 0) (v := .agg ex.cells) rfl ?_ hH ?_
 ·
  refine yieldsIf_load_mid ?_ 28 (.tmp 9) ?_ w2.heap.size 0 ?_ (Array.toList ex.cells) _ (fun W hW => Row.range (hW.2.row X3.out (by simp))) Tryd.underlying28 rfl (by exact hsze)
  all_goals kernel_rfl
 simp only [Act.put, U1, U3, U4, U5, U6]
 refine tk_ (i := 2) (v := .agg t.cells) rfl ?_ hH ?_
 ·
  refine yieldsIf_load_mid ?_ 42 (.tmp 8) ?_ (w.heap.size + 1) 0 ?_ (Array.toList t.cells) _ (fun W hW => Row.range (hW.2.row R3.out (by simp))) Tryd.underlying42 rfl (by exact hszt)
  all_goals kernel_rfl
 simp only [Act.put, U1,U2,U3,U4,U5,U6]
 refine wpAnyH_ready (rs := [1]) (by kernel_rfl) (by simp) ?_
 refine AllReadyH.cons rfl (fun K hK => ?_) AllReadyH.nil
 go_simp
 go_at_call 13
 refine (HST.out _ hH.1.fd).mono ?_
 rintro e w4 ⟨rfl, hb4⟩
 go_wp2_with fail
 refine hK.out _ _ (⟨(hH.1.new hb4).1, hH.2.trans (hH.1.new hb4).2⟩) (fun hH => ?_)
 clear hK K
 try simp only [Act.put, U1,U2,U3,U4,U5,U6]
 refine tk_ (i := 3) (v := .bool (!true)) rfl (yields_nes (by kernel_rfl) y t true HEQ (.tmp 26) (.tmp 27) _ rfl (by kernel_rfl) (by kernel_rfl)) hH ?_
 simp only [Act.put, U1,U2,U3,U4,U5,U6]
 refine wpAnyH_done (by kernel_rfl) ?_ _
 try simp only [Act.put, U1,U2,U3,U4,U5,U6]
 have H4 := hid hH.1
 have K4 := hid hH.2
 have E4 := hid (E3.out.trans K4.out.tail.tail.tail)
 have R4 := hid (K4.out.row R3.out (by simp))
 have A4 := hid (K4.out.row A3.out (by simp))
 have X4 := hid (K4.out.row X3.out (by simp))
 clear hH hb4
 go_wp2_with (first
  | (refine wpList_load_row rfl 28 (.tmp 9) rfl w2.heap.size rfl 28 ex.cells (0, 0) _ X4.out.arr Tryd.underlying28 rfl (by rw [HSE.out]; exact HZE.out) ?_)
  | ((with_reducible show wpList _ _ _ ({ dst := none, op := .store _ (.tmp 6) _, type := _, pos := _, after := _, guard := _ } :: _) _ _); refine wpl_store_st rfl (.tmp 6) (.tmp 37) rfl (n := 9) HZE.out w.heap.size en0.cells ex.cells rfl rfl A4.out ?_ (hid rfl) (hid (HSE.out _)) (hid (HOE.out _)); intro w5 hr5 hb5; have H5 := hid (H4.out.put (g := w.heap.size) (by simp) HI.out.size hb5); have E5 := hid (E4.out.trans (ek_put hb5 (fun g hg => H4.out.lt g (by simp [hg])) (fun hn => Nat.lt_irrefl _ (HI.out.lt _ hn)))); have R5 := hid hr5; clear hr5 hb5))
 exact bodyPost_ret (v := .tuple #[.agg ex.cells, .bool true]) (results_cell1 rfl _ _ w.heap.size 28 ex.cells (0, 0) _ (.bool true) rfl rfl R5.out.arr Tryd.underlying28 rfl (by rw [HSE.out]; exact HZE.out)) rfl ⟨rfl, H5.out.tail.tail.tail, E5.out⟩
end Go.Proofs.YtafbeepacncooaaDoor
/-
  The walk of package journal's find.
-/
namespace Go.Proofs.YtafbeepacncooaaDoor
open Go.RowKit
set_option maxRecDepth 10000

set_option maxHeartbeats 2000000 in
theorem find_no {w0 w : World} {jp p gs : Nat} {S : Sp} {J : Jn} {G : List Nat} (h : Jd w0 w jp p gs S J G) (hl : J.x.length = 8) (s : Nat) (hs : s < 8) (pd : ByteArray) (hy : stubS (entryS (sb pd)).1 ≠ (J.item (slotN J.c s)).stub) :
  Calls Tryd.prog 37 #[.pointer (some ⟨jp, 0, none⟩), .int .i64 (s : Int), .string pd] w (JC w0 w jp p gs S (J.set (slotN J.c s) ⟨2, (J.item (slotN J.c s)).stub, en0⟩) G (.tuple #[.agg en0.cells, .bool false])) := by
 have HZ := hid stsize
 have HZE := hid esize
 have hb : (s : Int) < 8 := by omega
 have HRG := hid (stub_range h hs)
 have HE : Hid (∀ W, Fd W → Calls Tryd.prog 51 #[.string pd] W (LQ W (entryS (sb pd)).1.cells (entryS (sb pd)).2.1 (entryS (sb pd)).2.2)) := hid fun W hW => entryS_any pd W hW
 have HST : Hid (∀ W, Fd W → Calls Tryd.prog 13 #[.agg (entryS (sb pd)).1.cells] W (VE W (.agg (stubS (entryS (sb pd)).1).cells))) := hid fun W hW => sstub_any _ (entryS_fits _) W hW
 have HSZ : Hid (∀ t : St, t.cells.size = 5) := hid fun t => rfl
 have HON : Hid (∀ t : St, t.cells.all (·.oneCell') = true) := hid stubs_one
 have HSE : Hid (∀ t : En, t.cells.size = 9) := hid fun t => rfl
 have HOE : Hid (∀ t : En, t.cells.all (·.oneCell') = true) := hid ecells_one
 have HI := hid h
 generalize (J.item (slotN J.c s)).stub = t at *
 generalize stubS (entryS (sb pd)).1 = y at *
 generalize entryS (sb pd) = T at *
 obtain ⟨ex, b1, b2⟩ := T
 simp only at *
 have HEQ := hid (show decide (y = t) = false by simp [hy])
 clear h hy
 go_enter Tryd.func37, Tryd.ntmps37
 go_wp2_with (first
  | (refine wpl_load_midw rfl 42 (.tmp 17) rfl jp (2 + s * 15 + 1) rfl t.cells.toList _ (rg_alloc HRG.out) Tryd.underlying42 rfl (by rw [Array.length_toList, HSZ.out]; exact HZ.out) ?_)
  | ((with_reducible show wpList _ _ _ ({ dst := none, op := .store _ (.tmp 8) _, type := _, pos := _, after := _, guard := _ } :: _) _ _); refine wpl_store_st rfl (.tmp 8) (.tmp 18) rfl (n := 5) HZ.out (w.heap.size + 1) st0.cells t.cells rfl rfl (alloc2_new _ _ _) ?_ (hid rfl) (hid (HSZ.out _)) (hid (HON.out _)); intro w1 hr1 hb1; obtain ⟨q1, q2, q3⟩ := HI.out.two hb1; have H1 := hid q1; have E1 := hid q2; have A1 := hid q3; have R1 := hid hr1; clear q1 q2 q3 hr1 hb1)
  | (go_at_call 51; refine (HE.out _ H1.out.fd).mono ?_; rintro e w2 ⟨rfl, hb2⟩; have H2 := hid (H1.out.new hb2).1; have K2 := hid (H1.out.new hb2).2; have E2 := hid (E1.out.trans K2.out.tail.tail); have R2 := hid (K2.out.row R1.out (by simp)); have A2 := hid (K2.out.row A1.out (by simp)); clear hb2)
  | ((with_reducible show wpList _ _ _ ({ dst := none, op := .store _ (.tmp 9) _, type := _, pos := _, after := _, guard := _ } :: _) _ _); refine wpl_store_st rfl (.tmp 9) (.tmp 22) rfl (n := 9) HZE.out w2.heap.size en0.cells ex.cells rfl rfl (Row.new _ _ _) ?_ (hid rfl) (hid (HSE.out _)) (hid (HOE.out _)); intro w3 hr3 hb3; obtain ⟨q1, q2⟩ := H2.out.one hb3; have H3 := hid q1; have E3 := hid (E2.out.trans q2.tail.tail); have R3 := hid (q2.row R2.out (by simp)); have A3 := hid (q2.row A2.out (by simp)); have X3 := hid hr3; clear q1 q2 hr3 hb3))
 have hsze : (Tryd.prog.info? 28).map (·.size) = some ex.cells.size := by rw [HSE.out]; exact HZE.out
 have hszt : (Tryd.prog.info? 42).map (·.size) = some t.cells.size := by rw [HSZ.out]; exact HZ.out
 try simp only [Act.put, U1,U2,U3,U4,U5,U6]
 refine wp_region_held_drew (S := fun W => Jd w0 W jp p gs S J (w2.heap.size :: (w.heap.size + 1) :: w.heap.size :: G) ∧ Ek w3 W (w2.heap.size :: (w.heap.size + 1) :: w.heap.size :: G)) (by kernel_rfl) (⟨H3.out.drew, fun _ _ => rfl⟩) (fun hH => ?_)
 refine tk_ (i := 0) (v := .agg ex.cells) rfl ?_ hH ?_
 ·
  refine yieldsIf_load_mid ?_ 28 (.tmp 9) ?_ w2.heap.size 0 ?_ (Array.toList ex.cells) _ (fun W hW => Row.range (hW.2.row X3.out (by simp))) Tryd.underlying28 rfl (by exact hsze)
  all_goals kernel_rfl
 simp only [Act.put, U1, U3, U4, U5, U6]
 refine tk_ (i := 2) (v := .agg t.cells) rfl ?_ hH ?_
 ·
  refine yieldsIf_load_mid ?_ 42 (.tmp 8) ?_ (w.heap.size + 1) 0 ?_ (Array.toList t.cells) _ (fun W hW => Row.range (hW.2.row R3.out (by simp))) Tryd.underlying42 rfl (by exact hszt)
  all_goals kernel_rfl
 simp only [Act.put, U1,U2,U3,U4,U5,U6]
 refine wpAnyH_ready (rs := [1]) (by kernel_rfl) (by simp) ?_
 refine AllReadyH.cons rfl (fun K hK => ?_) AllReadyH.nil
 go_simp
 go_at_call 13
 refine (HST.out _ hH.1.fd).mono ?_
 rintro e w4 ⟨rfl, hb4⟩
 go_wp2_with fail
 refine hK.out _ _ (⟨(hH.1.new hb4).1, hH.2.trans (hH.1.new hb4).2⟩) (fun hH => ?_)
 clear hK K
 try simp only [Act.put, U1,U2,U3,U4,U5,U6]
 refine tk_ (i := 3) (v := .bool (!false)) rfl (yields_nes (by kernel_rfl) y t false HEQ (.tmp 26) (.tmp 27) _ rfl (by kernel_rfl) (by kernel_rfl)) hH ?_
 simp only [Act.put, U1,U2,U3,U4,U5,U6]
 refine wpAnyH_done (by kernel_rfl) ?_ _
 try simp only [Act.put, U1,U2,U3,U4,U5,U6]
 have H4 := hid hH.1
 have K4 := hid hH.2
 have E4 := hid (E3.out.trans K4.out.tail.tail.tail)
 have R4 := hid (K4.out.row R3.out (by simp))
 have A4 := hid (K4.out.row A3.out (by simp))
 have X4 := hid (K4.out.row X3.out (by simp))
 clear hH hb4
 go_wp2_with fail
 try simp only [Act.put, U1,U2,U3,U4,U5,U6]
 refine wp_region_held_drew (S := fun W => (∃ J, Jd w0 W jp p gs S J (w2.heap.size :: (w.heap.size + 1) :: w.heap.size :: G)) ∧ Row W (w.heap.size + 1) 42 t.cells.toList) (by kernel_rfl) (⟨⟨_, H4.out.drew⟩, R4.out⟩) (fun hH => ?_)
 refine tk_ (i := 0) (v := .pointer (some ⟨jp, 0, none⟩)) rfl (Or.inl ⟨by kernel_rfl, fun w' _ => by kernel_rfl⟩) hH ?_
 simp only [Act.put, U1, U3, U4, U5, U6]
 refine tk_ (i := 1) (v := .int .i64 (s : Int)) rfl (Or.inl ⟨by kernel_rfl, fun w' _ => by kernel_rfl⟩) hH ?_
 simp only [Act.put, U1,U2,U3,U4,U5,U6]
 refine tk_ (i := 2) (v := .agg t.cells) rfl ?_ hH ?_
 ·
  refine yieldsIf_load_mid ?_ 42 (.tmp 8) ?_ (w.heap.size + 1) 0 ?_ (Array.toList t.cells) _ (fun W hW => Row.range (hW.2)) Tryd.underlying42 rfl (by exact hszt)
  all_goals kernel_rfl
 simp only [Act.put, U1,U2,U3,U4,U5,U6]
 refine tk_ (i := 3) (v := .agg (⟨2, t, en0⟩ : It).cells) rfl (Or.inl ⟨by kernel_rfl, fun w' _ => by kernel_rfl⟩) hH ?_
 simp only [Act.put, U1,U2,U3,U4,U5,U6]
 refine tk_ (i := 4) (v := .pointer (some ⟨jp, 0, none⟩)) rfl (Or.inl ⟨by rfl, fun w' hw' => by clear hw'; go_simp⟩) hH ?_
 simp only [Act.put, U1,U2,U3,U4,U5,U6]
 refine tk_ (i := 5) (v := .pointer (some ⟨jp, 2, none⟩)) rfl (Or.inl ⟨by rfl, fun w' hw' => by clear hw'; go_simp⟩) hH ?_
 simp only [Act.put, U1,U2,U3,U4,U5,U6]
 refine tk_ (i := 6) (v := .pointer (some ⟨jp, 2 + s * 15, none⟩)) rfl (Or.inl ⟨by rfl, fun w' hw' => by clear hw'; go_simp⟩) hH ?_
 simp only [Act.put, U1,U2,U3,U4,U5,U6]
 refine wpAnyH_ready (rs := [7]) (by kernel_rfl) (by simp) ?_
 refine AllReadyH.cons rfl (fun K hK => ?_) AllReadyH.nil
 rw [if_pos (by kernel_rfl)]
 refine wp_store_mid 44 (.tmp 35) (.tmp 32) rfl jp (2 + s * 15) (⟨2, t, en0⟩ : It).cells rfl rfl (H4.out.drew.there hs _) itemSize13 (itC_one _) ?_
 refine hK.out _ _ (⟨⟨_, (H4.out.drew.setIt hl hs _).1⟩, (H4.out.drew.setIt hl hs _).2.row R4.out (by simp)⟩) (fun hH => ?_)
 clear hK K
 try simp only [Act.put, U1, U2, U3]
 refine wpAnyH_done (by kernel_rfl) ?_ _
 try simp only [Act.put, U1,U2,U3,U4,U5,U6]
 have H6 := hid (H4.out.drew.setIt hl hs (⟨2, t, en0⟩ : It)).1
 have K6 := hid (H4.out.drew.setIt hl hs (⟨2, t, en0⟩ : It)).2
 have E6 : Hid (Ek w _ G) := hid (E4.out.trans K6.out.tail.tail.tail)
 have A6 := hid (K6.out.row A4.out (by simp))
 clear hH
 generalize World.setCells _ jp (2 + s * 15) _ = w6 at *
 go_wp2_with (first
  | ((with_reducible show wpList _ _ _ ({ dst := none, op := .store _ (.tmp 6) _, type := _, pos := _, after := _, guard := _ } :: _) _ _); refine wpl_store_st rfl (.tmp 6) (.tmp 36) rfl (n := 9) HZE.out w.heap.size en0.cells en0.cells rfl rfl A6.out ?_ (hid rfl) (hid (HSE.out _)) (hid (HOE.out _)); intro w5 hr5 hb5; have H5 := hid (H6.out.put (g := w.heap.size) (by simp) HI.out.size hb5); have E5 := hid (E6.out.trans (ek_put hb5 (fun g hg => H6.out.lt g (by simp [hg])) (fun hn => Nat.lt_irrefl _ (HI.out.lt _ hn)))); have R5 := hid hr5; clear hr5 hb5))
 exact bodyPost_ret (v := .tuple #[.agg en0.cells, .bool false]) (results_cell1 rfl _ _ w.heap.size 28 en0.cells (0, 0) _ (.bool false) rfl rfl R5.out.arr Tryd.underlying28 rfl (by rw [HSE.out]; exact HZE.out)) rfl ⟨rfl, H5.out.tail.tail.tail, E5.out⟩
end Go.Proofs.YtafbeepacncooaaDoor
/-
  The walk of package journal's scrub.
-/
namespace Go.Proofs.YtafbeepacncooaaDoor
open Go.RowKit
set_option maxRecDepth 10000

theorem Jd.kind {w0 w : World} {jp p gs : Nat} {S : Sp} {J : Jn} {G : List Nat} (h : Jd w0 w jp p gs S J G) {s : Nat} (hs : s < 8) : w.cell? ⟨jp, 2 + s * 15, none⟩ = some (.int .i64 (J.item (slotN J.c s)).kind) := h.cell hs (j := 0) (by omega) rfl
theorem jset_same {J : Jn} (hl : J.x.length = 8) {n : Int} (hn : J.has n) : J.set n (J.item n) = J := by
 obtain ⟨c, x⟩ := J
 obtain ⟨h1, h2⟩ := hn
 have h1 : c < n := h1
 have h2 : n ≤ c + 8 := h2
 have hl : x.length = 8 := hl
 show Jn.mk c (x.set (n - c - 1).toNat (Jn.item ⟨c, x⟩ n)) = ⟨c, x⟩
 unfold Jn.item
 rw [if_pos (show Jn.has ⟨c, x⟩ n from ⟨h1, h2⟩)]
 have hk : (n - c - 1).toNat < x.length := by omega
 congr 1
 show x.set (n - c - 1).toNat (x.getD (n - c - 1).toNat it0) = x
 rw [List.getD_eq_getElem?_getD, List.getElem?_eq_getElem hk, Option.getD_some, List.set_getElem_self]
/-- what scrub does to a slot -/
noncomputable def scrubS (S : Sp) (J : Jn) (s : Nat) : Sp × Jn × Int :=
 if (lookP S s).2.2 ≠ 0 then (S, J, (lookP S s).2.2)
 else ((layL S (scrubP (J.item (slotN J.c s)) (lookP S s).1 (lookP S s).2.1 (slotN J.c s))).1, J.set (slotN J.c s) (scrubX (J.item (slotN J.c s)) (lookP S s).1), (layL S (scrubP (J.item (slotN J.c s)) (lookP S s).1 (lookP S s).2.1 (slotN J.c s))).2)
theorem note_scrub {x : It} (hk : x.kind = 1 ∨ x.kind = 2) (hs : SRt x.stub) (p h : List UInt8) (n : Int) : scrubP x p h n = noteP x h := by
 have h0 : ¬ x.kind = 0 := by rcases hk with h | h <;> rw [h] <;> decide
 unfold scrubP noteP
 rw [if_neg h0]
 by_cases he : (stubT h).1 = x.stub
 ·
  rw [if_pos he, if_neg]
  rintro ⟨_, h1 | h1⟩
  ·
   have := stubT_no h h1
   rw [this] at he
   rw [← he] at hs
   exact st0_not hs
  ·
   exact h1 he
 ·
  rw [if_neg he, if_pos ⟨hk, .inr he⟩]
theorem stubs_ne {x : It} (hs : SRt x.stub) (p : List UInt8) : ((entryS p).2.1 = false ∨ stubS (entryS p).1 ≠ x.stub) ↔ stubS (entryS p).1 ≠ x.stub := by
 refine ⟨fun h => ?_, .inr⟩
 rcases h with h | h
 ·
  intro e
  rw [entryS_none p h] at e
  have : stubS en0 = st0 := by unfold stubS; rw [if_neg]; unfold Rt en0; decide
  rw [this] at e
  rw [← e] at hs
  exact st0_not hs
 ·
  exact h
set_option maxHeartbeats 2000000 in
theorem scrub_any13 {w0 w : World} {jp p gs : Nat} {S : Sp} {J : Jn} {G : List Nat} (h : Jd w0 w jp p gs S J G) (h0 : 0 ≤ J.c) (h1 : J.c ≤ 72057594037927927) (hl : J.x.length = 8) (s : Nat) (hs : s < 8) (hx : WfI (slotN J.c s) (J.item (slotN J.c s))) (hc : S.count ≤ 900000) :
  Calls Tryd.prog 38 #[.pointer (some ⟨jp, 0, none⟩), .int .i64 (s : Int)] w (JC w0 w jp p gs (scrubS S J s).1 (scrubS S J s).2.1 G (.int .i64 (scrubS S J s).2.2)) := by
 have hb : (s : Int) < 8 := by omega
 have c0 := h.c0
 have HLK : Hid (Calls Tryd.prog 46 #[.pointer (some ⟨p, 0, none⟩), .int .i64 (s : Int)] w (JC w0 w jp p gs S J G (.tuple #[.string ⟨(lookP S s).1.toArray⟩, .string ⟨(lookP S s).2.1.toArray⟩, .int .i64 (lookP S s).2.2]))) := hid (h.callD fun hD => lookj_any hD (by omega) s hs)
 have HKD : Hid (∀ W, Jd w0 W jp p gs S J G → W.cell? ⟨jp, 2 + s * 15, none⟩ = some (.int .i64 (J.item (slotN J.c s)).kind)) := hid fun W hW => hW.kind hs
 have hin : J.has (slotN J.c s) := slotN_in J.c s
 have hm := slotN_mod J.c s hs
 have hsi : ∀ i, (J.set (slotN J.c s) i).item (slotN J.c s) = i := fun i => by rw [set_item hl i hin, if_pos rfl]
 unfold scrubS
 generalize hLP : lookP S s = LP at *
 obtain ⟨pl, hd, er⟩ := LP
 simp only at *
 by_cases he : er = 0
 ·
  subst he
  rw [if_neg (by simp)]
  have hcases : (J.item (slotN J.c s)).kind = 0 ∨ ((J.item (slotN J.c s)).kind = 1 ∨ (J.item (slotN J.c s)).kind = 2) ∧ SRt (J.item (slotN J.c s)).stub ∧ (J.item (slotN J.c s)).stub.fits ∧ hN (J.item (slotN J.c s)).stub.opn = 12 + s ∨ (J.item (slotN J.c s)).kind = 3 := by
   rcases hx with e | ⟨y, f1, r1, o1, e⟩ | ⟨y, f1, r1, o1, e⟩ | e
   ·
    rw [e]; exact .inl rfl
   ·
    rw [e]
    refine .inr (.inl ⟨.inl rfl, stubS_ok r1, stubS_fits f1, ?_⟩)
    show hN (stubS y).opn = _
    rw [show (stubS y).opn = y.opn by rw [stubS_rt r1], o1]
    unfold hN; omega
   ·
    rw [e]
    refine .inr (.inl ⟨.inr rfl, r1, f1, ?_⟩)
    show hN y.opn = _
    rw [o1]
    unfold hN; omega
   ·
    rw [e]; exact .inr (.inr rfl)
  rcases hcases with hk | ⟨hk, hr, hf, ho⟩ | hk
  ·
   have e1 : scrubP (J.item (slotN J.c s)) pl hd (slotN J.c s) = cleanP pl hd (slotN J.c s) := by unfold scrubP; rw [if_pos hk]
   have e2 : scrubX (J.item (slotN J.c s)) pl = J.item (slotN J.c s) := by unfold scrubX; rw [if_neg (by rw [hk]; simp)]
   rw [e1, e2, jset_same hl hin]
   have HCL : Hid (∀ W, Jd w0 W jp p gs S J G → Calls Tryd.prog 61 #[.pointer (some ⟨jp, 0, none⟩), .int .i64 (s : Int), .string ⟨pl.toArray⟩, .string ⟨hd.toArray⟩] W (JC w0 W jp p gs (layL S (cleanP pl hd (slotN J.c s))).1 J G (.int .i64 (layL S (cleanP pl hd (slotN J.c s))).2))) := hid fun W hW => by
    have := clean_any13 hW h0 h1 s hs ⟨pl.toArray⟩ ⟨hd.toArray⟩ (by omega)
    rw [sb_mk, sb_mk] at this
    exact this
   rw [hk] at HKD
   generalize layL S (cleanP pl hd (slotN J.c s)) = R at *
   clear h hx hin hm hsi hLP h0 h1 hc hl hk e1 e2
   go_enter Tryd.func38, Tryd.ntmps38
   go_wp2_with (first
    | (go_at_call 46; refine HLK.out.mono ?_; rintro e w1 ⟨rfl, h1, k1⟩; have ck := HKD.out _ h1; have H1 := hid h1; have E1 := hid k1; clear h1 k1)
    | (go_at_call 61; refine (HCL.out _ H1.out).mono ?_; rintro e w2 ⟨rfl, h2, k2⟩; have H2 := hid h2; have E2 := hid (E1.out.trans k2); clear h2 k2))
   go_ret
   exact ⟨rfl, H2.out, E2.out⟩
  ·
   have e1 := note_scrub hk hr pl hd (slotN J.c s)
   rw [e1]
   obtain ⟨J1, hJ1, hJ2⟩ : ∃ J1, J1 = J.set (slotN J.c s) (scrubX (J.item (slotN J.c s)) pl) ∧ (J1.item (slotN J1.c s)).stub = (J.item (slotN J.c s)).stub := ⟨_, rfl, by
    show ((J.set (slotN J.c s) (scrubX (J.item (slotN J.c s)) pl)).item (slotN J.c s)).stub = _
    rw [hsi]
    unfold scrubX
    split <;> rfl⟩
   have HNT : Hid (∀ W, Jd w0 W jp p gs S J1 G → Calls Tryd.prog 60 #[.pointer (some ⟨jp, 0, none⟩), .int .i64 (s : Int), .string ⟨hd.toArray⟩] W (JC w0 W jp p gs (layL S (noteP (J.item (slotN J.c s)) hd)).1 J1 G (.int .i64 (layL S (noteP (J.item (slotN J.c s)) hd)).2))) := hid fun W hW => by
    have := note_any13 hW s hs (by rw [hJ2]; exact hr) (by rw [hJ2]; exact hf) (by rw [hJ2]; exact ho) ⟨hd.toArray⟩ (by omega)
    rw [sb_mk, show noteP (J1.item (slotN J1.c s)) hd = noteP (J.item (slotN J.c s)) hd by unfold noteP; rw [hJ2]] at this
    exact this
   rw [← hJ1]
   rcases hk with hk | hk
   ·
    have HFD : Hid (∀ W, Jd w0 W jp p gs S J G → ∃ C b, Calls Tryd.prog 37 #[.pointer (some ⟨jp, 0, none⟩), .int .i64 (s : Int), .string ⟨pl.toArray⟩] W (JC w0 W jp p gs S J1 G (.tuple #[.agg C, .bool b]))) := hid fun W hW => by
     by_cases hy : stubS (entryS pl).1 = (J.item (slotN J.c s)).stub
     ·
      have e3 : J1 = J := by
       rw [hJ1]
       unfold scrubX
       rw [if_neg (by rw [stubs_ne hr]; exact fun q => q.2 hy), jset_same hl hin]
      rw [e3]
      exact ⟨_, _, find_yes hW s hs ⟨pl.toArray⟩ (by rw [sb_mk]; exact hy)⟩
     ·
      have e3 : J1 = J.set (slotN J.c s) ⟨2, (J.item (slotN J.c s)).stub, en0⟩ := by
       rw [hJ1]
       unfold scrubX
       rw [if_pos ⟨hk, .inr hy⟩]
      rw [e3]
      exact ⟨_, _, find_no hW hl s hs ⟨pl.toArray⟩ (by rw [sb_mk]; exact hy)⟩
    rw [hk] at HKD
    generalize layL S (noteP (J.item (slotN J.c s)) hd) = R at *
    clear h hx hin hm hsi hLP h0 h1 hc hl hk e1 hr hf ho hJ1 hJ2
    go_enter Tryd.func38, Tryd.ntmps38
    go_wp2_with (first
     | (go_at_call 46; refine HLK.out.mono ?_; rintro e w1 ⟨rfl, h1, k1⟩; have ck := HKD.out _ h1; have H1 := hid h1; have E1 := hid k1; clear h1 k1)
     | (go_at_call 37; obtain ⟨C, b, hF⟩ := HFD.out _ H1.out; refine hF.mono ?_; clear hF; rintro e w2 ⟨rfl, h2, k2⟩; have H2 := hid h2; have E2 := hid (E1.out.trans k2); clear h2 k2)
     | (go_at_call 60; refine (HNT.out _ H2.out).mono ?_; rintro e w3 ⟨rfl, h3, k3⟩; have H3 := hid h3; have E3 := hid (E2.out.trans k3); clear h3 k3))
    go_ret
    exact ⟨rfl, H3.out, E3.out⟩
   ·
    have e3 : J1 = J := by
     rw [hJ1]
     unfold scrubX
     rw [if_neg (by rw [hk]; simp), jset_same hl hin]
    rw [e3] at HNT ⊢
    rw [hk] at HKD
    generalize layL S (noteP (J.item (slotN J.c s)) hd) = R at *
    clear h hx hin hm hsi hLP h0 h1 hc hl hk e1 hr hf ho hJ1 hJ2 e3
    go_enter Tryd.func38, Tryd.ntmps38
    go_wp2_with (first
     | (go_at_call 46; refine HLK.out.mono ?_; rintro e w1 ⟨rfl, h1, k1⟩; have ck := HKD.out _ h1; have H1 := hid h1; have E1 := hid k1; clear h1 k1)
     | (go_at_call 60; refine (HNT.out _ H1.out).mono ?_; rintro e w3 ⟨rfl, h3, k3⟩; have H3 := hid h3; have E3 := hid (E1.out.trans k3); clear h3 k3))
    go_ret
    exact ⟨rfl, H3.out, E3.out⟩
  ·
   have e1 : scrubP (J.item (slotN J.c s)) pl hd (slotN J.c s) = [] := by unfold scrubP; rw [if_neg (by rw [hk]; decide), if_neg (by rw [hk]; simp)]
   have e2 : scrubX (J.item (slotN J.c s)) pl = J.item (slotN J.c s) := by unfold scrubX; rw [if_neg (by rw [hk]; simp)]
   rw [e1, e2, jset_same hl hin]
   rw [hk] at HKD
   clear h hx hin hm hsi hLP h0 h1 hc hl hk e1 e2
   go_enter Tryd.func38, Tryd.ntmps38
   go_wp2_with (first
    | (go_at_call 46; refine HLK.out.mono ?_; rintro e w1 ⟨rfl, h1, k1⟩; have ck := HKD.out _ h1; have H1 := hid h1; have E1 := hid k1; clear h1 k1))
   go_ret
   exact ⟨rfl, H1.out, E1.out⟩
 ·
  have hx2 : (er != 0) = true := by simpa using he
  rw [if_pos he]
  clear h hx hin hm hsi hLP h0 h1 hc hl he
  go_enter Tryd.func38, Tryd.ntmps38
  go_wp2_with (first
   | (go_at_call 46; refine HLK.out.mono ?_; rintro e w1 ⟨rfl, h1, k1⟩; have ck := HKD.out _ h1; have H1 := hid h1; have E1 := hid k1; clear h1 k1))
  go_ret
  exact ⟨rfl, H1.out, E1.out⟩
end Go.Proofs.YtafbeepacncooaaDoor
/-
  The walk of package journal's Scrub.
-/
namespace Go.Proofs.YtafbeepacncooaaDoor
open Go.RowKit
set_option maxRecDepth 10000

theorem scrubK_len (S : Sp) (J : Jn) (hl : J.x.length = 8) : ∀ s, (scrubK S J s).2.1.x.length = 8
 | 0 => hl
 | s + 1 => by
  have ih := scrubK_len S J hl s
  rw [scrubK]
  split
  ·
   exact ih
  ·
   split
   ·
    exact ih
   ·
    split
    ·
     exact ih
    ·
     simpa [Jn.set] using ih
theorem scrubK_item (S : Sp) (J : Jn) (hl : J.x.length = 8) : ∀ s k, s ≤ k → k < 8 → (scrubK S J s).2.1.item (slotN J.c k) = J.item (slotN J.c k)
 | 0, k, _, _ => rfl
 | s + 1, k, h1, h2 => by
  have ih := scrubK_item S J hl s k (by omega) h2
  have hc := scrubK_c S J s
  rw [scrubK]
  split
  ·
   exact ih
  ·
   split
   ·
    exact ih
   ·
    split
    ·
     exact ih
    ·
     rw [set_item (scrubK_len S J hl s) _ (by unfold Jn.has; rw [hc]; exact slotN_in J.c s), if_neg, ih]
     intro e
     have m1 := slotN_mod J.c s (by omega)
     have m2 := slotN_mod J.c k h2
     rw [e] at m2
     omega
theorem look_eq (S : Sp) (c : Int) {k : Nat} (hk : k < 8) : lookP S k = if (S.read (pN (slotN c k))).2 ≠ 0 then ([], [], (S.read (pN (slotN c k))).2) else if (S.read (hN (slotN c k))).2 ≠ 0 then ([], [], (S.read (hN (slotN c k))).2) else ((S.read (pN (slotN c k))).1, (S.read (hN (slotN c k))).1, 0) := by
 have hm := slotN_mod c k hk
 have e1 : pN (slotN c k) = 4 + k := by unfold pN; omega
 have e2 : hN (slotN c k) = 12 + k := by unfold hN; omega
 rw [e1, e2]
 rfl
theorem scrub_next {S : Sp} {J : Jn} {k : Nat} (hl : J.x.length = 8) (hk : k < 8) (h0 : (scrubK S J k).2.2 = 0) : scrubK S J (k + 1) = scrubS (scrubK S J k).1 (scrubK S J k).2.1 k := by
 have hi := scrubK_item S J hl k k (Nat.le_refl _) hk
 rw [scrubK, if_neg (by rw [h0]; simp)]
 unfold scrubS
 rw [scrubK_c, look_eq _ J.c hk, hi]
 by_cases h1 : ((scrubK S J k).1.read (pN (slotN J.c k))).2 = 0
 ·
  by_cases h2 : ((scrubK S J k).1.read (hN (slotN J.c k))).2 = 0
  ·
   simp only [h1, h2, ne_eq, not_true, if_false]
  ·
   simp only [h1, h2, ne_eq, not_true, not_false_eq_true, if_false, if_true]
 ·
  simp only [h1, ne_eq, not_false_eq_true, if_true]
theorem scrub_stop {S : Sp} {J : Jn} {k : Nat} (h0 : (scrubK S J k).2.2 ≠ 0) : ∀ m, scrubK S J (k + m) = scrubK S J k
 | 0 => rfl
 | m + 1 => by
  rw [← Nat.add_assoc, scrubK, scrub_stop h0 m, if_pos h0]
theorem cleanP_len (p h : List UInt8) (n : Int) : (cleanP p h n).length ≤ 2 := by
 unfold cleanP
 rw [List.length_append]
 have h1 : ∀ (c : Prop) [Decidable c] (x : Lay), (if c then [x] else []).length ≤ 1 := fun c _ x => by split <;> simp
 exact Nat.add_le_add (h1 _ _) (h1 _ _)
theorem scrubP_len (x : It) (p h : List UInt8) (n : Int) : (scrubP x p h n).length ≤ 2 := by
 unfold scrubP
 split
 ·
  exact cleanP_len _ _ _
 ·
  split <;> simp
theorem scrubS_count (S : Sp) (J : Jn) (s : Nat) : (scrubS S J s).1.count ≤ S.count + 4 := by
 have h1 := layL_count (scrubP (J.item (slotN J.c s)) (lookP S s).1 (lookP S s).2.1 (slotN J.c s)) S
 have h2 := scrubP_len (J.item (slotN J.c s)) (lookP S s).1 (lookP S s).2.1 (slotN J.c s)
 unfold scrubS
 split
 ·
  simp
 ·
  simp only
  omega
theorem scrubK_count (S : Sp) (J : Jn) (hl : J.x.length = 8) : ∀ k, k ≤ 8 → (scrubK S J k).1.count ≤ S.count + 4 * k
 | 0, _ => by simp [scrubK]
 | k + 1, hk => by
  have ih := scrubK_count S J hl k (by omega)
  by_cases h0 : (scrubK S J k).2.2 = 0
  ·
   rw [scrub_next hl (by omega) h0]
   have := scrubS_count (scrubK S J k).1 (scrubK S J k).2.1 k
   omega
  ·
   rw [scrub_stop h0 1]
   omega
set_option maxHeartbeats 2000000 in
theorem scrubAll {w0 w : World} {jp p gs : Nat} {S : Sp} {J : Jn} {G : List Nat} (h : Jd w0 w jp p gs S J G) (hJ : JWf J) (hc : S.count ≤ 800000) :
  Calls Tryd.prog 16 #[.pointer (some ⟨jp, 0, none⟩)] w (JC w0 w jp p gs (scrubK S J 8).1 (scrubK S J 8).2.1 G (.int .i64 (scrubK S J 8).2.2)) := by
 have hl := hJ.len
 have HS : Hid (∀ W k, k < 8 → (scrubK S J k).2.2 = 0 → Jd w0 W jp p gs (scrubK S J k).1 (scrubK S J k).2.1 G → Calls Tryd.prog 38 #[.pointer (some ⟨jp, 0, none⟩), .int .i64 (k : Int)] W (JC w0 W jp p gs (scrubK S J (k + 1)).1 (scrubK S J (k + 1)).2.1 G (.int .i64 (scrubK S J (k + 1)).2.2))) := hid fun W k hk h0 hW => by
  have hcn := scrubK_count S J hl k (by omega)
  have e1 := scrubK_c S J k
  have e2 := scrubK_item S J hl k k (Nat.le_refl _) hk
  have := scrub_any13 hW (by rw [e1]; exact hJ.c0) (by rw [e1]; exact hJ.c1) (scrubK_len S J hl k) k hk (by rw [e1, e2]; exact hJ.it _ (slotN_in J.c k)) (by omega)
  rw [← scrub_next hl hk h0] at this
  exact this
 have HST : Hid (∀ k, k ≤ 8 → (scrubK S J k).2.2 ≠ 0 → scrubK S J 8 = scrubK S J k) := hid fun k hk h0 => by
  have := scrub_stop h0 (8 - k)
  rw [show k + (8 - k) = 8 by omega] at this
  exact this
 have HH := hid h
 clear h hc hJ hl
 go_enter Tryd.func16, Tryd.ntmps16
 go_wp2_with fail
 go_loopw [7] (fun i wr => ∃ k : Nat, k ≤ 8 ∧ i = .int .i64 k ∧ Hid ((scrubK S J k).2.2 = 0) ∧ Jd w0 wr jp p gs (scrubK S J k).1 (scrubK S J k).2.1 G ∧ Ek w wr G) (fun i _ => 8 - (intOf i).toNat)
 case atStart => exact ⟨0, by omega, rfl, hid rfl, HH.out, Ek.refl _ _⟩
 case round =>
  obtain ⟨k, hk, rfl, hst, hj, hek⟩ := hrel
  have HEK := hid hek
  by_cases hlt : k < 8
  ·
   have hb : (k : Int) < 8 := by omega
   have HSK := hid (HS.out wr k hlt hst.out hj)
   have HS2 := hid (HST.out (k + 1) (by omega))
   clear hj hek HS HST
   generalize hR : scrubK S J (k + 1) = R at *
   have HR := hid hR
   clear hR
   obtain ⟨S1, J1, x⟩ := R
   simp only at HSK HS2
   by_cases hx : x = 0
   ·
    subst hx
    clear HS2
    go_wp2_with (go_at_call 38; refine HSK.out.mono ?_; rintro e w2 ⟨rfl, h2, k2⟩; have H2 := hid h2; have E2 := hid k2; clear h2 k2)
    go_roundw
    case rel => exact ⟨k + 1, by omega, by go_num, hid (by rw [HR.out]), by rw [HR.out]; exact H2.out, HEK.out.trans E2.out⟩
    case measure => simp [intOf]; omega
   ·
    have HE := hid (HS2.out hx)
    have hx2 : (x != 0) = true := by simpa using hx
    clear HS2 hx
    go_wp2_with (go_at_call 38; refine HSK.out.mono ?_; rintro e w2 ⟨rfl, h2, k2⟩; have H2 := hid h2; have E2 := hid k2; clear h2 k2)
    go_ret
    rw [HE.out]
    exact ⟨rfl, H2.out, HEK.out.trans E2.out⟩
  ·
   obtain rfl : k = 8 := by omega
   clear HS HST
   go_wp2_with fail
   go_ret
   exact ⟨by rw [hst.out]; rfl, hj, hek⟩
end Go.Proofs.YtafbeepacncooaaDoor
/-
  The walk of package journal's open.
-/
namespace Go.Proofs.YtafbeepacncooaaDoor
open Go.RowKit
set_option maxRecDepth 10000

/-- what open does to a slot -/
noncomputable def openJ1 (S : Sp) (J : Jn) (s : Nat) : Sp × Jn × Int :=
 if (lookP S s).2.2 ≠ 0 then (S, J, (lookP S s).2.2)
 else ((layL S (openP (lookP S s).1 (lookP S s).2.1 (slotN J.c s))).1, J.set (slotN J.c s) (judgeS (lookP S s).1 (lookP S s).2.1 (slotN J.c s)), (layL S (openP (lookP S s).1 (lookP S s).2.1 (slotN J.c s))).2)
theorem note_open {p h : List UInt8} {n : Int} (hk : (judgeS p h n).kind = 1) : openP p h n = noteP (judgeS p h n) h := by
 have hs := (wf_stub (judge_wf p h n) (.inl hk)).2
 unfold openP
 rw [if_neg (by rw [hk]; decide)]
 unfold noteP
 by_cases h1 : (stubT h).2.1 = true ∧ (stubT h).1.opn = n ∧ stubS (entryS p).1 = (stubT h).1
 ·
  have e : (judgeS p h n).stub = (stubT h).1 := by unfold judgeS; rw [if_pos h1]; exact h1.2.2
  rw [if_pos e.symm, if_neg]
  rintro ⟨_, q⟩
  have := stubT_read h h1.1
  rw [q] at this
  cases this
 ·
  have h2 : (stubT h).2.2 = false := by
   unfold judgeS at hk
   rw [if_neg h1] at hk
   by_cases h2 : (stubT h).2.1 = true ∧ (stubT h).1.opn = n
   ·
    rw [if_pos h2] at hk
    exact absurd hk (show ¬ (2 : Int) = 1 by decide)
   ·
    rw [if_neg h2] at hk
    by_cases h3 : (stubT h).2.2 = true
    ·
     rw [if_pos h3] at hk
     exact absurd hk (show ¬ (0 : Int) = 1 by decide)
    ·
     simpa using h3
  have h3 : (stubT h).2.1 = false := by
   cases q : (stubT h).2.1
   ·
    rfl
   ·
    have := stubT_read h q
    rw [h2] at this
    cases this
  have h4 := stubT_no h h3
  rw [if_pos ⟨hk, h2⟩, if_neg]
  intro e
  rw [h4] at e
  rw [← e] at hs
  exact st0_not hs
set_option maxHeartbeats 2000000 in
theorem open_any13 {w0 w : World} {jp p gs : Nat} {S : Sp} {J : Jn} {G : List Nat} (h : Jd w0 w jp p gs S J G) (h0 : 0 ≤ J.c) (h1 : J.c ≤ 72057594037927927) (hl : J.x.length = 8) (s : Nat) (hs : s < 8) (hc : S.count ≤ 900000) :
  Calls Tryd.prog 39 #[.pointer (some ⟨jp, 0, none⟩), .int .i64 (s : Int)] w (JC w0 w jp p gs (openJ1 S J s).1 (openJ1 S J s).2.1 G (.int .i64 (openJ1 S J s).2.2)) := by
 have hb : (s : Int) < 8 := by omega
 have c0 := h.c0
 have HLK : Hid (Calls Tryd.prog 46 #[.pointer (some ⟨p, 0, none⟩), .int .i64 (s : Int)] w (JC w0 w jp p gs S J G (.tuple #[.string ⟨(lookP S s).1.toArray⟩, .string ⟨(lookP S s).2.1.toArray⟩, .int .i64 (lookP S s).2.2]))) := hid (h.callD fun hD => lookj_any hD (by omega) s hs)
 have hin : J.has (slotN J.c s) := slotN_in J.c s
 have hm := slotN_mod J.c s hs
 have hsi : ∀ i, (J.set (slotN J.c s) i).item (slotN J.c s) = i := fun i => by rw [set_item hl i hin, if_pos rfl]
 have HOP : Hid (∀ W, Jd w0 W jp p gs S J G → Calls Tryd.prog 62 #[.pointer (some ⟨jp, 0, none⟩), .int .i64 (s : Int)] W fun e w' => e = .returned (.int .i64 (slotN J.c s)) ∧ W = w') := hid fun W hW => oper_any hW h0 h1 s hs
 have HCE : Hid (Jd w0 w jp p gs S J G) := hid h
 have HHS := hid hs
 have HHL := hid hl
 unfold openJ1
 generalize lookP S s = LP at *
 obtain ⟨pl, hd, er⟩ := LP
 simp only at *
 by_cases he : er = 0
 ·
  subst he
  rw [if_neg (by simp)]
  have HJG : Hid (∀ W, Fd W → Calls Tryd.prog 27 #[.string ⟨pl.toArray⟩, .string ⟨hd.toArray⟩, .int .i64 (slotN J.c s)] W (VE W (.agg (judgeS pl hd (slotN J.c s)).cells))) := hid fun W hW => by
   have := judge_any ⟨pl.toArray⟩ ⟨hd.toArray⟩ (slotN J.c s) W hW
   rw [sb_mk, sb_mk] at this
   exact this
  have hw := judge_wf pl hd (slotN J.c s)
  have hno := note_open (p := pl) (h := hd) (n := slotN J.c s)
  have hcl : (judgeS pl hd (slotN J.c s)).kind = 0 → openP pl hd (slotN J.c s) = cleanP pl hd (slotN J.c s) := fun hk => by unfold openP; rw [if_pos hk]
  have hnn : (judgeS pl hd (slotN J.c s)).kind ≠ 0 → (judgeS pl hd (slotN J.c s)).kind ≠ 1 → openP pl hd (slotN J.c s) = [] := fun k0 k1 => by unfold openP; rw [if_neg k0, if_neg (fun q => k1 q.1)]
  generalize judgeS pl hd (slotN J.c s) = x at *
  have HKD : Hid (∀ W, Jd w0 W jp p gs S (J.set (slotN J.c s) x) G → W.cell? ⟨jp, 2 + s * 15, none⟩ = some (.int .i64 x.kind)) := hid fun W hW => by
   have := hW.kind hs
   rw [show ((J.set (slotN J.c s) x).item (slotN (J.set (slotN J.c s) x).c s)) = x from hsi x] at this
   exact this
  by_cases k0 : x.kind = 0
  ·
   rw [hcl k0]
   have HCL : Hid (∀ W, Jd w0 W jp p gs S (J.set (slotN J.c s) x) G → Calls Tryd.prog 61 #[.pointer (some ⟨jp, 0, none⟩), .int .i64 (s : Int), .string ⟨pl.toArray⟩, .string ⟨hd.toArray⟩] W (JC w0 W jp p gs (layL S (cleanP pl hd (slotN J.c s))).1 (J.set (slotN J.c s) x) G (.int .i64 (layL S (cleanP pl hd (slotN J.c s))).2))) := hid fun W hW => by
    have := clean_any13 hW h0 h1 s hs ⟨pl.toArray⟩ ⟨hd.toArray⟩ (by omega)
    rw [sb_mk, sb_mk] at this
    exact this
   rw [k0] at HKD
   generalize layL S (cleanP pl hd (slotN J.c s)) = R at *
   clear h hin hm hsi h0 h1 hc hl k0 hw hno hcl hnn hs
   go_enter Tryd.func39, Tryd.ntmps39
   go_wp2_with (first
    | (go_at_call 46; refine HLK.out.mono ?_; rintro e w1 ⟨rfl, h1, k1⟩; have H1 := hid h1; have E1 := hid k1; clear h1 k1))
   try simp only [Act.put, U1,U2,U3,U4,U5,U6]
   refine wp_region_held_drew (S := fun W => (∃ J, Jd w0 W jp p gs S J G) ∧ Ek w1 W G) (by kernel_rfl) (⟨⟨_, H1.out.drew⟩, fun _ _ => rfl⟩) (fun hH => ?_)
   refine tk_ (i := 0) (v := .pointer (some ⟨jp, 0, none⟩)) rfl (Or.inl ⟨by kernel_rfl, fun w' _ => by kernel_rfl⟩) hH ?_
   simp only [Act.put, U1, U3, U4, U5, U6]
   refine tk_ (i := 1) (v := .int .i64 (s : Int)) rfl (Or.inl ⟨by kernel_rfl, fun w' _ => by kernel_rfl⟩) hH ?_
   simp only [Act.put, U1,U2,U3,U4,U5,U6]
   refine tk_ (i := 2) (v := .string ⟨pl.toArray⟩) rfl (Or.inl ⟨by kernel_rfl, fun w' _ => by kernel_rfl⟩) hH ?_
   simp only [Act.put, U1,U2,U3,U4,U5,U6]
   refine tk_ (i := 3) (v := .string ⟨hd.toArray⟩) rfl (Or.inl ⟨by kernel_rfl, fun w' _ => by kernel_rfl⟩) hH ?_
   simp only [Act.put, U1,U2,U3,U4,U5,U6]
   refine tk_ (i := 4) (v := .pointer (some ⟨jp, 0, none⟩)) rfl (Or.inl ⟨by kernel_rfl, fun w' _ => by kernel_rfl⟩) hH ?_
   simp only [Act.put, U1,U2,U3,U4,U5,U6]
   refine tk_ (i := 5) (v := .int .i64 (s : Int)) rfl (Or.inl ⟨by kernel_rfl, fun w' _ => by kernel_rfl⟩) hH ?_
   simp only [Act.put, U1,U2,U3,U4,U5,U6]
   refine tk_ (i := 8) (v := .pointer (some ⟨jp, 0, none⟩)) rfl (Or.inl ⟨by rfl, fun w' hw' => by clear hw'; go_simp⟩) hH ?_
   simp only [Act.put, U1,U2,U3,U4,U5,U6]
   refine tk_ (i := 9) (v := .pointer (some ⟨jp, 2, none⟩)) rfl (Or.inl ⟨by rfl, fun w' hw' => by clear hw'; go_simp⟩) hH ?_
   simp only [Act.put, U1,U2,U3,U4,U5,U6]
   refine wpAnyH_ready (rs := [6]) (by kernel_rfl) (by simp) ?_
   refine AllReadyH.cons rfl (fun K hK => ?_) AllReadyH.nil
   go_simp
   go_at_call 62
   refine (HOP.out _ H1.out.drew).mono ?_
   rintro e w2 ⟨rfl, hw2⟩
   go_wp2_with fail
   have H2 : Hid (Jd w0 w2 jp p gs S J G) := hid (hw2 ▸ H1.out.drew)
   have K2 : Hid (Ek w1 w2 G) := hid (hw2 ▸ fun _ _ => rfl)
   refine hK.out _ _ (⟨⟨_, hw2 ▸ H1.out.drew⟩, hw2 ▸ fun _ _ => rfl⟩) (fun hH => ?_)
   clear hK K
   try simp only [Act.put, U1,U2,U3,U4,U5,U6]
   refine wpAnyH_ready (rs := [7]) (by kernel_rfl) (by simp) ?_
   refine AllReadyH.cons rfl (fun K hK => ?_) AllReadyH.nil
   go_simp
   go_at_call 27
   refine (HJG.out _ H2.out.fd).mono ?_
   rintro e w3 ⟨rfl, hb3⟩
   go_wp2_with fail
   have H23 := hid (H2.out.new hb3).1
   have K23 := hid (K2.out.trans (H2.out.new hb3).2)
   refine hK.out _ _ (⟨⟨_, (H2.out.new hb3).1⟩, K2.out.trans (H2.out.new hb3).2⟩) (fun hH => ?_)
   clear hK K
   try simp only [Act.put, U1,U2,U3,U4,U5,U6]
   refine tk_ (i := 10) (v := .pointer (some ⟨jp, 2 + s * 15, none⟩)) rfl (Or.inl ⟨by rfl, fun w' hw' => by clear hw'; go_simp⟩) hH ?_
   simp only [Act.put, U1,U2,U3,U4,U5,U6]
   refine wpAnyH_ready (rs := [11]) (by kernel_rfl) (by simp) ?_
   refine AllReadyH.cons rfl (fun K hK => ?_) AllReadyH.nil
   rw [if_pos (by kernel_rfl)]
   refine wp_store_mid 44 (.tmp 31) (.tmp 28) rfl jp (2 + s * 15) x.cells rfl rfl (H23.out.there HHS.out _) itemSize13 (itC_one _) ?_
   refine hK.out _ _ (⟨⟨_, (H23.out.setIt HHL.out HHS.out _).1⟩, K23.out.trans (H23.out.setIt HHL.out HHS.out _).2⟩) (fun hH => ?_)
   clear hK K
   try simp only [Act.put, U1, U2, U3]
   refine wpAnyH_done (by kernel_rfl) ?_ _
   try simp only [Act.put, U1,U2,U3,U4,U5,U6]
   have H3 := hid (H23.out.setIt HHL.out HHS.out x).1
   have E3 := hid (E1.out.trans (K23.out.trans (H23.out.setIt HHL.out HHS.out x).2))
   generalize World.setCells w3 jp (2 + s * 15) _ = w4 at *
   have ck := HKD.out _ H3.out
   clear hH hb3 hw2
   go_wp2_with (go_at_call 61; refine (HCL.out _ H3.out).mono ?_; rintro e w6 ⟨rfl, h6, k6⟩; have H6 := hid h6; have E6 := hid (E3.out.trans k6); clear h6 k6)
   go_ret
   exact ⟨rfl, H6.out, E6.out⟩
  ·
   by_cases k1 : x.kind = 1
   ·
    rw [hno k1]
    obtain ⟨o1, r1⟩ := wf_stub hw (.inl k1)
    have f1 : x.stub.fits := by
     rcases hw with rfl | ⟨y, fy, ry, oy, rfl⟩ | ⟨y, fy, ry, oy, rfl⟩ | rfl
     ·
      cases k1
     ·
      exact stubS_fits fy
     ·
      exact fy
     ·
      cases k1
    have HNT : Hid (∀ W, Jd w0 W jp p gs S (J.set (slotN J.c s) x) G → Calls Tryd.prog 60 #[.pointer (some ⟨jp, 0, none⟩), .int .i64 (s : Int), .string ⟨hd.toArray⟩] W (JC w0 W jp p gs (layL S (noteP x hd)).1 (J.set (slotN J.c s) x) G (.int .i64 (layL S (noteP x hd)).2))) := hid fun W hW => by
     have e := hsi x
     have := note_any13 hW s hs (by show SRt ((J.set (slotN J.c s) x).item (slotN J.c s)).stub; rw [e]; exact r1) (by show ((J.set (slotN J.c s) x).item (slotN J.c s)).stub.fits; rw [e]; exact f1) (by show hN ((J.set (slotN J.c s) x).item (slotN J.c s)).stub.opn = _; rw [e, o1]; unfold hN; omega) ⟨hd.toArray⟩ (by omega)
     rw [sb_mk, show ((J.set (slotN J.c s) x).item (slotN (J.set (slotN J.c s) x).c s)) = x from e] at this
     exact this
    rw [k1] at HKD
    generalize layL S (noteP x hd) = R at *
    clear h hin hm hsi h0 h1 hc hl k0 k1 hw hno hcl hnn hs o1 r1 f1
    go_enter Tryd.func39, Tryd.ntmps39
    go_wp2_with (first
     | (go_at_call 46; refine HLK.out.mono ?_; rintro e w1 ⟨rfl, h1, k1⟩; have H1 := hid h1; have E1 := hid k1; clear h1 k1))
    try simp only [Act.put, U1,U2,U3,U4,U5,U6]
    refine wp_region_held_drew (S := fun W => (∃ J, Jd w0 W jp p gs S J G) ∧ Ek w1 W G) (by kernel_rfl) (⟨⟨_, H1.out.drew⟩, fun _ _ => rfl⟩) (fun hH => ?_)
    refine tk_ (i := 0) (v := .pointer (some ⟨jp, 0, none⟩)) rfl (Or.inl ⟨by kernel_rfl, fun w' _ => by kernel_rfl⟩) hH ?_
    simp only [Act.put, U1, U3, U4, U5, U6]
    refine tk_ (i := 1) (v := .int .i64 (s : Int)) rfl (Or.inl ⟨by kernel_rfl, fun w' _ => by kernel_rfl⟩) hH ?_
    simp only [Act.put, U1,U2,U3,U4,U5,U6]
    refine tk_ (i := 2) (v := .string ⟨pl.toArray⟩) rfl (Or.inl ⟨by kernel_rfl, fun w' _ => by kernel_rfl⟩) hH ?_
    simp only [Act.put, U1,U2,U3,U4,U5,U6]
    refine tk_ (i := 3) (v := .string ⟨hd.toArray⟩) rfl (Or.inl ⟨by kernel_rfl, fun w' _ => by kernel_rfl⟩) hH ?_
    simp only [Act.put, U1,U2,U3,U4,U5,U6]
    refine tk_ (i := 4) (v := .pointer (some ⟨jp, 0, none⟩)) rfl (Or.inl ⟨by kernel_rfl, fun w' _ => by kernel_rfl⟩) hH ?_
    simp only [Act.put, U1,U2,U3,U4,U5,U6]
    refine tk_ (i := 5) (v := .int .i64 (s : Int)) rfl (Or.inl ⟨by kernel_rfl, fun w' _ => by kernel_rfl⟩) hH ?_
    simp only [Act.put, U1,U2,U3,U4,U5,U6]
    refine tk_ (i := 8) (v := .pointer (some ⟨jp, 0, none⟩)) rfl (Or.inl ⟨by rfl, fun w' hw' => by clear hw'; go_simp⟩) hH ?_
    simp only [Act.put, U1,U2,U3,U4,U5,U6]
    refine tk_ (i := 9) (v := .pointer (some ⟨jp, 2, none⟩)) rfl (Or.inl ⟨by rfl, fun w' hw' => by clear hw'; go_simp⟩) hH ?_
    simp only [Act.put, U1,U2,U3,U4,U5,U6]
    refine wpAnyH_ready (rs := [6]) (by kernel_rfl) (by simp) ?_
    refine AllReadyH.cons rfl (fun K hK => ?_) AllReadyH.nil
    go_simp
    go_at_call 62
    refine (HOP.out _ H1.out.drew).mono ?_
    rintro e w2 ⟨rfl, hw2⟩
    go_wp2_with fail
    have H2 : Hid (Jd w0 w2 jp p gs S J G) := hid (hw2 ▸ H1.out.drew)
    have K2 : Hid (Ek w1 w2 G) := hid (hw2 ▸ fun _ _ => rfl)
    refine hK.out _ _ (⟨⟨_, hw2 ▸ H1.out.drew⟩, hw2 ▸ fun _ _ => rfl⟩) (fun hH => ?_)
    clear hK K
    try simp only [Act.put, U1,U2,U3,U4,U5,U6]
    refine wpAnyH_ready (rs := [7]) (by kernel_rfl) (by simp) ?_
    refine AllReadyH.cons rfl (fun K hK => ?_) AllReadyH.nil
    go_simp
    go_at_call 27
    refine (HJG.out _ H2.out.fd).mono ?_
    rintro e w3 ⟨rfl, hb3⟩
    go_wp2_with fail
    have H23 := hid (H2.out.new hb3).1
    have K23 := hid (K2.out.trans (H2.out.new hb3).2)
    refine hK.out _ _ (⟨⟨_, (H2.out.new hb3).1⟩, K2.out.trans (H2.out.new hb3).2⟩) (fun hH => ?_)
    clear hK K
    try simp only [Act.put, U1,U2,U3,U4,U5,U6]
    refine tk_ (i := 10) (v := .pointer (some ⟨jp, 2 + s * 15, none⟩)) rfl (Or.inl ⟨by rfl, fun w' hw' => by clear hw'; go_simp⟩) hH ?_
    simp only [Act.put, U1,U2,U3,U4,U5,U6]
    refine wpAnyH_ready (rs := [11]) (by kernel_rfl) (by simp) ?_
    refine AllReadyH.cons rfl (fun K hK => ?_) AllReadyH.nil
    rw [if_pos (by kernel_rfl)]
    refine wp_store_mid 44 (.tmp 31) (.tmp 28) rfl jp (2 + s * 15) x.cells rfl rfl (H23.out.there HHS.out _) itemSize13 (itC_one _) ?_
    refine hK.out _ _ (⟨⟨_, (H23.out.setIt HHL.out HHS.out _).1⟩, K23.out.trans (H23.out.setIt HHL.out HHS.out _).2⟩) (fun hH => ?_)
    clear hK K
    try simp only [Act.put, U1, U2, U3]
    refine wpAnyH_done (by kernel_rfl) ?_ _
    try simp only [Act.put, U1,U2,U3,U4,U5,U6]
    have H3 := hid (H23.out.setIt HHL.out HHS.out x).1
    have E3 := hid (E1.out.trans (K23.out.trans (H23.out.setIt HHL.out HHS.out x).2))
    generalize World.setCells w3 jp (2 + s * 15) _ = w4 at *
    have ck := HKD.out _ H3.out
    clear hH hb3 hw2
    go_wp2_with (go_at_call 60; refine (HNT.out _ H3.out).mono ?_; rintro e w6 ⟨rfl, h6, k6⟩; have H6 := hid h6; have E6 := hid (E3.out.trans k6); clear h6 k6)
    go_ret
    exact ⟨rfl, H6.out, E6.out⟩
   ·
    rw [hnn k0 k1]
    have q0 : (x.kind == 0) = false := by simpa using k0
    have q1 : (x.kind == 1) = false := by simpa using k1
    clear h hin hm hsi h0 h1 hc hl k0 k1 hw hno hcl hnn hs
    have HQ0 := hid q0
    have HQ1 := hid q1
    clear q0 q1
    go_enter Tryd.func39, Tryd.ntmps39
    go_wp2_with (first
     | (go_at_call 46; refine HLK.out.mono ?_; rintro e w1 ⟨rfl, h1, k1⟩; have H1 := hid h1; have E1 := hid k1; clear h1 k1))
    try simp only [Act.put, U1,U2,U3,U4,U5,U6]
    refine wp_region_held_drew (S := fun W => (∃ J, Jd w0 W jp p gs S J G) ∧ Ek w1 W G) (by kernel_rfl) (⟨⟨_, H1.out.drew⟩, fun _ _ => rfl⟩) (fun hH => ?_)
    refine tk_ (i := 0) (v := .pointer (some ⟨jp, 0, none⟩)) rfl (Or.inl ⟨by kernel_rfl, fun w' _ => by kernel_rfl⟩) hH ?_
    simp only [Act.put, U1, U3, U4, U5, U6]
    refine tk_ (i := 1) (v := .int .i64 (s : Int)) rfl (Or.inl ⟨by kernel_rfl, fun w' _ => by kernel_rfl⟩) hH ?_
    simp only [Act.put, U1,U2,U3,U4,U5,U6]
    refine tk_ (i := 2) (v := .string ⟨pl.toArray⟩) rfl (Or.inl ⟨by kernel_rfl, fun w' _ => by kernel_rfl⟩) hH ?_
    simp only [Act.put, U1,U2,U3,U4,U5,U6]
    refine tk_ (i := 3) (v := .string ⟨hd.toArray⟩) rfl (Or.inl ⟨by kernel_rfl, fun w' _ => by kernel_rfl⟩) hH ?_
    simp only [Act.put, U1,U2,U3,U4,U5,U6]
    refine tk_ (i := 4) (v := .pointer (some ⟨jp, 0, none⟩)) rfl (Or.inl ⟨by kernel_rfl, fun w' _ => by kernel_rfl⟩) hH ?_
    simp only [Act.put, U1,U2,U3,U4,U5,U6]
    refine tk_ (i := 5) (v := .int .i64 (s : Int)) rfl (Or.inl ⟨by kernel_rfl, fun w' _ => by kernel_rfl⟩) hH ?_
    simp only [Act.put, U1,U2,U3,U4,U5,U6]
    refine tk_ (i := 8) (v := .pointer (some ⟨jp, 0, none⟩)) rfl (Or.inl ⟨by rfl, fun w' hw' => by clear hw'; go_simp⟩) hH ?_
    simp only [Act.put, U1,U2,U3,U4,U5,U6]
    refine tk_ (i := 9) (v := .pointer (some ⟨jp, 2, none⟩)) rfl (Or.inl ⟨by rfl, fun w' hw' => by clear hw'; go_simp⟩) hH ?_
    simp only [Act.put, U1,U2,U3,U4,U5,U6]
    refine wpAnyH_ready (rs := [6]) (by kernel_rfl) (by simp) ?_
    refine AllReadyH.cons rfl (fun K hK => ?_) AllReadyH.nil
    go_simp
    go_at_call 62
    refine (HOP.out _ H1.out.drew).mono ?_
    rintro e w2 ⟨rfl, hw2⟩
    go_wp2_with fail
    have H2 : Hid (Jd w0 w2 jp p gs S J G) := hid (hw2 ▸ H1.out.drew)
    have K2 : Hid (Ek w1 w2 G) := hid (hw2 ▸ fun _ _ => rfl)
    refine hK.out _ _ (⟨⟨_, hw2 ▸ H1.out.drew⟩, hw2 ▸ fun _ _ => rfl⟩) (fun hH => ?_)
    clear hK K
    try simp only [Act.put, U1,U2,U3,U4,U5,U6]
    refine wpAnyH_ready (rs := [7]) (by kernel_rfl) (by simp) ?_
    refine AllReadyH.cons rfl (fun K hK => ?_) AllReadyH.nil
    go_simp
    go_at_call 27
    refine (HJG.out _ H2.out.fd).mono ?_
    rintro e w3 ⟨rfl, hb3⟩
    go_wp2_with fail
    have H23 := hid (H2.out.new hb3).1
    have K23 := hid (K2.out.trans (H2.out.new hb3).2)
    refine hK.out _ _ (⟨⟨_, (H2.out.new hb3).1⟩, K2.out.trans (H2.out.new hb3).2⟩) (fun hH => ?_)
    clear hK K
    try simp only [Act.put, U1,U2,U3,U4,U5,U6]
    refine tk_ (i := 10) (v := .pointer (some ⟨jp, 2 + s * 15, none⟩)) rfl (Or.inl ⟨by rfl, fun w' hw' => by clear hw'; go_simp⟩) hH ?_
    simp only [Act.put, U1,U2,U3,U4,U5,U6]
    refine wpAnyH_ready (rs := [11]) (by kernel_rfl) (by simp) ?_
    refine AllReadyH.cons rfl (fun K hK => ?_) AllReadyH.nil
    rw [if_pos (by kernel_rfl)]
    refine wp_store_mid 44 (.tmp 31) (.tmp 28) rfl jp (2 + s * 15) x.cells rfl rfl (H23.out.there HHS.out _) itemSize13 (itC_one _) ?_
    refine hK.out _ _ (⟨⟨_, (H23.out.setIt HHL.out HHS.out _).1⟩, K23.out.trans (H23.out.setIt HHL.out HHS.out _).2⟩) (fun hH => ?_)
    clear hK K
    try simp only [Act.put, U1, U2, U3]
    refine wpAnyH_done (by kernel_rfl) ?_ _
    try simp only [Act.put, U1,U2,U3,U4,U5,U6]
    have H3 := hid (H23.out.setIt HHL.out HHS.out x).1
    have E3 := hid (E1.out.trans (K23.out.trans (H23.out.setIt HHL.out HHS.out x).2))
    generalize World.setCells w3 jp (2 + s * 15) _ = w4 at *
    have ck := HKD.out _ H3.out
    clear hH hb3 hw2
    have q0 := HQ0.out
    have q1 := HQ1.out
    go_wp2_with fail
    go_ret
    exact ⟨rfl, H3.out, E3.out⟩
 ·
  have hx2 : (er != 0) = true := by simpa using he
  rw [if_pos he]
  clear h hin hm hsi h0 h1 hc hl he
  go_enter Tryd.func39, Tryd.ntmps39
  go_wp2_with (first
   | (go_at_call 46; refine HLK.out.mono ?_; rintro e w1 ⟨rfl, h1, k1⟩; have H1 := hid h1; have E1 := hid k1; clear h1 k1))
  go_ret
  exact ⟨rfl, H1.out, E1.out⟩
end Go.Proofs.YtafbeepacncooaaDoor
