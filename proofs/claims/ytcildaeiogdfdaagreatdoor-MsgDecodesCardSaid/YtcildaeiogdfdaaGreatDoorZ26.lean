/-
  Lists of structs that a call makes.
-/
import Derived.Test.YtcildaeiogdfdaaGreatDoorZ17
import Derived.Great.BuildSlice
import Derived.BigFrame
import Derived.Test.YtcildaeiogdfdaaGreatDoorZ16
import Derived.Test.YtcildaeiogdfdaaGreatDoorZ15
import Derived.Test.YtcildaeiogdfdaaGreatDoorZ21
import Derived.Test.YtcildaeiogdfdaaGreatDoorZ22
import Derived.Test.YtcildaeiogdfdaaGreatDoorZ18
import Derived.Test.YtcildaeiogdfdaaGreatDoorZ03
import Derived.Test.YtcildaeiogdfdaaGreatDoorZ10
import Derived.Deep.RegionHeld
namespace Go.Proofs.YtcildaeiogdfdaaGreatDoor
open Go.RowKit
set_option maxRecDepth 10000

theorem foldl_setM (l : List Value) : ∀ (k : Nat) (cs : Array Value), k + l.length ≤ cs.size →
    ((l.zipIdx k).foldl (fun (cs : Array Value) (x : Value × Nat) => cs.setIfInBounds x.2 x.1) cs).toList = splice cs.toList k l := by
  induction l with
  | nil => intro k cs _; simp [splice]
  | cons v r ih =>
    intro k cs h
    simp only [List.length_cons] at h
    rw [List.zipIdx_cons, List.foldl_cons, ih (k + 1) _ (by simp; omega)]
    simp only [splice, Array.toList_setIfInBounds, List.length_cons]
    have hk : k < cs.toList.length := by simp; omega
    rw [List.drop_set_of_lt (by omega)]
    have e1 : (cs.toList.set k v).take (k + 1) = cs.toList.take k ++ [v] := by
      rw [List.take_succ_eq_append_getElem (by simpa using hk), List.take_set_of_le (Nat.le_refl _)]
      simp
    rw [e1, List.append_assoc]
    simp [Nat.add_assoc, Nat.add_comm 1]
/-- one part that fills all -/
theorem fill_oneM (place : Nat → Option (Nat × Nat)) (n : Nat) (cs : Array Value) (vs : List Value) (hp : place 0 = some (0, n)) (hn : vs.length = n) (hc : cs.size = n) :
    Instr.fill place cs [(0, .agg vs.toArray)] = some vs.toArray := by
  subst hn
  have hz : (vs.zipIdx 0).foldl (fun (cs : Array Value) (x : Value × Nat) => cs.setIfInBounds (0 + x.2) x.1) cs = vs.toArray := by
    apply Array.toList_inj.1
    have := foldl_setM vs 0 cs (by omega)
    simp only [Nat.zero_add]
    rw [this]
    simp [splice, List.drop_eq_nil_of_le, hc]
  simp only [Nat.zero_add] at hz
  simp [Instr.fill, hp, Value.cells, hc]
  exact hz
/-- []T{x}, x a value of many cells -/
theorem wp_slice1M {P : Program} {o : Oper} {a : Act} {w : World} {K : Act → World → Prop} {Q : Exit → Act → World → Prop} (t e : TypeId) (x : Operand) (ho : o.op = .buildSlice t 1 #[(0, x)])
    (ie : TypeInfo) (z : Value) (size : Nat) (hu : P.underlying t = some (.slice e)) (hie : P.info? e = some ie) (hz : ie.zero = some z) (hs : ie.size = size) (hpos : 0 < size) (hsmall : size ≤ 16777216)
    (cs : List Value) (hx : a.eval x = .agg cs.toArray) (hl : cs.length = size)
    (h : K (a.put o.dst (.slice (some ⟨w.heap.size, 0, none⟩) 1 1)) (w.alloc (.cells cs.toArray e))) : o.wp P a w K Q := by
  refine wp_buildSlice t e 1 _ ho cs.toArray ie z hu hie hz (by rw [hs]; omega) (by rw [hs]; omega) ?_ h
  have e1 : (Array.map (fun (y : Nat × Operand) => (y.1, a.eval y.2)) #[(0, x)]).toList = [(0, a.eval x)] := by simp
  refine Eq.trans (congrArg _ e1) ?_
  rw [hx]
  exact fill_oneM _ size _ _ (by rw [hs]; simp) hl (by rw [Array.size_map, Array.size_range, hs, Nat.one_mul])
theorem own_emptyM {w : World} {g B m : Nat} {T : TypeId} (h : Row w g T []) (hB : B ≤ g) : w.ownsRow B T m (.slice (some ⟨g, 0, none⟩) 0 0) 0 [] :=
  ⟨by simp, .inr ⟨g, 0, #[], rfl, hB, h, Nat.le_refl _, by simp, by simp, by simp⟩⟩
theorem own_rdM {w : World} {B : Nat} {e : TypeId} {v : Value} {n m : Nat} {xs : List Value} (h : w.ownsRow B e m v n xs) : ∃ A c, v = .slice A n c ∧ n ≤ c ∧ Rd w w.heap.size A xs := by
  obtain ⟨h1, h2⟩ := h
  rcases h2 with ⟨rfl, h0⟩ | ⟨g, cap, cur, rfl, a, b, c, d, e1, f⟩
  · have hx : xs = [] := List.eq_nil_of_length_eq_zero (by rw [h1, h0, Nat.zero_mul])
    subst hx h0
    exact ⟨none, 0, rfl, Nat.le_refl _, Rd.nil⟩
  · refine ⟨_, cap, rfl, c, fun hne => ⟨g, 0, rfl, (Array.getElem?_eq_some_iff.1 b).1, fun j u hu => ?_⟩⟩
    rw [cell_of_row w g _ cur e (0, 0) b]
    rw [← f, List.getElem?_take] at hu
    split at hu
    · simpa using hu
    · cases hu
/-- []T{x}, x a value of many cells, as a step of the walk -/
theorem wpl_slice1M {P : Program} {ops : Array Oper} {rest : List Oper} {o : Oper} {a : Act} {w : World} {Q : Exit → Act → World → Prop} (hgd : o.guard = none) (t e : TypeId) (x : Operand) (ho : o.op = .buildSlice t 1 #[(0, x)])
    (ie : TypeInfo) (z : Value) (size : Nat) (hu : P.underlying t = some (.slice e)) (hie : P.info? e = some ie) (hz : ie.zero = some z) (hs : ie.size = size) (hpos : 0 < size) (hsmall : size ≤ 16777216)
    (cs : List Value) (hx : a.eval x = .agg cs.toArray) (hl : cs.length = size)
    (h : wpList P ops Q rest (a.put o.dst (.slice (some ⟨w.heap.size, 0, none⟩) 1 1)) (w.alloc (.cells cs.toArray e))) : wpList P ops Q (o :: rest) a w :=
  wpList_plain hgd fun _ hK => wp_slice1M t e x ho ie z size hu hie hz hs hpos hsmall cs hx hl (hK _ _ h)
theorem own_belowM {w w' : World} {B : Nat} {e : TypeId} {size n : Nat} {v : Value} {xs : List Value} (h : w.ownsRow B e size v n xs) (hb : Below w.heap.size w w') : w'.ownsRow B e size v n xs := by
  obtain ⟨h1, h2⟩ := h
  refine ⟨h1, ?_⟩
  rcases h2 with h2 | ⟨g, cap, cur, hv, hg, hh, r⟩
  · exact .inl h2
  · exact .inr ⟨g, cap, cur, hv, hg, by rw [hb.block g (Array.getElem?_eq_some_iff.1 hh).1]; exact hh, r⟩
theorem own_allocM {w : World} {B e size n : Nat} {v : Value} {xs : List Value} (h : w.ownsRow B e size v n xs) (o : Obj) : (w.alloc o).ownsRow B e size v n xs := own_belowM h ((Below.refl _ _).alloc (Nat.le_refl _) o)
theorem infoEn : (Tryz.prog.info? 28).map (fun i => (i.zero, i.size, i.bytes)) = some (some (.agg en0.cells), 9, 80) := by kernel_rfl
theorem infoIt : (Tryz.prog.info? 62).map (fun i => (i.zero, i.size, i.bytes)) = some (some (.agg it0.cells), 15, 128) := by kernel_rfl
theorem rws_app {α : Type} (C : α → List Value) (l m : List α) : rws C (l ++ m) = rws C l ++ rws C m := by simp [rws]
theorem rws_one {α : Type} (C : α → List Value) (x : α) : rws C [x] = C x := by simp [rws]
theorem en_one (e : En) : ∀ u ∈ e.cells.toList, u.oneCell' = true := by
  have := ecells_one e
  rw [Array.all_eq_true'] at this
  intro u hu
  exact this u (by simpa using hu)
theorem it_one (x : It) : ∀ u ∈ x.cells.toList, u.oneCell' = true := by
  have : x.cells.all (·.oneCell') = true := by simp [It.cells, Value.oneCell']
  rw [Array.all_eq_true'] at this
  intro u hu
  exact this u (by simpa using hu)
theorem new_rdM (T : TypeId) (W : World) (X : List Value) : Rd (W.alloc (.cells X.toArray T)) (W.heap.size + 1) (some ⟨W.heap.size, 0, none⟩) X :=
  Row.rd (e := T) (by simpa using Row.new W T X.toArray) (Nat.lt_succ_self _)
end Go.Proofs.YtcildaeiogdfdaaGreatDoor
/-
  The document's Entries.
-/
namespace Go.Proofs.YtcildaeiogdfdaaGreatDoor
open Go.RowKit
set_option maxRecDepth 10000

/-- so many entries, the place behind them -/
def EN (w : World) (n : Nat) (r : Option (List En × Nat)) (e : Ending) (w' : World) : Prop :=
  (match r with
  | none => e = .returned (.tuple #[.slice none 0 0, .int .i64 0, .bool false])
  | some (l, q) => ∃ v, e = .returned (.tuple #[v, .int .i64 (q : Int), .bool true]) ∧ l.length = n ∧ w'.ownsRow w.heap.size 28 9 v n (rws (fun e : En => e.cells.toList) l)) ∧ Below w.heap.size w w'
theorem own_first {w : World} {B : Nat} {T : TypeId} {v : Value} {E : En} (h : w.ownsRow B T 9 v 1 (rws (fun e : En => e.cells.toList) [E])) : ∃ g c, v = .slice (some ⟨g, 0, none⟩) 1 c ∧ B ≤ g ∧ g < w.heap.size ∧ 1 ≤ c ∧ w.rangeAt g 0 E.cells.toList := by
  obtain ⟨-, h2⟩ := h
  rcases h2 with ⟨-, h0⟩ | ⟨g, cap, cur, rfl, hb, hh, hc, -, -, ht⟩
  · omega
  · refine ⟨g, cap, rfl, hb, (Array.getElem?_eq_some_iff.1 hh).1, hc, fun j u hu => ?_⟩
    rw [cell_of_row w g _ cur T (0, 0) hh]
    rw [rws_one] at ht
    rw [← ht, List.getElem?_take] at hu
    split at hu
    · simpa using hu
    · cases hu
theorem entsF_none (b : List UInt8) (p k : Nat) (h : entsF b p k = none) : ∀ n, k ≤ n → entsF b p n = none
  | 0, hn => by
    obtain rfl : k = 0 := by omega
    exact h
  | n + 1, hn => by
    by_cases e : k = n + 1
    · rw [← e]; exact h
    · unfold entsF
      rw [entsF_none b p k h n (by omega)]
      rfl
theorem ttS_place (b : List UInt8) (p : Nat) (h : (ttS b p 65535).2.2 = 0) : (((ttS b p 65535).2.1.toNat : Nat) : Int) = (ttS b p 65535).2.1 ∧ (ttS b p 65535).2.1.toNat ≤ b.length ∧ (ttS b p 65535).1.length ≤ b.length := by
  unfold ttS at h ⊢
  split at h
  · rename_i h1
    exact absurd h h1
  · rename_i h1
    rw [if_neg h1]
    split at h
    · cases h
    · rename_i h2
      rw [if_neg h2]
      unfold ttN at h ⊢
      split at h
      · cases h
      · rename_i h3
        rw [if_neg h3]
        simp only
        refine ⟨by omega, by omega, ?_⟩
        rw [List.length_take, List.length_drop]
        omega
theorem ttS_len (b : List UInt8) (p : Nat) : (ttS b p 65535).1.length ≤ b.length := by
  unfold ttS
  split
  · simp
  · split
    · simp
    · unfold ttN
      split
      · simp
      · simp only
        rw [List.length_take, List.length_drop]
        omega
set_option maxHeartbeats 4000000 in
theorem ents17_any (s : ByteArray) (p n : Nat) (w : World) (hs : s.size ≤ 100000) (hn : n ≤ 255) :
    Calls Tryz.prog 15 #[.string s, .int .i64 (p : Int), .int .i64 (n : Int)] w (EN w n (entsF (sb s) p n)) := by
  obtain ⟨i0, hi, hz0, hz1, hz2⟩ := info_parts infoEn
  have HCT := hid (fun q W => cut17_any s q W (by omega))
  have HUN : Hid (∀ t : List UInt8, t.length ≤ s.size → ∀ W, Calls Tryz.prog 36 #[.string ⟨t.toArray⟩] W (EE W (unpackE t))) := hid fun t ht W => by
    have h := r9_any ⟨t.toArray⟩ W (by rw [← sb_len, sb_mk]; omega)
    rwa [sb_mk] at h
  have HZE := hid esize
  have HS := hid hs
  have HNX : Hid (∀ (W : World) (X : List Value), Hid (Rd (W.alloc (.cells X.toArray 28)) (W.heap.size + 1) (some ⟨W.heap.size, 0, none⟩) X)) := hid fun W X => hid (new_rdM 28 W X)
  have HO0 : Hid ((w.alloc (.cells #[] 28)).ownsRow w.heap.size 28 9 (.slice (some ⟨w.heap.size, 0, none⟩) 0 0) 0 []) := hid (own_emptyM (Row.new w _ _) (Nat.le_refl _))
  have HB0 : Hid (Below w.heap.size w (w.alloc (.cells #[] 28))) := hid ((Below.refl _ _).alloc (Nat.le_refl _) _)
  clear hs
  go_enter Tryz.func15, Tryz.ntmps15
  go_wp2_with fail
  go_loopw [1, 9, 10] (fun a v i wr => ∃ (k q : Nat) (l : List En), k ≤ n ∧ i = .int .i64 (k : Int) ∧ a = .int .i64 (q : Int) ∧ Hid (l.length = k) ∧ Hid (entsF (sb s) p k = some (l, q)) ∧ Hid (wr.ownsRow w.heap.size 28 9 v k (rws (fun e : En => e.cells.toList) l)) ∧ Hid (Below w.heap.size w wr)) (fun _ _ i _ => n - (intOf i).toNat)
  case atStart => exact ⟨0, p, [], by omega, rfl, rfl, hid rfl, hid rfl, HO0, HB0⟩
  case round =>
    clear HO0 HB0
    obtain ⟨k, q, l, hk, rfl, rfl, HLL, HE, HO, HB⟩ := hrel
    obtain ⟨A, c, rfl, hnc, hrd⟩ := own_rdM HO.out
    have HRD := hid hrd
    clear hrd
    by_cases hlt : k < n
    · have hlti : (k : Int) < (n : Int) := by omega
      have HCQ := hid (HCT.out q)
      have HT0 := hid (ttS_place (sb s) q)
      have HT1 := hid (ttS_len (sb s) q)
      have HSTEP : Hid (entsF (sb s) p (k + 1) = (entP (sb s) q).map fun et => (l ++ [et.1], et.2)) := hid (by
        show (entsF (sb s) p k).bind _ = _
        rw [HE.out]
        rfl)
      have HEP : Hid (entP (sb s) q = if (ttS (sb s) q 65535).2.2 = 0 ∧ (unpackE (ttS (sb s) q 65535).1).2 = 0 then some ((unpackE (ttS (sb s) q 65535).1).1, (ttS (sb s) q 65535).2.1.toNat) else none) := hid rfl
      have HNO := hid (entsF_none (sb s) p (k + 1))
      unfold cutS at HCQ
      generalize ttS (sb s) q 65535 = r at HCQ HT0 HT1 HEP
      obtain ⟨t, qi, f⟩ := r
      have HUT := hid (HUN.out t (by have := HT1.out; rw [sb_len] at this; exact this))
      generalize unpackE t = u at HUT HEP
      obtain ⟨E, g⟩ := u
      simp only at HCQ HT0 HEP HUT
      by_cases hf : f = 0
      · have ef : (f == 0) = true := by simp [hf]
        rw [ef] at HCQ
        by_cases hg0 : g = 0
        · have eg : (g != 0) = false := by simp [hg0]
          have HT2 := hid (HT0.out hf)
          have HE2 : Hid (entsF (sb s) p (k + 1) = some (l ++ [E], qi.toNat)) := hid (by rw [HSTEP.out, HEP.out, if_pos ⟨hf, hg0⟩]; rfl)
          clear hf hg0 ef
          go_wp2_with (first
        | (go_at_call 35; refine (HCQ.out _).mono ?_; rintro x w1 ⟨rfl, hb1⟩)
        | (go_at_call 36; refine (HUT.out _).mono ?_; rintro x w2 ⟨rfl, hb2⟩; have HB2 := hid ((HB.out.trans (hb1.mono HB.out.size)).trans (hb2.mono (HB.out.trans (hb1.mono HB.out.size)).size)); have HO2 := hid (own_belowM (own_belowM HO.out hb1) hb2))
        | ((with_reducible show wpList _ _ _ ({ dst := none, op := .store _ (.tmp 14) _, type := _, pos := _, after := _, guard := _ } :: _) _ _); refine wpl_store_st rfl (.tmp 14) (.tmp 32) rfl HZE.out w2.heap.size #[.int .i64 0, .int .i64 0, .int .i64 0, .int .u64 0, .int .i64 0, .int .i64 0, .int .i64 0, .int .i64 0, .string ⟨#[]⟩] E.cells rfl rfl (Row.new _ _ _) ?_ (hid rfl) (hid rfl) (hid (ecells_one E)); intro w3 hr3 hg3; have RE := hid hr3; have hb3 : Below w2.heap.size w2 w3 := ((Below.refl w2.heap.size w2).alloc (Nat.le_refl _) (.cells #[.int .i64 0, .int .i64 0, .int .i64 0, .int .u64 0, .int .i64 0, .int .i64 0, .int .i64 0, .int .i64 0, .string ⟨#[]⟩] 28)).trans (below_grown hg3 (Nat.le_refl _) (by simp)); have HB3 := hid (HB2.out.trans (hb3.mono HB2.out.size)); have HO3 := hid (own_belowM HO2.out hb3); clear hr3 hg3)
        | ((with_reducible show wpList _ _ _ ({ dst := some 41, op := _, type := _, pos := _, after := _, guard := _ } :: _) _ _); refine wpList_load_row rfl 28 (.tmp 14) rfl w2.heap.size rfl 28 E.cells (0, 0) _ (Row.arr RE.out) Tryz.underlying28 rfl HZE.out ?_)
        | (refine wpl_slice1M rfl 29 28 (.tmp 41) rfl i0 _ 9 Tryz.underlying29 hi hz0 hz1 (by decide) (by decide) E.cells.toList rfl rfl ?_)
        | (refine wpl_append rfl (.tmp 40) (.tmp 42) 29 rfl w.heap.size 28 i0 _ 9 80 Tryz.underlying29 hi hz0 hz1 hz2 rfl (by omega) (.slice A k c) k _ rfl (own_allocM HO3.out _) (w3.heap.size + 1) (some ⟨w3.heap.size, 0, none⟩) 1 1 E.cells.toList rfl ?_ (HNX.out w3 E.cells.toList) (hid rfl) (hid (en_one E)) (hid (le_maxLen (by omega))) (hid (by omega)) (hid (by have := HB3.out.size; simp; omega)); intro v6 w6 hown6 hb6 hg6; have HO6 := hid hown6; have HB6 := hid ((HB3.out.alloc HB3.out.size (.cells E.cells.toList.toArray 28)).trans hb6); clear hown6 hb6 hg6))
          go_roundw
          case rel => exact ⟨k + 1, qi.toNat, l ++ [E], by omega, by go_num, by rw [HT2.out.1], hid (by rw [List.length_append, HLL.out]; rfl), HE2, hid (by rw [rws_app, rws_one]; exact HO6.out), HB6⟩
          case measure => simp [intOf]; omega
        · have eg : (g != 0) = true := by simp [hg0]
          have HE2 : Hid (entsF (sb s) p n = none) := hid (HNO.out (by rw [HSTEP.out, HEP.out, if_neg (fun h => hg0 h.2)]; rfl) n (by omega))
          clear hf hg0 ef
          go_wp2_with (first
        | (go_at_call 35; refine (HCQ.out _).mono ?_; rintro x w1 ⟨rfl, hb1⟩)
        | (go_at_call 36; refine (HUT.out _).mono ?_; rintro x w2 ⟨rfl, hb2⟩; have HB2 := hid ((HB.out.trans (hb1.mono HB.out.size)).trans (hb2.mono (HB.out.trans (hb1.mono HB.out.size)).size)); have HO2 := hid (own_belowM (own_belowM HO.out hb1) hb2))
        | ((with_reducible show wpList _ _ _ ({ dst := none, op := .store _ (.tmp 14) _, type := _, pos := _, after := _, guard := _ } :: _) _ _); refine wpl_store_st rfl (.tmp 14) (.tmp 32) rfl HZE.out w2.heap.size #[.int .i64 0, .int .i64 0, .int .i64 0, .int .u64 0, .int .i64 0, .int .i64 0, .int .i64 0, .int .i64 0, .string ⟨#[]⟩] E.cells rfl rfl (Row.new _ _ _) ?_ (hid rfl) (hid rfl) (hid (ecells_one E)); intro w3 hr3 hg3; have RE := hid hr3; have hb3 : Below w2.heap.size w2 w3 := ((Below.refl w2.heap.size w2).alloc (Nat.le_refl _) (.cells #[.int .i64 0, .int .i64 0, .int .i64 0, .int .u64 0, .int .i64 0, .int .i64 0, .int .i64 0, .int .i64 0, .string ⟨#[]⟩] 28)).trans (below_grown hg3 (Nat.le_refl _) (by simp)); have HB3 := hid (HB2.out.trans (hb3.mono HB2.out.size)); have HO3 := hid (own_belowM HO2.out hb3); clear hr3 hg3))
          go_ret3
          exact ⟨by rw [HE2.out]; rfl, HB3.out⟩
      · have ef : (f == 0) = false := by simp [hf]
        rw [ef] at HCQ
        have HE2 : Hid (entsF (sb s) p n = none) := hid (HNO.out (by rw [HSTEP.out, HEP.out, if_neg (fun h => hf h.1)]; rfl) n (by omega))
        clear hf ef
        go_wp2_with (first
        | (go_at_call 35; refine (HCQ.out _).mono ?_; rintro x w1 ⟨rfl, hb1⟩)
        | (go_at_call 36; refine (HUT.out _).mono ?_; rintro x w2 ⟨rfl, hb2⟩; have HB2 := hid ((HB.out.trans (hb1.mono HB.out.size)).trans (hb2.mono (HB.out.trans (hb1.mono HB.out.size)).size)); have HO2 := hid (own_belowM (own_belowM HO.out hb1) hb2))
        | ((with_reducible show wpList _ _ _ ({ dst := none, op := .store _ (.tmp 14) _, type := _, pos := _, after := _, guard := _ } :: _) _ _); refine wpl_store_st rfl (.tmp 14) (.tmp 32) rfl HZE.out w2.heap.size #[.int .i64 0, .int .i64 0, .int .i64 0, .int .u64 0, .int .i64 0, .int .i64 0, .int .i64 0, .int .i64 0, .string ⟨#[]⟩] E.cells rfl rfl (Row.new _ _ _) ?_ (hid rfl) (hid rfl) (hid (ecells_one E)); intro w3 hr3 hg3; have RE := hid hr3; have hb3 : Below w2.heap.size w2 w3 := ((Below.refl w2.heap.size w2).alloc (Nat.le_refl _) (.cells #[.int .i64 0, .int .i64 0, .int .i64 0, .int .u64 0, .int .i64 0, .int .i64 0, .int .i64 0, .int .i64 0, .string ⟨#[]⟩] 28)).trans (below_grown hg3 (Nat.le_refl _) (by simp)); have HB3 := hid (HB2.out.trans (hb3.mono HB2.out.size)); have HO3 := hid (own_belowM HO2.out hb3); clear hr3 hg3))
        go_ret3
        exact ⟨by rw [HE2.out]; rfl, HB3.out⟩
    · obtain rfl : k = n := by omega
      go_wp2_with fail
      go_ret3
      exact ⟨by rw [HE.out]; exact ⟨_, rfl, HLL.out, HO.out⟩, HB.out⟩
end Go.Proofs.YtcildaeiogdfdaaGreatDoor
/-
  The document's Items.
-/
namespace Go.Proofs.YtcildaeiogdfdaaGreatDoor
open Go.RowKit
set_option maxRecDepth 10000

/-- eight items -/
def IN (w : World) (r : Option (List It × Nat)) (e : Ending) (w' : World) : Prop :=
  (match r with
  | none => e = .returned (.tuple #[.slice none 0 0, .bool false])
  | some (l, _) => ∃ v, e = .returned (.tuple #[v, .bool true]) ∧ l.length = 8 ∧ w'.ownsRow w.heap.size 62 15 v 8 (rws (fun x : It => x.cells.toList) l)) ∧ Below w.heap.size w w'
theorem itemsF_none (b : List UInt8) (p k : Nat) (h : itemsF b p k = none) : ∀ n, k ≤ n → itemsF b p n = none
  | 0, hn => by
    obtain rfl : k = 0 := by omega
    exact h
  | n + 1, hn => by
    by_cases e : k = n + 1
    · rw [← e]; exact h
    · unfold itemsF
      rw [itemsF_none b p k h n (by omega)]
      rfl
theorem range_grown {w w' : World} {g x o : Nat} {cs : List Value} (h : w.rangeAt g o cs) (hg : w.grownBy w' (some x)) (hx : some g ≠ some x) : w'.rangeAt g o cs := fun j v hv => by
  have h1 := h j v hv
  rw [World.cell?_of_block (hg.block g (by have := World.block_lt_of_cell? w _ h1; simpa using this) hx)]
  exact h1
theorem entsF_one (b : List UInt8) (p : Nat) : entsF b p 1 = (entP b p).map fun et => ([et.1], et.2) := by
  show (some ([], p)).bind _ = _
  simp [Option.bind]
theorem entP_le {b : List UInt8} {p : Nat} {E : En} {q : Nat} (h : entP b p = some (E, q)) : q ≤ b.length := by
  unfold entP at h
  split at h
  · rename_i h1
    obtain ⟨_, h2⟩ := Prod.mk.inj (Option.some.inj h)
    rw [← h2]
    exact (ttS_place b p h1.1).2.1
  · cases h
set_option maxHeartbeats 4000000 in
theorem items17_any (s : ByteArray) (p : Nat) (w : World) (hs : s.size ≤ 100000) (hp : p ≤ 100000) :
    Calls Tryz.prog 16 #[.string s, .int .i64 (p : Int)] w (IN w (itemsF (sb s) p 8)) := by
  obtain ⟨i0, hi, hz0, hz1, hz2⟩ := info_parts infoIt
  have HEN := hid (fun q W => ents17_any s q 1 W hs (by omega))
  have HAT := hid (fun i h W => at_any s i W h (by omega))
  have HZE := hid esize
  have HZI := hid isize
  have HZS := hid stsizeM
  have HS := hid hs
  have HNX : Hid (∀ (W : World) (X : List Value), Hid (Rd (W.alloc (.cells X.toArray 62)) (W.heap.size + 1) (some ⟨W.heap.size, 0, none⟩) X)) := hid fun W X => hid (new_rdM 62 W X)
  have HO0 : Hid ((w.alloc (.cells #[] 62)).ownsRow w.heap.size 62 15 (.slice (some ⟨w.heap.size, 0, none⟩) 0 0) 0 []) := hid (own_emptyM (Row.new w _ _) (Nat.le_refl _))
  have HB0 : Hid (Below w.heap.size w (w.alloc (.cells #[] 62))) := hid ((Below.refl _ _).alloc (Nat.le_refl _) _)
  clear hs
  go_enter Tryz.func16, Tryz.ntmps16
  go_wp2_with fail
  go_loopw [1, 6, 7] (fun a v i wr => ∃ (k q : Nat) (l : List It), k ≤ 8 ∧ i = .int .i64 (k : Int) ∧ a = .int .i64 (q : Int) ∧ q ≤ 100000 ∧ Hid (l.length = k) ∧ Hid (itemsF (sb s) p k = some (l, q)) ∧ Hid (wr.ownsRow w.heap.size 62 15 v k (rws (fun x : It => x.cells.toList) l)) ∧ Hid (Below w.heap.size w wr)) (fun _ _ i _ => 8 - (intOf i).toNat)
  case atStart => exact ⟨0, p, [], by omega, rfl, rfl, hp, hid rfl, hid rfl, HO0, HB0⟩
  case round =>
    clear HO0 HB0
    obtain ⟨k, q, l, hk, rfl, rfl, hq5, HLL, HE, HO, HB⟩ := hrel
    obtain ⟨A, c, rfl, hnc, hrd⟩ := own_rdM HO.out
    clear hrd hp
    by_cases hlt : k < 8
    · have hlti : (k : Int) < 8 := by omega
      have HSTEP : Hid (itemsF (sb s) p (k + 1) = (itemP (sb s) q).map fun et => (l ++ [et.1], et.2)) := hid (by
        show (itemsF (sb s) p k).bind _ = _
        rw [HE.out]
        rfl)
      have HNO := hid (itemsF_none (sb s) p (k + 1))
      by_cases hql : q < s.size
      · have hqi : (q : Int) < (s.size : Int) := by omega
        have hqi2 : ¬ (s.size : Int) ≤ (q : Int) := by omega
        have HC : Hid ((sb s)[q]? = some (s[q]'hql)) := hid (by
          unfold sb
          rw [Array.getElem?_toList]
          exact Array.getElem?_eq_getElem _)
        have HIP : Hid (itemP (sb s) q = if (s[q]'hql) = 1 then (entP (sb s) (q + 1)).map fun et => (⟨1, stubS et.1, et.1⟩, et.2)
            else if (s[q]'hql) = 2 then if (sb s).length < q + 41 then none else some (⟨2, stOf (takeT ((sb s).drop (q + 1))), en0⟩, q + 41)
            else some (⟨((s[q]'hql).toNat : Int), st0, en0⟩, q + 1)) := hid (by
          unfold itemP
          rw [HC.out])
        have h256 := UInt8.toNat_lt (s[q]'hql)
        by_cases h1 : (s[q]'hql) = 1
        · have hcn : (s[q]'hql).toNat = 1 := by rw [h1]; rfl
          rw [if_pos h1] at HIP
          have HE1 : Hid (∀ W, Calls Tryz.prog 15 #[.string s, .int .i64 ((q : Int) + 1), .int .i64 1] W (EN W 1 ((entP (sb s) (q + 1)).map fun et => ([et.1], et.2)))) := hid fun W => by
            have h := HEN.out (q + 1) W
            rw [entsF_one, show ((q + 1 : Nat) : Int) = (q : Int) + 1 by omega] at h
            exact h
          have HPF := hid (fun E q2 (h : entP (sb s) (q + 1) = some (E, q2)) => entP_fits h)
          have HPL := hid (fun E q2 (h : entP (sb s) (q + 1) = some (E, q2)) => entP_le h)
          clear h1 HC
          cases he : entP (sb s) (q + 1) with
          | none =>
            rw [he] at HE1 HIP
            have HE2 : Hid (itemsF (sb s) p 8 = none) := hid (HNO.out (by rw [HSTEP.out, HIP.out]; rfl) 8 (by omega))
            clear he
            go_wp2_with (first
              | ((with_reducible show wpList _ _ _ ({ dst := none, op := .store _ (.tmp 8) _, type := _, pos := _, after := _, guard := _ } :: _) _ _); refine wpl_store_st rfl (.tmp 8) (.tmp 25) rfl HZI.out wr.heap.size #[.int .i64 0, .int .i64 0, .int .i64 0, .int .i64 0, .int .u64 0, .int .u64 0, .int .i64 0, .int .i64 0, .int .i64 0, .int .u64 0, .int .i64 0, .int .i64 0, .int .i64 0, .int .i64 0, .string ⟨#[]⟩] ((⟨1, st0, en0⟩ : It).cells) rfl rfl (Row.new _ _ _) ?_ (hid rfl) (hid rfl) (hid (by simp [It.cells, st0, en0, Value.oneCell'])); intro w3 hr3 hg3; have RX := hid hr3; have hb3 : Below wr.heap.size wr w3 := ((Below.refl wr.heap.size wr).alloc (Nat.le_refl _) (.cells #[.int .i64 0, .int .i64 0, .int .i64 0, .int .i64 0, .int .u64 0, .int .u64 0, .int .i64 0, .int .i64 0, .int .i64 0, .int .u64 0, .int .i64 0, .int .i64 0, .int .i64 0, .int .i64 0, .string ⟨#[]⟩] 62)).trans (below_grown hg3 (Nat.le_refl _) (by simp)); have HB3 := hid (HB.out.trans (hb3.mono HB.out.size)); have HO3 := hid (own_belowM HO.out hb3); have HBW := hid hb3; have x0 : w3.cell? ⟨wr.heap.size, 0, none⟩ = some (.int .i64 1) := RX.out.cell 0; clear hr3 hg3)
              | (go_at_call 15; refine (HE1.out _).mono ?_; rintro e w4 ⟨rfl, hb4⟩; replace HBW := hid (HBW.out.trans (hb4.mono HBW.out.size))))
            go_ret2
            exact ⟨by rw [HE2.out]; rfl, HB.out.trans (HBW.out.mono HB.out.size)⟩
          | some et =>
            obtain ⟨E, q2⟩ := et
            rw [he] at HE1 HIP
            have HSB := hid (fun W => rstub_any E (HPF.out E q2 he) W)
            have hq2 : q2 ≤ 100000 := by have := HPL.out E q2 he; rw [sb_len] at this; have := HS.out; omega
            have HE2 : Hid (itemsF (sb s) p (k + 1) = some (l ++ [⟨1, stubS E, E⟩], q2)) := hid (by rw [HSTEP.out, HIP.out]; rfl)
            clear he
            go_wp2_with (first
              | ((with_reducible show wpList _ _ _ ({ dst := none, op := .store _ (.tmp 8) _, type := _, pos := _, after := _, guard := _ } :: _) _ _); refine wpl_store_st rfl (.tmp 8) (.tmp 25) rfl HZI.out wr.heap.size #[.int .i64 0, .int .i64 0, .int .i64 0, .int .i64 0, .int .u64 0, .int .u64 0, .int .i64 0, .int .i64 0, .int .i64 0, .int .u64 0, .int .i64 0, .int .i64 0, .int .i64 0, .int .i64 0, .string ⟨#[]⟩] ((⟨1, st0, en0⟩ : It).cells) rfl rfl (Row.new _ _ _) ?_ (hid rfl) (hid rfl) (hid (by simp [It.cells, st0, en0, Value.oneCell'])); intro w3 hr3 hg3; have RX := hid hr3; have hb3 : Below wr.heap.size wr w3 := ((Below.refl wr.heap.size wr).alloc (Nat.le_refl _) (.cells #[.int .i64 0, .int .i64 0, .int .i64 0, .int .i64 0, .int .u64 0, .int .u64 0, .int .i64 0, .int .i64 0, .int .i64 0, .int .u64 0, .int .i64 0, .int .i64 0, .int .i64 0, .int .i64 0, .string ⟨#[]⟩] 62)).trans (below_grown hg3 (Nat.le_refl _) (by simp)); have HB3 := hid (HB.out.trans (hb3.mono HB.out.size)); have HO3 := hid (own_belowM HO.out hb3); have HBW := hid hb3; have x0 : w3.cell? ⟨wr.heap.size, 0, none⟩ = some (.int .i64 1) := RX.out.cell 0; clear hr3 hg3)
              | (go_at_call 15; refine (HE1.out _).mono ?_; rintro e w4 ⟨⟨v1, rfl, -, how1⟩, hb4⟩; have hxl := RX.out.lt; replace RX := hid (RX.out.below hb4 hxl); replace HBW := hid (HBW.out.trans (hb4.mono HBW.out.size)); replace HO3 := hid (own_belowM HO.out HBW.out); replace HB3 := hid (HB.out.trans (HBW.out.mono HB.out.size)); obtain ⟨g1, c1, rfl, hg1, hg1l, hc1, hrg1⟩ := own_first how1; have HRG := hid hrg1; have x1 : w4.cell? ⟨wr.heap.size, 0, none⟩ = some (.int .i64 1) := RX.out.cell 0; clear hrg1 how1)
              | ((with_reducible show wpList _ _ _ ({ dst := some 42, op := _, type := _, pos := _, after := _, guard := _ } :: _) _ _); refine wpl_load_midw rfl 28 (.tmp 41) rfl g1 0 rfl (Array.toList E.cells) _ HRG.out Tryz.underlying28 rfl (by exact HZE.out) ?_)
              | ((with_reducible show wpList _ _ _ ({ dst := none, op := .store _ (.tmp 43) _, type := _, pos := _, after := _, guard := _ } :: _) _ _); refine wpl_store_at rfl (.tmp 43) (.tmp 42) rfl HZE.out wr.heap.size 6 _ (Array.toList E.cells) rfl rfl RX ?_ (hid (by simp [It.cells, En.cells, st0, en0])) (hid rfl) (hid (by simp [En.cells, Value.oneCell'])); intro w5 RY hg5; clear RX; have RX := RY; clear RY; replace HBW := hid (HBW.out.trans (below_grown hg5 (Nat.le_refl _) HBW.out.size)); replace HO3 := hid (own_belowM HO.out HBW.out); replace HB3 := hid (HB.out.trans (HBW.out.mono HB.out.size)); replace HRG := hid (range_grown HRG.out hg5 (by intro e; have := Option.some.inj e; omega)); clear hg5)
              | ((with_reducible show wpList _ _ _ ({ dst := some 46, op := _, type := _, pos := _, after := _, guard := _ } :: _) _ _); refine wpl_load_midw rfl 28 (.tmp 45) rfl g1 0 rfl (Array.toList E.cells) _ HRG.out Tryz.underlying28 rfl (by exact HZE.out) ?_)
              | (go_at_call 37; refine (HSB.out _).mono ?_; rintro e w6 ⟨rfl, hb6⟩; replace RX := hid (RX.out.below hb6 RX.out.lt); replace HBW := hid (HBW.out.trans (hb6.mono HBW.out.size)); replace HO3 := hid (own_belowM HO.out HBW.out); replace HB3 := hid (HB.out.trans (HBW.out.mono HB.out.size)))
              | ((with_reducible show wpList _ _ _ ({ dst := none, op := .store _ (.tmp 48) _, type := _, pos := _, after := _, guard := _ } :: _) _ _); refine wpl_store_at rfl (.tmp 48) (.tmp 47) rfl HZS.out wr.heap.size 1 _ (Array.toList (stubS E).cells) rfl rfl RX ?_ (hid (by simp [splice, It.cells, En.cells, St.cells, st0, en0])) (hid rfl) (hid (by simp [St.cells, Value.oneCell'])); intro w7 RY hg7; clear RX; have RX : Hid (Row w7 wr.heap.size 62 ((⟨1, stubS E, E⟩ : It)).cells.toList) := RY; clear RY; replace HBW := hid (HBW.out.trans (below_grown hg7 (Nat.le_refl _) HBW.out.size)); replace HO3 := hid (own_belowM HO.out HBW.out); replace HB3 := hid (HB.out.trans (HBW.out.mono HB.out.size)); have x2 : w7.cell? ⟨wr.heap.size, 0, none⟩ = some (.int .i64 1) := RX.out.cell 0; clear hg7)
              | ((with_reducible show wpList _ _ _ ({ dst := some 85, op := _, type := _, pos := _, after := _, guard := _ } :: _) _ _); refine wpList_load_row rfl 62 (.tmp 8) rfl wr.heap.size rfl 62 ((⟨1, stubS E, E⟩ : It).cells) (0, 0) _ (Row.arr RX.out) Tryz.underlying62 rfl HZI.out ?_)
              | (refine wpl_slice1M rfl 30 62 (.tmp 85) rfl i0 _ 15 Tryz.underlying30 hi hz0 hz1 (by decide) (by decide) (Array.toList ((⟨1, stubS E, E⟩ : It).cells)) rfl rfl ?_)
              | (refine wpl_append rfl (.tmp 84) (.tmp 86) 30 rfl w.heap.size 62 i0 _ 15 128 Tryz.underlying30 hi hz0 hz1 hz2 rfl (by omega) (.slice A k c) k _ rfl (own_allocM HO3.out _) (w7.heap.size + 1) (some ⟨w7.heap.size, 0, none⟩) 1 1 (Array.toList ((⟨1, stubS E, E⟩ : It).cells)) rfl ?_ (HNX.out w7 (Array.toList ((⟨1, stubS E, E⟩ : It).cells))) (hid rfl) (hid (it_one ((⟨1, stubS E, E⟩ : It)))) (hid (le_maxLen (by omega))) (hid (by omega)) (hid (by have := HB3.out.size; simp; omega)); intro v6 w6 hown6 hb6 hg6; have HO6 := hid hown6; have HB6 := hid ((HB3.out.alloc HB3.out.size (.cells (Array.toList ((⟨1, stubS E, E⟩ : It).cells)).toArray 62)).trans hb6); clear hown6 hb6 hg6))
            go_roundw
            case rel => exact ⟨k + 1, q2, l ++ [⟨1, stubS E, E⟩], by omega, by go_num, rfl, hq2, hid (by rw [List.length_append, HLL.out]; rfl), HE2, hid (by rw [rws_app, rws_one]; exact HO6.out), HB6⟩
            case measure => simp [intOf]; omega
        · by_cases h2 : (s[q]'hql) = 2
          · have hcn : (s[q]'hql).toNat = 2 := by rw [h2]; rfl
            rw [if_neg h1, if_pos h2, sb_len] at HIP
            clear h1 h2 HC
            by_cases h41 : s.size < q + 41
            · rw [if_pos h41] at HIP
              have HE2 : Hid (itemsF (sb s) p 8 = none) := hid (HNO.out (by rw [HSTEP.out, HIP.out]; rfl) 8 (by omega))
              have hlt40 : (s.size : Int) - ((q : Int) + 1) < 40 := by omega
              clear h41
              go_wp2_with (first
                | ((with_reducible show wpList _ _ _ ({ dst := none, op := .store _ (.tmp 8) _, type := _, pos := _, after := _, guard := _ } :: _) _ _); refine wpl_store_st rfl (.tmp 8) (.tmp 25) rfl HZI.out wr.heap.size #[.int .i64 0, .int .i64 0, .int .i64 0, .int .i64 0, .int .u64 0, .int .u64 0, .int .i64 0, .int .i64 0, .int .i64 0, .int .u64 0, .int .i64 0, .int .i64 0, .int .i64 0, .int .i64 0, .string ⟨#[]⟩] ((⟨2, st0, en0⟩ : It).cells) rfl rfl (Row.new _ _ _) ?_ (hid rfl) (hid rfl) (hid (by simp [It.cells, st0, en0, Value.oneCell'])); intro w3 hr3 hg3; have RX := hid hr3; have hb3 : Below wr.heap.size wr w3 := ((Below.refl wr.heap.size wr).alloc (Nat.le_refl _) (.cells #[.int .i64 0, .int .i64 0, .int .i64 0, .int .i64 0, .int .u64 0, .int .u64 0, .int .i64 0, .int .i64 0, .int .i64 0, .int .u64 0, .int .i64 0, .int .i64 0, .int .i64 0, .int .i64 0, .string ⟨#[]⟩] 62)).trans (below_grown hg3 (Nat.le_refl _) (by simp)); have HB3 := hid (HB.out.trans (hb3.mono HB.out.size)); have HO3 := hid (own_belowM HO.out hb3); have HBW := hid hb3; have x0 : w3.cell? ⟨wr.heap.size, 0, none⟩ = some (.int .i64 2) := RX.out.cell 0; clear hr3 hg3))
              go_ret2
              exact ⟨by rw [HE2.out]; rfl, HB3.out⟩
            · rw [if_neg h41] at HIP
              have hlt40 : ¬ (s.size : Int) - ((q : Int) + 1) < 40 := by omega
              have HST : Hid (stOf (takeT ((sb s).drop (q + 1))) = ⟨sg (at8 (sb s) (q + 1)), sg (at8 (sb s) (q + 1 + 8)), sg (at8 (sb s) (q + 1 + 16)), at8 (sb s) (q + 1 + 24), at8 (sb s) (q + 1 + 32)⟩) := hid (by
                unfold stOf takeT
                simp only [List.range, List.range.loop, List.map_cons, List.map_nil, List.getD_cons_zero, List.getD_cons_succ, tn, at8, List.drop_drop]
                )
              have HA0 : Hid (∀ W, Calls Tryz.prog 14 #[.string s, .int .i64 ((q : Int) + 1)] W (VE W (.int .u64 ((at8 (sb s) (q + 1) : Nat) : Int)))) := hid fun W => by
                have h := HAT.out (q + 1) (by omega) W
                rwa [show ((q + 1 : Nat) : Int) = (q : Int) + 1 by omega] at h
              have HA1 : Hid (∀ W, Calls Tryz.prog 14 #[.string s, .int .i64 ((q : Int) + 1 + 8)] W (VE W (.int .u64 ((at8 (sb s) (q + 1 + 8) : Nat) : Int)))) := hid fun W => by
                have h := HAT.out (q + 1 + 8) (by omega) W
                rwa [show ((q + 1 + 8 : Nat) : Int) = (q : Int) + 1 + 8 by omega] at h
              have HA2 : Hid (∀ W, Calls Tryz.prog 14 #[.string s, .int .i64 ((q : Int) + 1 + 16)] W (VE W (.int .u64 ((at8 (sb s) (q + 1 + 16) : Nat) : Int)))) := hid fun W => by
                have h := HAT.out (q + 1 + 16) (by omega) W
                rwa [show ((q + 1 + 16 : Nat) : Int) = (q : Int) + 1 + 16 by omega] at h
              have HA3 : Hid (∀ W, Calls Tryz.prog 14 #[.string s, .int .i64 ((q : Int) + 1 + 24)] W (VE W (.int .u64 ((at8 (sb s) (q + 1 + 24) : Nat) : Int)))) := hid fun W => by
                have h := HAT.out (q + 1 + 24) (by omega) W
                rwa [show ((q + 1 + 24 : Nat) : Int) = (q : Int) + 1 + 24 by omega] at h
              have HA4 : Hid (∀ W, Calls Tryz.prog 14 #[.string s, .int .i64 ((q : Int) + 1 + 32)] W (VE W (.int .u64 ((at8 (sb s) (q + 1 + 32) : Nat) : Int)))) := hid fun W => by
                have h := HAT.out (q + 1 + 32) (by omega) W
                rwa [show ((q + 1 + 32 : Nat) : Int) = (q : Int) + 1 + 32 by omega] at h
              have HE2 : Hid (itemsF (sb s) p (k + 1) = some (l ++ [⟨2, stOf (takeT ((sb s).drop (q + 1))), en0⟩], q + 41)) := hid (by rw [HSTEP.out, HIP.out]; rfl)
              rw [HST.out] at HE2
              generalize at8 (sb s) (q + 1) = n0 at *
              generalize at8 (sb s) (q + 1 + 8) = n1 at *
              generalize at8 (sb s) (q + 1 + 16) = n2 at *
              generalize at8 (sb s) (q + 1 + 24) = n3 at *
              generalize at8 (sb s) (q + 1 + 32) = n4 at *
              clear HST HIP h41
              have hsz := HS.out
              go_wp2_with (first
                | ((with_reducible show wpList _ _ _ ({ dst := none, op := .store _ (.tmp 8) _, type := _, pos := _, after := _, guard := _ } :: _) _ _); refine wpl_store_st rfl (.tmp 8) (.tmp 25) rfl HZI.out wr.heap.size #[.int .i64 0, .int .i64 0, .int .i64 0, .int .i64 0, .int .u64 0, .int .u64 0, .int .i64 0, .int .i64 0, .int .i64 0, .int .u64 0, .int .i64 0, .int .i64 0, .int .i64 0, .int .i64 0, .string ⟨#[]⟩] ((⟨2, st0, en0⟩ : It).cells) rfl rfl (Row.new _ _ _) ?_ (hid rfl) (hid rfl) (hid (by simp [It.cells, st0, en0, Value.oneCell'])); intro w3 hr3 hg3; have RX := hid hr3; have hb3 : Below wr.heap.size wr w3 := ((Below.refl wr.heap.size wr).alloc (Nat.le_refl _) (.cells #[.int .i64 0, .int .i64 0, .int .i64 0, .int .i64 0, .int .u64 0, .int .u64 0, .int .i64 0, .int .i64 0, .int .i64 0, .int .u64 0, .int .i64 0, .int .i64 0, .int .i64 0, .int .i64 0, .string ⟨#[]⟩] 62)).trans (below_grown hg3 (Nat.le_refl _) (by simp)); have HB3 := hid (HB.out.trans (hb3.mono HB.out.size)); have HO3 := hid (own_belowM HO.out hb3); have HBW := hid hb3; have x0 : w3.cell? ⟨wr.heap.size, 0, none⟩ = some (.int .i64 2) := RX.out.cell 0; clear hr3 hg3)
                | (go_at_call 14; (with_reducible show Calls _ _ #[_, Value.int IntKind.i64 ((q : Int) + 1)] _ _); refine (HA0.out _).mono ?_; rintro e wa0 ⟨rfl, hba0⟩; replace RX := hid (RX.out.below hba0 RX.out.lt); replace HBW := hid (HBW.out.trans (hba0.mono HBW.out.size)))
                | (go_at_call 14; (with_reducible show Calls _ _ #[_, Value.int IntKind.i64 ((q : Int) + 1 + 8)] _ _); refine (HA1.out _).mono ?_; rintro e wa1 ⟨rfl, hba1⟩; replace RX := hid (RX.out.below hba1 RX.out.lt); replace HBW := hid (HBW.out.trans (hba1.mono HBW.out.size)))
                | (go_at_call 14; (with_reducible show Calls _ _ #[_, Value.int IntKind.i64 ((q : Int) + 1 + 16)] _ _); refine (HA2.out _).mono ?_; rintro e wa2 ⟨rfl, hba2⟩; replace RX := hid (RX.out.below hba2 RX.out.lt); replace HBW := hid (HBW.out.trans (hba2.mono HBW.out.size)))
                | (go_at_call 14; (with_reducible show Calls _ _ #[_, Value.int IntKind.i64 ((q : Int) + 1 + 24)] _ _); refine (HA3.out _).mono ?_; rintro e wa3 ⟨rfl, hba3⟩; replace RX := hid (RX.out.below hba3 RX.out.lt); replace HBW := hid (HBW.out.trans (hba3.mono HBW.out.size)))
                | (go_at_call 14; (with_reducible show Calls _ _ #[_, Value.int IntKind.i64 ((q : Int) + 1 + 32)] _ _); refine (HA4.out _).mono ?_; rintro e wa4 ⟨rfl, hba4⟩; replace RX := hid (RX.out.below hba4 RX.out.lt); replace HBW := hid (HBW.out.trans (hba4.mono HBW.out.size)))
                | ((with_reducible show wpList _ _ _ ({ dst := none, op := .store _ (.tmp 81) _, type := _, pos := _, after := _, guard := _ } :: _) _ _); refine wpl_store_at rfl (.tmp 81) (.tmp 80) rfl HZS.out wr.heap.size 1 _ (Array.toList (⟨sg n0, sg n1, sg n2, n3, n4⟩ : St).cells) rfl rfl RX ?_ (hid (by simp [It.cells, St.cells, st0, en0])) (hid rfl) (hid (by simp [St.cells, Value.oneCell'])); intro w7 RY hg7; clear RX; have RX : Hid (Row w7 wr.heap.size 62 ((⟨2, ⟨sg n0, sg n1, sg n2, n3, n4⟩, en0⟩ : It)).cells.toList) := RY; clear RY; replace HBW := hid (HBW.out.trans (below_grown hg7 (Nat.le_refl _) HBW.out.size)); replace HO3 := hid (own_belowM HO.out HBW.out); replace HB3 := hid (HB.out.trans (HBW.out.mono HB.out.size)); clear hg7)
                | ((with_reducible show wpList _ _ _ ({ dst := some 85, op := _, type := _, pos := _, after := _, guard := _ } :: _) _ _); refine wpList_load_row rfl 62 (.tmp 8) rfl wr.heap.size rfl 62 ((⟨2, ⟨sg n0, sg n1, sg n2, n3, n4⟩, en0⟩ : It).cells) (0, 0) _ (Row.arr RX.out) Tryz.underlying62 rfl HZI.out ?_)
                | (refine wpl_slice1M rfl 30 62 (.tmp 85) rfl i0 _ 15 Tryz.underlying30 hi hz0 hz1 (by decide) (by decide) (Array.toList ((⟨2, ⟨sg n0, sg n1, sg n2, n3, n4⟩, en0⟩ : It).cells)) rfl rfl ?_)
                | (refine wpl_append rfl (.tmp 84) (.tmp 86) 30 rfl w.heap.size 62 i0 _ 15 128 Tryz.underlying30 hi hz0 hz1 hz2 rfl (by omega) (.slice A k c) k _ rfl (own_allocM HO3.out _) (w7.heap.size + 1) (some ⟨w7.heap.size, 0, none⟩) 1 1 (Array.toList ((⟨2, ⟨sg n0, sg n1, sg n2, n3, n4⟩, en0⟩ : It).cells)) rfl ?_ (HNX.out w7 (Array.toList ((⟨2, ⟨sg n0, sg n1, sg n2, n3, n4⟩, en0⟩ : It).cells))) (hid rfl) (hid (it_one ((⟨2, ⟨sg n0, sg n1, sg n2, n3, n4⟩, en0⟩ : It)))) (hid (le_maxLen (by omega))) (hid (by omega)) (hid (by have := HB3.out.size; simp; omega)); intro v6 w6 hown6 hb6 hg6; have HO6 := hid hown6; have HB6 := hid ((HB3.out.alloc HB3.out.size (.cells (Array.toList ((⟨2, ⟨sg n0, sg n1, sg n2, n3, n4⟩, en0⟩ : It).cells)).toArray 62)).trans hb6); clear hown6 hb6 hg6))
              go_roundw
              case rel => exact ⟨k + 1, q + 41, l ++ [⟨2, ⟨sg n0, sg n1, sg n2, n3, n4⟩, en0⟩], by omega, by go_num, by go_num, by omega, hid (by rw [List.length_append, HLL.out]; rfl), HE2, hid (by rw [rws_app, rws_one]; exact HO6.out), HB6⟩
              case measure => simp [intOf]; omega
          · rw [if_neg h1, if_neg h2] at HIP
            have n1 : (s[q]'hql).toNat ≠ 1 := fun e => h1 (UInt8.toNat_inj.1 e)
            have n2 : (s[q]'hql).toNat ≠ 2 := fun e => h2 (UInt8.toNat_inj.1 e)
            obtain ⟨cn, hcn⟩ : ∃ cn, (s[q]'hql).toNat = cn := ⟨_, rfl⟩
            rw [hcn] at HIP n1 n2 h256
            have HE2 : Hid (itemsF (sb s) p (k + 1) = some (l ++ [⟨(cn : Int), st0, en0⟩], q + 1)) := hid (by rw [HSTEP.out, HIP.out]; rfl)
            have b1 : ((cn : Int) == 1) = false := by simp; omega
            have b2 : ((cn : Int) == 2) = false := by simp; omega
            clear h1 h2 n1 n2 HIP HC
            go_wp2_with (first
              | ((with_reducible show wpList _ _ _ ({ dst := none, op := .store _ (.tmp 8) _, type := _, pos := _, after := _, guard := _ } :: _) _ _); refine wpl_store_st rfl (.tmp 8) (.tmp 25) rfl HZI.out wr.heap.size #[.int .i64 0, .int .i64 0, .int .i64 0, .int .i64 0, .int .u64 0, .int .u64 0, .int .i64 0, .int .i64 0, .int .i64 0, .int .u64 0, .int .i64 0, .int .i64 0, .int .i64 0, .int .i64 0, .string ⟨#[]⟩] ((⟨(cn : Int), st0, en0⟩ : It).cells) rfl rfl (Row.new _ _ _) ?_ (hid rfl) (hid rfl) (hid (by simp [It.cells, st0, en0, Value.oneCell'])); intro w3 hr3 hg3; have RX := hid hr3; have hb3 : Below wr.heap.size wr w3 := ((Below.refl wr.heap.size wr).alloc (Nat.le_refl _) (.cells #[.int .i64 0, .int .i64 0, .int .i64 0, .int .i64 0, .int .u64 0, .int .u64 0, .int .i64 0, .int .i64 0, .int .i64 0, .int .u64 0, .int .i64 0, .int .i64 0, .int .i64 0, .int .i64 0, .string ⟨#[]⟩] 62)).trans (below_grown hg3 (Nat.le_refl _) (by simp)); have HB3 := hid (HB.out.trans (hb3.mono HB.out.size)); have HO3 := hid (own_belowM HO.out hb3); have HBW := hid hb3; have x0 : w3.cell? ⟨wr.heap.size, 0, none⟩ = some (.int .i64 (cn : Int)) := RX.out.cell 0; clear hr3 hg3)
              | ((with_reducible show wpList _ _ _ ({ dst := some 85, op := _, type := _, pos := _, after := _, guard := _ } :: _) _ _); refine wpList_load_row rfl 62 (.tmp 8) rfl wr.heap.size rfl 62 ((⟨(cn : Int), st0, en0⟩ : It).cells) (0, 0) _ (Row.arr RX.out) Tryz.underlying62 rfl HZI.out ?_)
              | (refine wpl_slice1M rfl 30 62 (.tmp 85) rfl i0 _ 15 Tryz.underlying30 hi hz0 hz1 (by decide) (by decide) (Array.toList ((⟨(cn : Int), st0, en0⟩ : It).cells)) rfl rfl ?_)
              | (refine wpl_append rfl (.tmp 84) (.tmp 86) 30 rfl w.heap.size 62 i0 _ 15 128 Tryz.underlying30 hi hz0 hz1 hz2 rfl (by omega) (.slice A k c) k _ rfl (own_allocM HO3.out _) (w3.heap.size + 1) (some ⟨w3.heap.size, 0, none⟩) 1 1 (Array.toList ((⟨(cn : Int), st0, en0⟩ : It).cells)) rfl ?_ (HNX.out w3 (Array.toList ((⟨(cn : Int), st0, en0⟩ : It).cells))) (hid rfl) (hid (it_one ((⟨(cn : Int), st0, en0⟩ : It)))) (hid (le_maxLen (by omega))) (hid (by omega)) (hid (by have := HB3.out.size; simp; omega)); intro v6 w6 hown6 hb6 hg6; have HO6 := hid hown6; have HB6 := hid ((HB3.out.alloc HB3.out.size (.cells (Array.toList ((⟨(cn : Int), st0, en0⟩ : It).cells)).toArray 62)).trans hb6); clear hown6 hb6 hg6))
            go_roundw
            case rel => exact ⟨k + 1, q + 1, l ++ [⟨(cn : Int), st0, en0⟩], by omega, by go_num, by go_num, by have := HS.out; omega, hid (by rw [List.length_append, HLL.out]; rfl), HE2, hid (by rw [rws_app, rws_one]; exact HO6.out), HB6⟩
            case measure => simp [intOf]; omega
      · have hqi : (s.size : Int) ≤ (q : Int) := by omega
        have HE2 : Hid (itemsF (sb s) p 8 = none) := hid (HNO.out (by
          rw [HSTEP.out]
          unfold itemP
          rw [List.getElem?_eq_none (by rw [sb_len]; omega)]
          rfl) 8 (by omega))
        clear hql
        go_wp2_with fail
        go_ret2
        exact ⟨by rw [HE2.out]; rfl, HB.out⟩
    · obtain rfl : k = 8 := by omega
      go_wp2_with fail
      go_ret2
      exact ⟨by rw [HE.out]; exact ⟨_, rfl, HLL.out, HO.out⟩, HB.out⟩
end Go.Proofs.YtcildaeiogdfdaaGreatDoor
/-
  The program's reader: its next number, its next entry.
-/
namespace Go.Proofs.YtcildaeiogdfdaaGreatDoor
open Go.RowKit
set_option maxRecDepth 10000

/-- the reader where it lies: bytes, and the place -/
structure Rdr (gr : Nat) (A : Option Addr) (c : Nat) (b : List UInt8) (p : Nat) (W : World) : Prop where
  row : Row W gr 49 [.slice A b.length c, .int .i64 (p : Int)]
  bytes : Rd W gr A (bvs b)
theorem Rdr.lt {gr : Nat} {A : Option Addr} {c : Nat} {b : List UInt8} {p : Nat} {W : World} (h : Rdr gr A c b p W) : gr < W.heap.size := h.row.lt
theorem Rdr.below {gr : Nat} {A : Option Addr} {c : Nat} {b : List UInt8} {p : Nat} {W W' : World} (h : Rdr gr A c b p W) (hb : Below W.heap.size W W') : Rdr gr A c b p W' :=
  ⟨h.row.below hb h.lt, h.bytes.below hb (Nat.le_of_lt h.lt)⟩
theorem Rdr.other {gr : Nat} {A : Option Addr} {c : Nat} {b : List UInt8} {p : Nat} {W W' : World} {g : Nat} (h : Rdr gr A c b p W) (hg : W.grownBy W' (some g)) (hlt : gr < g) : Rdr gr A c b p W' :=
  ⟨h.row.grown hg (by intro e; have := Option.some.inj e; omega), h.bytes.below (below_grown hg (Nat.le_of_lt hlt) (Nat.le_of_lt h.lt)) (Nat.le_refl _)⟩
theorem grown_of_below {w w' : World} (h : Below w.heap.size w w') (o : Option Nat) : w.grownBy w' o := ⟨h.os, h.tape, h.output, h.size, fun k hk _ => h.block k hk⟩
theorem grown_trans {w w1 w2 : World} {o : Option Nat} (h1 : w.grownBy w1 o) (h2 : w1.grownBy w2 o) : w.grownBy w2 o :=
  ⟨h2.os.trans h1.os, h2.tape.trans h1.tape, h2.output.trans h1.output, Nat.le_trans h1.size h2.size, fun k hk hne => (h2.block k (Nat.lt_of_lt_of_le hk h1.size) hne).trans (h1.block k hk hne)⟩
theorem grown_new {w w1 w2 : World} {o : Option Nat} {g : Nat} (h1 : w.grownBy w1 o) (h2 : w1.grownBy w2 (some g)) (hg : w.heap.size ≤ g) : w.grownBy w2 o :=
  ⟨h2.os.trans h1.os, h2.tape.trans h1.tape, h2.output.trans h1.output, Nat.le_trans h1.size h2.size, fun k hk hne => (h2.block k (Nat.lt_of_lt_of_le hk h1.size) (by intro e; have := Option.some.inj e; omega)).trans (h1.block k hk hne)⟩
theorem take_num (b : List UInt8) (p w : Nat) (hw : w = 1 ∨ w = 8) : takeS b (p : Int) (w : Int) = if p + w ≤ b.length then ((numT b p w).1, 0) else (0, 3) := by
  unfold takeS numT
  rw [if_neg (by omega)]
  by_cases h : p + w ≤ b.length
  · rw [if_neg (by omega), if_pos h, if_pos h, Int.toNat_natCast, Int.toNat_natCast]
  · rw [if_pos (by omega), if_neg h]
/-- what a number leaves -/
def RN (gr : Nat) (A : Option Addr) (c : Nat) (b : List UInt8) (w : World) (r : Nat × Nat) (e : Ending) (w' : World) : Prop := e = .returned (.int .u64 (r.1 : Int)) ∧ Rdr gr A c b r.2 w' ∧ w.grownBy w' (some gr)
set_option maxHeartbeats 4000000 in
theorem rnum_any (gr : Nat) (A : Option Addr) (c : Nat) (b : List UInt8) (p wd : Nat) (hw : wd = 1 ∨ wd = 8) (w : World) (hr : Rdr gr A c b p w) (hb : b.length ≤ 100000) (hc : b.length ≤ c) (_hp : p ≤ b.length) :
    Calls Tryz.prog 29 #[.pointer (some ⟨gr, 0, none⟩), .int .i64 (wd : Int)] w (RN gr A c b w (numT b p wd)) := by
  have HR := hid hr
  have C0 : Hid (∀ W, Rdr gr A c b p W ∧ Below w.heap.size w W → W.cell? ⟨gr, 0, none⟩ = some (.slice A b.length c)) := hid fun W h => h.1.row.cell 0
  have C1 : Hid (∀ W, Rdr gr A c b p W ∧ Below w.heap.size w W → W.cell? ⟨gr, 1, none⟩ = some (.int .i64 (p : Int))) := hid fun W h => h.1.row.cell 1
  have HT0 : Hid (∀ W, Rdr gr A c b p W → Calls Tryz.prog 53 #[.slice A b.length c, .int .i64 (p : Int), .int .i64 (wd : Int)] W (NE W (takeS b p wd))) := hid fun W hW =>
    take_any A b b.length c gr p wd W hW.bytes rfl (by omega) hc (Nat.le_of_lt hW.lt)
  rw [take_num b p wd hw] at HT0
  by_cases h : p + wd ≤ b.length
  · rw [if_pos h] at HT0
    have HP : Hid (numT b p wd = ((numT b p wd).1, p + wd)) := hid (by unfold numT; rw [if_pos h])
    rw [HP.out]
    generalize (numT b p wd).1 = N at *
    obtain ⟨F, hF⟩ : ∃ F : Int, F = 0 := ⟨0, rfl⟩
    have HT : Hid (∀ W, Rdr gr A c b p W → Calls Tryz.prog 53 #[.slice A b.length c, .int .i64 (p : Int), .int .i64 (wd : Int)] W fun e w' => e = .returned (.tuple #[.int .u64 (N : Int), .int .i64 F]) ∧ Below W.heap.size W w') := hid (by rw [hF]; exact HT0.out)
    have hF0 : (F == 0) = true := by simp [hF]
    have HPW : Hid (p + wd ≤ 100000) := hid (by omega)
    clear HT0 hF hr h _hp
    go_enter Tryz.func29, Tryz.ntmps29
    go_wp2_with fail
    refine wp_region_held_drew (S := (fun W => Rdr gr A c b p W ∧ Below w.heap.size w W)) (by kernel_rfl) (⟨⟨HR.out.row.drew, HR.out.bytes⟩, (Below.refl _ _).drew⟩) (fun hH => ?_)
    refine tk_ (i := 0) (v := .pointer (some ⟨gr, 0, none⟩)) rfl (Or.inl ⟨by rfl, fun w' hw' => by clear hw'; go_simp⟩) hH ?_
    simp only [Act.put, la1, la3, la4, la5, la6]
    refine tk_ (i := 1) (v := .pointer (some ⟨gr, 0, none⟩)) rfl (Or.inl ⟨by rfl, fun w' hw' => by clear hw'; go_simp⟩) hH ?_
    simp only [Act.put, la1, la2, la3, la4, la5, la6]
    refine tk_ (i := 2) (v := .pointer (some ⟨gr, 0, none⟩)) rfl (Or.inl ⟨by rfl, fun w' hw' => by clear hw'; go_simp⟩) hH ?_
    simp only [Act.put, la1, la2, la3, la4, la5, la6]
    refine tk_ (i := 3) (v := .slice A b.length c) rfl (Or.inl ⟨by rfl, fun w' hw' => by have h := C0.out w' hw'; go_simp⟩) hH ?_
    simp only [Act.put, la1, la2, la3, la4, la5, la6]
    refine tk_ (i := 4) (v := .pointer (some ⟨gr, 0, none⟩)) rfl (Or.inl ⟨by rfl, fun w' hw' => by clear hw'; go_simp⟩) hH ?_
    simp only [Act.put, la1, la2, la3, la4, la5, la6]
    refine tk_ (i := 5) (v := .pointer (some ⟨gr, 0, none⟩)) rfl (Or.inl ⟨by rfl, fun w' hw' => by clear hw'; go_simp⟩) hH ?_
    simp only [Act.put, la1, la2, la3, la4, la5, la6]
    refine tk_ (i := 6) (v := .pointer (some ⟨gr, 1, none⟩)) rfl (Or.inl ⟨by rfl, fun w' hw' => by clear hw'; go_simp⟩) hH ?_
    simp only [Act.put, la1, la2, la3, la4, la5, la6]
    refine tk_ (i := 7) (v := .int .i64 (p : Int)) rfl (Or.inl ⟨by rfl, fun w' hw' => by have h := C1.out w' hw'; go_simp⟩) hH ?_
    simp only [Act.put, la1, la2, la3, la4, la5, la6]
    refine tk_ (i := 8) (v := .int .i64 (wd : Int)) rfl (Or.inl ⟨by rfl, fun w' hw' => by clear hw'; go_simp⟩) hH ?_
    simp only [Act.put, la1, la2, la3, la4, la5, la6]
    refine rd1 (i := 9) (by kernel_rfl) rfl (fun K hK => ?_)
    go_simp
    go_at_call 53
    refine (HT.out _ hH.1).mono ?_
    rintro e w1 ⟨rfl, hb1⟩
    go_wp2_with fail
    refine hK.out _ _ (⟨hH.1.below hb1, hH.2.trans (hb1.mono hH.2.size)⟩) (fun hH => ?_)
    clear hK K
    try simp only [Act.put, la1, la2, la3, la4, la5, la6]
    refine tk_ (i := 10) (v := .tuple #[.int .u64 (N : Int), .int .i64 F]) rfl (Or.inl ⟨by rfl, fun w' hw' => by clear hw'; go_simp⟩) hH ?_
    simp only [Act.put, la1, la2, la3, la4, la5, la6]
    refine tk_ (i := 11) (v := .int .u64 (N : Int)) rfl (Or.inl ⟨by rfl, fun w' hw' => by clear hw'; go_simp⟩) hH ?_
    simp only [Act.put, la1, la2, la3, la4, la5, la6]
    refine tk_ (i := 12) (v := .int .i64 F) rfl (Or.inl ⟨by rfl, fun w' hw' => by clear hw'; go_simp⟩) hH ?_
    simp only [Act.put, la1, la2, la3, la4, la5, la6]
    refine rd1 (i := 13) (by kernel_rfl) rfl (fun K hK => ?_)
    go_simp
    refine hK.out _ _ (hH) (fun hH => ?_)
    clear hK K
    try simp only [Act.put, la1, la2, la3, la4, la5, la6]
    refine rd1 (i := 14) (by kernel_rfl) rfl (fun K hK => ?_)
    go_simp
    refine hK.out _ _ (hH) (fun hH => ?_)
    clear hK K
    try simp only [Act.put, la1, la2, la3, la4, la5, la6]
    refine wpAnyH_done (by kernel_rfl) ?_ _
    try simp only [Act.put, la1, la2, la3, la4, la5, la6]
    have R2 := hid hH.1.row
    have HB2 := hid hH.2
    have HBY := hid hH.1.bytes
    have c1 : World.cell? _ ⟨gr, 1, none⟩ = some (.int .i64 (p : Int)) := R2.out.cell 1
    have hpw : (p : Int) + (wd : Int) ≤ 100000 := by have := HPW.out; omega
    have hp0 : (0 : Int) ≤ (p : Int) := by omega
    have hw0 : (0 : Int) ≤ (wd : Int) := by omega
    clear hH
    go_wp2_with ((with_reducible show wpList _ _ _ ({ dst := none, op := .store _ (.tmp 29) _, type := _, pos := _, after := _, guard := _ } :: _) _ _); refine wpl_st1 rfl 3 (.tmp 29) (.tmp 27) rfl gr 1 (.int .i64 ((p + wd : Nat) : Int)) rfl (by have := HPW.out; go_num) R2 sizeInt ?_ (hid (by simp)) (hid rfl); intro w6 RX hg6)
    go_ret
    refine ⟨rfl, ⟨RX.out, HBY.out.below (below_grown hg6 (Nat.le_refl _) (Nat.le_of_lt R2.out.lt)) (Nat.le_refl _)⟩, grown_trans (grown_of_below HB2.out _) hg6⟩
  · rw [if_neg h] at HT0
    have HP : Hid (numT b p wd = (0, p)) := hid (by unfold numT; rw [if_neg h])
    rw [HP.out]
    obtain ⟨N, hN⟩ : ∃ N : Nat, N = 0 := ⟨0, rfl⟩
    obtain ⟨F, hF⟩ : ∃ F : Int, F = 3 := ⟨3, rfl⟩
    have HT : Hid (∀ W, Rdr gr A c b p W → Calls Tryz.prog 53 #[.slice A b.length c, .int .i64 (p : Int), .int .i64 (wd : Int)] W fun e w' => e = .returned (.tuple #[.int .u64 (N : Int), .int .i64 F]) ∧ Below W.heap.size W w') := hid (by rw [hF, hN]; exact HT0.out)
    have hF0 : (F == 0) = false := by simp [hF]
    have HN := hid hN
    clear HT0 hF hr h _hp hN
    go_enter Tryz.func29, Tryz.ntmps29
    go_wp2_with fail
    refine wp_region_held_drew (S := (fun W => Rdr gr A c b p W ∧ Below w.heap.size w W)) (by kernel_rfl) (⟨⟨HR.out.row.drew, HR.out.bytes⟩, (Below.refl _ _).drew⟩) (fun hH => ?_)
    refine tk_ (i := 0) (v := .pointer (some ⟨gr, 0, none⟩)) rfl (Or.inl ⟨by rfl, fun w' hw' => by clear hw'; go_simp⟩) hH ?_
    simp only [Act.put, la1, la3, la4, la5, la6]
    refine tk_ (i := 1) (v := .pointer (some ⟨gr, 0, none⟩)) rfl (Or.inl ⟨by rfl, fun w' hw' => by clear hw'; go_simp⟩) hH ?_
    simp only [Act.put, la1, la2, la3, la4, la5, la6]
    refine tk_ (i := 2) (v := .pointer (some ⟨gr, 0, none⟩)) rfl (Or.inl ⟨by rfl, fun w' hw' => by clear hw'; go_simp⟩) hH ?_
    simp only [Act.put, la1, la2, la3, la4, la5, la6]
    refine tk_ (i := 3) (v := .slice A b.length c) rfl (Or.inl ⟨by rfl, fun w' hw' => by have h := C0.out w' hw'; go_simp⟩) hH ?_
    simp only [Act.put, la1, la2, la3, la4, la5, la6]
    refine tk_ (i := 4) (v := .pointer (some ⟨gr, 0, none⟩)) rfl (Or.inl ⟨by rfl, fun w' hw' => by clear hw'; go_simp⟩) hH ?_
    simp only [Act.put, la1, la2, la3, la4, la5, la6]
    refine tk_ (i := 5) (v := .pointer (some ⟨gr, 0, none⟩)) rfl (Or.inl ⟨by rfl, fun w' hw' => by clear hw'; go_simp⟩) hH ?_
    simp only [Act.put, la1, la2, la3, la4, la5, la6]
    refine tk_ (i := 6) (v := .pointer (some ⟨gr, 1, none⟩)) rfl (Or.inl ⟨by rfl, fun w' hw' => by clear hw'; go_simp⟩) hH ?_
    simp only [Act.put, la1, la2, la3, la4, la5, la6]
    refine tk_ (i := 7) (v := .int .i64 (p : Int)) rfl (Or.inl ⟨by rfl, fun w' hw' => by have h := C1.out w' hw'; go_simp⟩) hH ?_
    simp only [Act.put, la1, la2, la3, la4, la5, la6]
    refine tk_ (i := 8) (v := .int .i64 (wd : Int)) rfl (Or.inl ⟨by rfl, fun w' hw' => by clear hw'; go_simp⟩) hH ?_
    simp only [Act.put, la1, la2, la3, la4, la5, la6]
    refine rd1 (i := 9) (by kernel_rfl) rfl (fun K hK => ?_)
    go_simp
    go_at_call 53
    refine (HT.out _ hH.1).mono ?_
    rintro e w1 ⟨rfl, hb1⟩
    go_wp2_with fail
    refine hK.out _ _ (⟨hH.1.below hb1, hH.2.trans (hb1.mono hH.2.size)⟩) (fun hH => ?_)
    clear hK K
    try simp only [Act.put, la1, la2, la3, la4, la5, la6]
    refine tk_ (i := 10) (v := .tuple #[.int .u64 (N : Int), .int .i64 F]) rfl (Or.inl ⟨by rfl, fun w' hw' => by clear hw'; go_simp⟩) hH ?_
    simp only [Act.put, la1, la2, la3, la4, la5, la6]
    refine tk_ (i := 11) (v := .int .u64 (N : Int)) rfl (Or.inl ⟨by rfl, fun w' hw' => by clear hw'; go_simp⟩) hH ?_
    simp only [Act.put, la1, la2, la3, la4, la5, la6]
    refine tk_ (i := 12) (v := .int .i64 F) rfl (Or.inl ⟨by rfl, fun w' hw' => by clear hw'; go_simp⟩) hH ?_
    simp only [Act.put, la1, la2, la3, la4, la5, la6]
    refine rd1 (i := 13) (by kernel_rfl) rfl (fun K hK => ?_)
    go_simp
    refine hK.out _ _ (hH) (fun hH => ?_)
    clear hK K
    try simp only [Act.put, la1, la2, la3, la4, la5, la6]
    refine rd1 (i := 14) (by kernel_rfl) rfl (fun K hK => ?_)
    go_simp
    refine hK.out _ _ (hH) (fun hH => ?_)
    clear hK K
    try simp only [Act.put, la1, la2, la3, la4, la5, la6]
    refine wpAnyH_done (by kernel_rfl) ?_ _
    try simp only [Act.put, la1, la2, la3, la4, la5, la6]
    go_wp2_with fail
    go_ret
    exact ⟨by rw [HN.out]; rfl, hH.1, grown_of_below hH.2 _⟩
theorem ttS_placeP (b : List UInt8) (p : Nat) (most : Int) (h : (ttS b p most).2.2 = 0) : (((ttS b p most).2.1.toNat : Nat) : Int) = (ttS b p most).2.1 ∧ (ttS b p most).2.1.toNat ≤ b.length ∧ (ttS b p most).1.length ≤ b.length := by
  unfold ttS at h ⊢
  split at h
  · rename_i h1
    exact absurd h h1
  · rename_i h1
    rw [if_neg h1]
    split at h
    · cases h
    · rename_i h2
      rw [if_neg h2]
      unfold ttN at h ⊢
      split at h
      · cases h
      · rename_i h3
        rw [if_neg h3]
        simp only
        refine ⟨by omega, by omega, ?_⟩
        rw [List.length_take, List.length_drop]
        omega
theorem ttS_lenP (b : List UInt8) (p : Nat) (most : Int) : (ttS b p most).1.length ≤ b.length := by
  unfold ttS
  split
  · simp
  · split
    · simp
    · unfold ttN
      split
      · simp
      · simp only
        rw [List.length_take, List.length_drop]
        omega
/-- what an entry leaves -/
def RE (gr : Nat) (A : Option Addr) (c : Nat) (b : List UInt8) (w : World) (r : En × Nat) (e : Ending) (w' : World) : Prop := e = .returned r.1.val ∧ Rdr gr A c b r.2 w' ∧ w.grownBy w' (some gr)
set_option maxHeartbeats 4000000 in
theorem rent_any (gr : Nat) (A : Option Addr) (c : Nat) (b : List UInt8) (p : Nat) (w : World) (hr : Rdr gr A c b p w) (hb : b.length ≤ 100000) (hc : b.length ≤ c) (hfd : Fd w) (hgr : 1 + 1 ≤ gr) :
    Calls Tryz.prog 30 #[.pointer (some ⟨gr, 0, none⟩)] w (RE gr A c b w (entT b p)) := by
  have HZE := hid esize
  have HB0 : Hid (Below w.heap.size w (w.alloc (.cells #[.int .i64 0, .int .i64 0, .int .i64 0, .int .u64 0, .int .i64 0, .int .i64 0, .int .i64 0, .int .i64 0, .string ⟨#[]⟩] 28))) := hid ((Below.refl _ _).alloc (Nat.le_refl _) _)
  have HR := hid (hr.below HB0.out)
  have R1 : Hid (Row (w.alloc (.cells #[.int .i64 0, .int .i64 0, .int .i64 0, .int .u64 0, .int .i64 0, .int .i64 0, .int .i64 0, .int .i64 0, .string ⟨#[]⟩] 28)) w.heap.size 28 (Array.toList #[.int .i64 0, .int .i64 0, .int .i64 0, .int .u64 0, .int .i64 0, .int .i64 0, .int .i64 0, .int .i64 0, .string ⟨#[]⟩])) := hid (Row.new _ _ _)
  have HGL := hid hr.lt
  have C0 : Hid (∀ W, (Rdr gr A c b p W ∧ Below (w.heap.size + 1) (w.alloc (.cells #[.int .i64 0, .int .i64 0, .int .i64 0, .int .u64 0, .int .i64 0, .int .i64 0, .int .i64 0, .int .i64 0, .string ⟨#[]⟩] 28)) W) → W.cell? ⟨gr, 0, none⟩ = some (.slice A b.length c)) := hid fun W h => h.1.row.cell 0
  have C1 : Hid (∀ W, (Rdr gr A c b p W ∧ Below (w.heap.size + 1) (w.alloc (.cells #[.int .i64 0, .int .i64 0, .int .i64 0, .int .u64 0, .int .i64 0, .int .i64 0, .int .i64 0, .int .i64 0, .string ⟨#[]⟩] 28)) W) → W.cell? ⟨gr, 1, none⟩ = some (.int .i64 (p : Int))) := hid fun W h => h.1.row.cell 1
  have HT0 : Hid (∀ W, Rdr gr A c b p W → Calls Tryz.prog 55 #[.slice A b.length c, .int .i64 (p : Int), .int .i64 (b.length : Int)] W (TE W (ttS b p b.length))) := hid fun W hW =>
    tt_any A b b.length c gr p b.length W hW.bytes rfl (by omega) hc (Nat.le_of_lt hW.lt)
  have HPL := hid (ttS_placeP b p b.length)
  have HTL := hid (ttS_lenP b p b.length)
  have HED : Hid (entT b p = if (ttS b p b.length).2.2 = 0 then ((unpackE (ttS b p b.length).1).1, (ttS b p b.length).2.1.toNat) else (en0, p)) := hid rfl
  have HUP : Hid (∀ (T : List UInt8) (W : World), T.length ≤ b.length → Fd W → Calls Tryz.prog 56 #[.string ⟨T.toArray⟩] W (EE W (unpackE T))) := hid fun T W hT hW => by
    have h := eup_any ⟨T.toArray⟩ W hW (by rw [← sb_len, sb_mk]; omega)
    rwa [sb_mk] at h
  have HFD := hid hfd
  generalize ttS b p b.length = r at *
  obtain ⟨T, Q, F⟩ := r
  (try simp only at HPL)
  (try simp only at HTL)
  (try simp only at HED)
  clear hr hfd
  by_cases hF : F = 0
  · rw [if_pos hF] at HED
    obtain ⟨q, hq⟩ : ∃ q : Nat, Q = (q : Int) := ⟨Q.toNat, (HPL.out hF).1.symm⟩
    rw [hq] at HT0 HED HPL
    rw [Int.toNat_natCast] at HED HPL
    have hF0 : (F != 0) = false := by simp [hF]
    have HT := HT0
    rw [HED.out]
    have HU := hid (fun W hW => HUP.out T W HTL.out hW)
    generalize unpackE T = u at *
    obtain ⟨E, G⟩ := u
    (try simp only at HU)
    clear HT0 hF hq HPL HUP
    go_enter Tryz.func30, Tryz.ntmps30
    go_wp2_with fail
    refine wp_region_held_drew (S := (fun W => Rdr gr A c b p W ∧ Below (w.heap.size + 1) (w.alloc (.cells #[.int .i64 0, .int .i64 0, .int .i64 0, .int .u64 0, .int .i64 0, .int .i64 0, .int .i64 0, .int .i64 0, .string ⟨#[]⟩] 28)) W)) (by kernel_rfl) (⟨⟨HR.out.row.drew, HR.out.bytes⟩, (Below.refl _ _).drew⟩) (fun hH => ?_)
    refine tk_ (i := 0) (v := .pointer (some ⟨gr, 0, none⟩)) rfl (Or.inl ⟨by rfl, fun w' hw' => by clear hw'; go_simp⟩) hH ?_
    simp only [Act.put, la1, la3, la4, la5, la6]
    refine tk_ (i := 1) (v := .pointer (some ⟨gr, 0, none⟩)) rfl (Or.inl ⟨by rfl, fun w' hw' => by clear hw'; go_simp⟩) hH ?_
    simp only [Act.put, la1, la2, la3, la4, la5, la6]
    refine tk_ (i := 2) (v := .pointer (some ⟨gr, 0, none⟩)) rfl (Or.inl ⟨by rfl, fun w' hw' => by clear hw'; go_simp⟩) hH ?_
    simp only [Act.put, la1, la2, la3, la4, la5, la6]
    refine tk_ (i := 3) (v := .slice A b.length c) rfl (Or.inl ⟨by rfl, fun w' hw' => by have h := C0.out w' hw'; go_simp⟩) hH ?_
    simp only [Act.put, la1, la2, la3, la4, la5, la6]
    refine tk_ (i := 4) (v := .pointer (some ⟨gr, 0, none⟩)) rfl (Or.inl ⟨by rfl, fun w' hw' => by clear hw'; go_simp⟩) hH ?_
    simp only [Act.put, la1, la2, la3, la4, la5, la6]
    refine tk_ (i := 5) (v := .pointer (some ⟨gr, 0, none⟩)) rfl (Or.inl ⟨by rfl, fun w' hw' => by clear hw'; go_simp⟩) hH ?_
    simp only [Act.put, la1, la2, la3, la4, la5, la6]
    refine tk_ (i := 6) (v := .pointer (some ⟨gr, 1, none⟩)) rfl (Or.inl ⟨by rfl, fun w' hw' => by clear hw'; go_simp⟩) hH ?_
    simp only [Act.put, la1, la2, la3, la4, la5, la6]
    refine tk_ (i := 7) (v := .int .i64 (p : Int)) rfl (Or.inl ⟨by rfl, fun w' hw' => by have h := C1.out w' hw'; go_simp⟩) hH ?_
    simp only [Act.put, la1, la2, la3, la4, la5, la6]
    refine tk_ (i := 8) (v := .pointer (some ⟨gr, 0, none⟩)) rfl (Or.inl ⟨by rfl, fun w' hw' => by clear hw'; go_simp⟩) hH ?_
    simp only [Act.put, la1, la2, la3, la4, la5, la6]
    refine tk_ (i := 9) (v := .pointer (some ⟨gr, 0, none⟩)) rfl (Or.inl ⟨by rfl, fun w' hw' => by clear hw'; go_simp⟩) hH ?_
    simp only [Act.put, la1, la2, la3, la4, la5, la6]
    refine tk_ (i := 10) (v := .pointer (some ⟨gr, 0, none⟩)) rfl (Or.inl ⟨by rfl, fun w' hw' => by clear hw'; go_simp⟩) hH ?_
    simp only [Act.put, la1, la2, la3, la4, la5, la6]
    refine tk_ (i := 11) (v := .slice A b.length c) rfl (Or.inl ⟨by rfl, fun w' hw' => by have h := C0.out w' hw'; go_simp⟩) hH ?_
    simp only [Act.put, la1, la2, la3, la4, la5, la6]
    refine tk_ (i := 12) (v := .int .i64 (b.length : Int)) rfl (Or.inl ⟨by rfl, fun w' hw' => by clear hw'; go_simp⟩) hH ?_
    simp only [Act.put, la1, la2, la3, la4, la5, la6]
    refine rd1 (i := 13) (by kernel_rfl) rfl (fun K hK => ?_)
    go_simp
    go_at_call 55
    refine (HT.out _ hH.1).mono ?_
    rintro e w1 ⟨rfl, hb1⟩
    go_wp2_with fail
    refine hK.out _ _ (⟨hH.1.below hb1, hH.2.trans (hb1.mono (by simp))⟩) (fun hH => ?_)
    clear hK K
    try simp only [Act.put, la1, la2, la3, la4, la5, la6]
    refine tk_ (i := 14) (v := .tuple #[.string ⟨T.toArray⟩, .int .i64 (q : Int), .int .i64 F]) rfl (Or.inl ⟨by rfl, fun w' hw' => by clear hw'; go_simp⟩) hH ?_
    simp only [Act.put, la1, la2, la3, la4, la5, la6]
    refine tk_ (i := 15) (v := .string ⟨T.toArray⟩) rfl (Or.inl ⟨by rfl, fun w' hw' => by clear hw'; go_simp⟩) hH ?_
    simp only [Act.put, la1, la2, la3, la4, la5, la6]
    refine tk_ (i := 16) (v := .int .i64 (q : Int)) rfl (Or.inl ⟨by rfl, fun w' hw' => by clear hw'; go_simp⟩) hH ?_
    simp only [Act.put, la1, la2, la3, la4, la5, la6]
    refine tk_ (i := 17) (v := .int .i64 F) rfl (Or.inl ⟨by rfl, fun w' hw' => by clear hw'; go_simp⟩) hH ?_
    simp only [Act.put, la1, la2, la3, la4, la5, la6]
    refine rd1 (i := 18) (by kernel_rfl) rfl (fun K hK => ?_)
    go_simp
    refine hK.out _ _ (hH) (fun hH => ?_)
    clear hK K
    try simp only [Act.put, la1, la2, la3, la4, la5, la6]
    refine rd1 (i := 19) (by kernel_rfl) rfl (fun K hK => ?_)
    go_simp
    refine hK.out _ _ (hH) (fun hH => ?_)
    clear hK K
    try simp only [Act.put, la1, la2, la3, la4, la5, la6]
    refine rd1 (i := 20) (by kernel_rfl) rfl (fun K hK => ?_)
    go_simp
    refine hK.out _ _ (hH) (fun hH => ?_)
    clear hK K
    try simp only [Act.put, la1, la2, la3, la4, la5, la6]
    refine wpAnyH_done (by kernel_rfl) ?_ _
    try simp only [Act.put, la1, la2, la3, la4, la5, la6]
    have R2 := hid hH.1.row
    have HB2 := hid hH.2
    have HBY := hid hH.1.bytes
    have RZ := hid (R1.out.below hH.2 (Nat.lt_succ_self _))
    clear hH
    go_wp2_with (first
      | ((with_reducible show wpList _ _ _ ({ dst := none, op := .store _ (.tmp 32) _, type := _, pos := _, after := _, guard := _ } :: _) _ _); refine wpl_st1 rfl 3 (.tmp 32) (.tmp 30) rfl gr 1 (.int .i64 (q : Int)) rfl rfl R2 sizeInt ?_ (hid (by simp)) (hid rfl); intro w3 RX hg3; have RZ3 := hid (RZ.out.grown hg3 (by intro e; have := Option.some.inj e; have := HGL.out; omega)); have HG3 := hid hg3)
      | (go_at_call 56; refine (HU.out w3 (HFD.out.below (((HB0.out.mono (Nat.le_of_lt HGL.out)).trans (HB2.out.mono (Nat.le_of_lt (Nat.lt_succ_of_lt HGL.out)))).trans (below_grown HG3.out (Nat.le_refl _) (Nat.le_of_lt R2.out.lt))) hgr)).mono ?_; rintro e w4 ⟨rfl, hb4⟩; have RZ4 := hid (RZ3.out.below hb4 RZ3.out.lt); have RX4 := hid (RX.out.below hb4 RX.out.lt); have HB4 := hid hb4)
      | ((with_reducible show wpList _ _ _ ({ dst := none, op := .store _ (.tmp 6) _, type := _, pos := _, after := _, guard := _ } :: _) _ _); refine wpl_store_st rfl (.tmp 6) (.tmp 36) rfl HZE.out w4.heap.size #[.int .i64 0, .int .i64 0, .int .i64 0, .int .u64 0, .int .i64 0, .int .i64 0, .int .i64 0, .int .i64 0, .string ⟨#[]⟩] E.cells rfl rfl (Row.new _ _ _) ?_ (hid rfl) (hid rfl) (hid (ecells_one E)); intro w5 hr5 hg5; have RE5 := hid hr5; have hb5 : Below w4.heap.size w4 w5 := ((Below.refl _ _).alloc (Nat.le_refl _) (.cells #[.int .i64 0, .int .i64 0, .int .i64 0, .int .u64 0, .int .i64 0, .int .i64 0, .int .i64 0, .int .i64 0, .string ⟨#[]⟩] 28)).trans (below_grown hg5 (Nat.le_refl _) (by simp)); have RZ5 := hid (RZ4.out.below hb5 RZ4.out.lt); have RX5 := hid (RX4.out.below hb5 RX4.out.lt); have HB5 := hid hb5; clear hb5 hr5 hg5)
      | ((with_reducible show wpList _ _ _ ({ dst := some 38, op := _, type := _, pos := _, after := _, guard := _ } :: _) _ _); refine wpList_load_row rfl 28 (.tmp 6) rfl w4.heap.size rfl 28 E.cells (0, 0) _ (Row.arr RE5.out) Tryz.underlying28 rfl HZE.out ?_)
      | ((with_reducible show wpList _ _ _ ({ dst := none, op := .store _ (.tmp 2) _, type := _, pos := _, after := _, guard := _ } :: _) _ _); refine wpl_store_st rfl (.tmp 2) (.tmp 38) rfl HZE.out w.heap.size #[.int .i64 0, .int .i64 0, .int .i64 0, .int .u64 0, .int .i64 0, .int .i64 0, .int .i64 0, .int .i64 0, .string ⟨#[]⟩] E.cells rfl rfl RZ5.out ?_ (hid rfl) (hid rfl) (hid (ecells_one E)); intro w6 hr6 hg6))
    have hGL := HGL.out
    have hs2 := HB2.out.size
    have g1 : w.grownBy w3 (some gr) := grown_trans (grown_of_below (HB0.out.trans (HB2.out.mono (by simp))) _) HG3.out
    have hs3 := g1.size
    have g2 : w.grownBy w5 (some gr) := grown_trans g1 (grown_of_below (HB4.out.trans (HB5.out.mono HB4.out.size)) _)
    have hs5 := g2.size
    refine bodyPost_ret (v := .agg E.cells) (results_cell_row rfl _ _ w.heap.size 28 _ (0, 0) _ rfl (Row.arr hr6) Tryz.underlying28 rfl HZE.out) rfl ⟨rfl, ⟨RX5.out.grown hg6 (by intro e; have := Option.some.inj e; omega), ?_⟩, ?_⟩
    · exact ((((HBY.out.below (below_grown HG3.out (Nat.le_refl _) (Nat.le_of_lt R2.out.lt)) (Nat.le_refl _)).below HB4.out (by have := RX.out.lt; omega)).below HB5.out (by have := RX4.out.lt; omega)).below (below_grown hg6 (Nat.le_refl _) (by omega)) (by omega))
    · exact grown_new g2 hg6 (Nat.le_refl _)
  · rw [if_neg hF] at HED
    have hF0 : (F != 0) = true := by simp [hF]
    have HT := HT0
    rw [HED.out]
    clear HT0 hF HPL HUP
    go_enter Tryz.func30, Tryz.ntmps30
    go_wp2_with fail
    refine wp_region_held_drew (S := (fun W => Rdr gr A c b p W ∧ Below (w.heap.size + 1) (w.alloc (.cells #[.int .i64 0, .int .i64 0, .int .i64 0, .int .u64 0, .int .i64 0, .int .i64 0, .int .i64 0, .int .i64 0, .string ⟨#[]⟩] 28)) W)) (by kernel_rfl) (⟨⟨HR.out.row.drew, HR.out.bytes⟩, (Below.refl _ _).drew⟩) (fun hH => ?_)
    refine tk_ (i := 0) (v := .pointer (some ⟨gr, 0, none⟩)) rfl (Or.inl ⟨by rfl, fun w' hw' => by clear hw'; go_simp⟩) hH ?_
    simp only [Act.put, la1, la3, la4, la5, la6]
    refine tk_ (i := 1) (v := .pointer (some ⟨gr, 0, none⟩)) rfl (Or.inl ⟨by rfl, fun w' hw' => by clear hw'; go_simp⟩) hH ?_
    simp only [Act.put, la1, la2, la3, la4, la5, la6]
    refine tk_ (i := 2) (v := .pointer (some ⟨gr, 0, none⟩)) rfl (Or.inl ⟨by rfl, fun w' hw' => by clear hw'; go_simp⟩) hH ?_
    simp only [Act.put, la1, la2, la3, la4, la5, la6]
    refine tk_ (i := 3) (v := .slice A b.length c) rfl (Or.inl ⟨by rfl, fun w' hw' => by have h := C0.out w' hw'; go_simp⟩) hH ?_
    simp only [Act.put, la1, la2, la3, la4, la5, la6]
    refine tk_ (i := 4) (v := .pointer (some ⟨gr, 0, none⟩)) rfl (Or.inl ⟨by rfl, fun w' hw' => by clear hw'; go_simp⟩) hH ?_
    simp only [Act.put, la1, la2, la3, la4, la5, la6]
    refine tk_ (i := 5) (v := .pointer (some ⟨gr, 0, none⟩)) rfl (Or.inl ⟨by rfl, fun w' hw' => by clear hw'; go_simp⟩) hH ?_
    simp only [Act.put, la1, la2, la3, la4, la5, la6]
    refine tk_ (i := 6) (v := .pointer (some ⟨gr, 1, none⟩)) rfl (Or.inl ⟨by rfl, fun w' hw' => by clear hw'; go_simp⟩) hH ?_
    simp only [Act.put, la1, la2, la3, la4, la5, la6]
    refine tk_ (i := 7) (v := .int .i64 (p : Int)) rfl (Or.inl ⟨by rfl, fun w' hw' => by have h := C1.out w' hw'; go_simp⟩) hH ?_
    simp only [Act.put, la1, la2, la3, la4, la5, la6]
    refine tk_ (i := 8) (v := .pointer (some ⟨gr, 0, none⟩)) rfl (Or.inl ⟨by rfl, fun w' hw' => by clear hw'; go_simp⟩) hH ?_
    simp only [Act.put, la1, la2, la3, la4, la5, la6]
    refine tk_ (i := 9) (v := .pointer (some ⟨gr, 0, none⟩)) rfl (Or.inl ⟨by rfl, fun w' hw' => by clear hw'; go_simp⟩) hH ?_
    simp only [Act.put, la1, la2, la3, la4, la5, la6]
    refine tk_ (i := 10) (v := .pointer (some ⟨gr, 0, none⟩)) rfl (Or.inl ⟨by rfl, fun w' hw' => by clear hw'; go_simp⟩) hH ?_
    simp only [Act.put, la1, la2, la3, la4, la5, la6]
    refine tk_ (i := 11) (v := .slice A b.length c) rfl (Or.inl ⟨by rfl, fun w' hw' => by have h := C0.out w' hw'; go_simp⟩) hH ?_
    simp only [Act.put, la1, la2, la3, la4, la5, la6]
    refine tk_ (i := 12) (v := .int .i64 (b.length : Int)) rfl (Or.inl ⟨by rfl, fun w' hw' => by clear hw'; go_simp⟩) hH ?_
    simp only [Act.put, la1, la2, la3, la4, la5, la6]
    refine rd1 (i := 13) (by kernel_rfl) rfl (fun K hK => ?_)
    go_simp
    go_at_call 55
    refine (HT.out _ hH.1).mono ?_
    rintro e w1 ⟨rfl, hb1⟩
    go_wp2_with fail
    refine hK.out _ _ (⟨hH.1.below hb1, hH.2.trans (hb1.mono (by simp))⟩) (fun hH => ?_)
    clear hK K
    try simp only [Act.put, la1, la2, la3, la4, la5, la6]
    refine tk_ (i := 14) (v := .tuple #[.string ⟨T.toArray⟩, .int .i64 Q, .int .i64 F]) rfl (Or.inl ⟨by rfl, fun w' hw' => by clear hw'; go_simp⟩) hH ?_
    simp only [Act.put, la1, la2, la3, la4, la5, la6]
    refine tk_ (i := 15) (v := .string ⟨T.toArray⟩) rfl (Or.inl ⟨by rfl, fun w' hw' => by clear hw'; go_simp⟩) hH ?_
    simp only [Act.put, la1, la2, la3, la4, la5, la6]
    refine tk_ (i := 16) (v := .int .i64 Q) rfl (Or.inl ⟨by rfl, fun w' hw' => by clear hw'; go_simp⟩) hH ?_
    simp only [Act.put, la1, la2, la3, la4, la5, la6]
    refine tk_ (i := 17) (v := .int .i64 F) rfl (Or.inl ⟨by rfl, fun w' hw' => by clear hw'; go_simp⟩) hH ?_
    simp only [Act.put, la1, la2, la3, la4, la5, la6]
    refine rd1 (i := 18) (by kernel_rfl) rfl (fun K hK => ?_)
    go_simp
    refine hK.out _ _ (hH) (fun hH => ?_)
    clear hK K
    try simp only [Act.put, la1, la2, la3, la4, la5, la6]
    refine rd1 (i := 19) (by kernel_rfl) rfl (fun K hK => ?_)
    go_simp
    refine hK.out _ _ (hH) (fun hH => ?_)
    clear hK K
    try simp only [Act.put, la1, la2, la3, la4, la5, la6]
    refine rd1 (i := 20) (by kernel_rfl) rfl (fun K hK => ?_)
    go_simp
    refine hK.out _ _ (hH) (fun hH => ?_)
    clear hK K
    try simp only [Act.put, la1, la2, la3, la4, la5, la6]
    refine wpAnyH_done (by kernel_rfl) ?_ _
    try simp only [Act.put, la1, la2, la3, la4, la5, la6]
    have HB2 := hid hH.2
    have HD := hid hH.1
    have RZ := hid (R1.out.below hH.2 (Nat.lt_succ_self _))
    clear hH
    go_wp2_with ((with_reducible show wpList _ _ _ ({ dst := none, op := .store _ (.tmp 2) _, type := _, pos := _, after := _, guard := _ } :: _) _ _); refine wpl_store_st rfl (.tmp 2) (.tmp 28) rfl HZE.out w.heap.size #[.int .i64 0, .int .i64 0, .int .i64 0, .int .u64 0, .int .i64 0, .int .i64 0, .int .i64 0, .int .i64 0, .string ⟨#[]⟩] en0.cells rfl rfl RZ.out ?_ (hid rfl) (hid rfl) (hid (ecells_one en0)); intro w6 hr6 hg6)
    have hGL := HGL.out
    have hs2 := HB2.out.size
    refine bodyPost_ret (v := .agg en0.cells) (results_cell_row rfl _ _ w.heap.size 28 _ (0, 0) _ rfl (Row.arr hr6) Tryz.underlying28 rfl HZE.out) rfl ⟨rfl, HD.out.other hg6 (by omega), grown_new (grown_of_below (HB0.out.trans (HB2.out.mono (by simp))) _) hg6 (Nat.le_refl _)⟩
end Go.Proofs.YtcildaeiogdfdaaGreatDoor
/-
  The program's reader: its next item.
-/
namespace Go.Proofs.YtcildaeiogdfdaaGreatDoor
open Go.RowKit
set_option maxRecDepth 10000

theorem numT_le (b : List UInt8) (p w : Nat) (hp : p ≤ b.length) : (numT b p w).2 ≤ b.length := by
  unfold numT
  split
  · assumption
  · exact hp
theorem entT_le (b : List UInt8) (p : Nat) (hp : p ≤ b.length) : (entT b p).2 ≤ b.length := by
  unfold entT
  split
  · rename_i h
    exact (ttS_placeP b p b.length h).2.1
  · exact hp
theorem numsT_le (b : List UInt8) (p : Nat) (hp : p ≤ b.length) : ∀ k, (numsT b p k).2 ≤ b.length
  | 0 => hp
  | k + 1 => numT_le _ _ _ (numsT_le b p hp k)
/-- what an item leaves -/
def RI (gr : Nat) (A : Option Addr) (c : Nat) (b : List UInt8) (w : World) (r : It × Nat) (e : Ending) (w' : World) : Prop := e = .returned r.1.val ∧ Rdr gr A c b r.2 w' ∧ w.grownBy w' (some gr)
theorem wrap_byte (n : Nat) (h : n < 256) : wrap64 (n : Int) = (n : Int) := by
  unfold wrap64
  show _ = _
  omega
set_option maxHeartbeats 1000000 in
theorem ritem_any (gr : Nat) (A : Option Addr) (c : Nat) (b : List UInt8) (p : Nat) (w : World) (hr : Rdr gr A c b p w) (hb : b.length ≤ 100000) (hc : b.length ≤ c) (hp : p ≤ b.length) (hfd : Fd w) (hgr : 1 + 1 ≤ gr) :
    Calls Tryz.prog 31 #[.pointer (some ⟨gr, 0, none⟩)] w (RI gr A c b w (itemT b p)) := by
  have HZI := hid isize
  have HZE := hid esize
  have HZS := hid stsizeM
  have HB0 : Hid (Below w.heap.size w (w.alloc (.cells #[.int .i64 0, .int .i64 0, .int .i64 0, .int .i64 0, .int .u64 0, .int .u64 0, .int .i64 0, .int .i64 0, .int .i64 0, .int .u64 0, .int .i64 0, .int .i64 0, .int .i64 0, .int .i64 0, .string ⟨#[]⟩] 62))) := hid ((Below.refl _ _).alloc (Nat.le_refl _) _)
  have RD0 := hid (hr.below HB0.out)
  have RZ0 : Hid (Row (w.alloc (.cells #[.int .i64 0, .int .i64 0, .int .i64 0, .int .i64 0, .int .u64 0, .int .u64 0, .int .i64 0, .int .i64 0, .int .i64 0, .int .u64 0, .int .i64 0, .int .i64 0, .int .i64 0, .int .i64 0, .string ⟨#[]⟩] 62)) w.heap.size 62 (Array.toList #[.int .i64 0, .int .i64 0, .int .i64 0, .int .i64 0, .int .u64 0, .int .u64 0, .int .i64 0, .int .i64 0, .int .i64 0, .int .u64 0, .int .i64 0, .int .i64 0, .int .i64 0, .int .i64 0, .string ⟨#[]⟩])) := hid (Row.new _ _ _)
  have HGL := hid hr.lt
  have HFD : Hid (∀ W, (w.alloc (.cells #[.int .i64 0, .int .i64 0, .int .i64 0, .int .i64 0, .int .u64 0, .int .u64 0, .int .i64 0, .int .i64 0, .int .i64 0, .int .u64 0, .int .i64 0, .int .i64 0, .int .i64 0, .int .i64 0, .string ⟨#[]⟩] 62)).grownBy W (some gr) → Fd W) := hid fun W hW => hfd.below ((HB0.out.mono (Nat.le_of_lt HGL.out)).trans (below_grown hW (Nat.le_refl _) (by have := HGL.out; simp; omega))) hgr
  have HNUM : Hid (∀ (q wd : Nat), (wd = 1 ∨ wd = 8) → q ≤ b.length → ∀ W, Rdr gr A c b q W → Calls Tryz.prog 29 #[.pointer (some ⟨gr, 0, none⟩), .int .i64 (wd : Int)] W (RN gr A c b W (numT b q wd))) := hid fun q wd hw hq W hW => rnum_any gr A c b q wd hw W hW hb hc hq
  have HN0 := hid (HNUM.out p 1 (.inl rfl) hp)
  have HQ0 := numT_le b p 1 hp
  have HNB := byteT_lt b p
  have HENT : Hid (∀ (q : Nat) (W : World), (w.alloc (.cells #[.int .i64 0, .int .i64 0, .int .i64 0, .int .i64 0, .int .u64 0, .int .u64 0, .int .i64 0, .int .i64 0, .int .i64 0, .int .u64 0, .int .i64 0, .int .i64 0, .int .i64 0, .int .i64 0, .string ⟨#[]⟩] 62)).grownBy W (some gr) → Rdr gr A c b q W → Calls Tryz.prog 30 #[.pointer (some ⟨gr, 0, none⟩)] W (RE gr A c b W (entT b q))) := hid fun q W hg hW => rent_any gr A c b q W hW hb hc (HFD.out W hg) hgr
  have HIT : Hid (itemT b p = if (numT b p 1).1 = 1 then (⟨1, stubS (entT b (numT b p 1).2).1, (entT b (numT b p 1).2).1⟩, (entT b (numT b p 1).2).2)
  else if (numT b p 1).1 = 2 then (⟨2, stOf (numsT b (numT b p 1).2 5).1, en0⟩, (numsT b (numT b p 1).2 5).2)
  else (⟨((numT b p 1).1 : Int), st0, en0⟩, (numT b p 1).2)) := hid rfl
  clear hr hfd hp
  generalize numT b p 1 = r at *
  obtain ⟨n, q⟩ := r
  simp only at HIT HQ0 HNB
  have hwn := wrap_byte n HNB
  by_cases h1 : n = 1
  · rw [if_pos h1] at HIT
    rw [HIT.out]
    have e1 : ((n : Int) == 1) = true := by simp [h1]
    have HEQ := hid (HENT.out q)
    have HEF := hid (entT_fits b q)
    generalize entT b q = u at *
    obtain ⟨E, q2⟩ := u
    have HSB := hid (fun (W : World) (h : Fd W) => sstub_any E HEF.out W h)
    have HE1 : Hid ((n : Int) = 1) := hid (by omega)
    clear h1 HIT HNUM HNB HQ0 HENT
    go_enter Tryz.func31, Tryz.ntmps31
    go_wp2_with (first
      | (go_at_call 29; refine (HN0.out _ RD0.out).mono ?_; rintro e w1 ⟨rfl, rd1, hg1⟩; have RD1 := hid rd1; have G1 := hid hg1; have RZ1 := hid (RZ0.out.grown hg1 (by intro e; have := Option.some.inj e; have := HGL.out; omega)); clear rd1 hg1)
      | ((with_reducible show wpList _ _ _ ({ dst := none, op := .store _ (.tmp 3) _, type := _, pos := _, after := _, guard := _ } :: _) _ _); refine wpl_store_st rfl (.tmp 3) (.tmp 7) rfl HZI.out w1.heap.size #[.int .i64 0, .int .i64 0, .int .i64 0, .int .i64 0, .int .u64 0, .int .u64 0, .int .i64 0, .int .i64 0, .int .i64 0, .int .u64 0, .int .i64 0, .int .i64 0, .int .i64 0, .int .i64 0, .string ⟨#[]⟩] (⟨(n : Int), st0, en0⟩ : It).cells rfl rfl (Row.new _ _ _) ?_ (hid rfl) (hid rfl) (hid (by simp [It.cells, st0, en0, Value.oneCell'])); intro w2 hr2 hg2; have RI2 := hid hr2; have hb2 : Below w1.heap.size w1 w2 := ((Below.refl _ _).alloc (Nat.le_refl _) (.cells #[.int .i64 0, .int .i64 0, .int .i64 0, .int .i64 0, .int .u64 0, .int .u64 0, .int .i64 0, .int .i64 0, .int .i64 0, .int .u64 0, .int .i64 0, .int .i64 0, .int .i64 0, .int .i64 0, .string ⟨#[]⟩] 62)).trans (below_grown hg2 (Nat.le_refl _) (by simp)); have RD2 := hid (RD1.out.below hb2); have RZ2 := hid (RZ1.out.below hb2 RZ1.out.lt); have G2 := hid (grown_trans G1.out (grown_of_below hb2 _)); have HS12 := hid (show w.heap.size + 1 ≤ w1.heap.size by have := G1.out.size; simpa using this); have i0 : w2.cell? ⟨w1.heap.size, 0, none⟩ = some (.int .i64 (n : Int)) := hr2.cell 0; clear hb2 hr2 hg2)
      | (go_at_call 30; refine (HEQ.out _ G2.out RD2.out).mono ?_; rintro e w3 ⟨rfl, rd3, hg3⟩; have hne3 : some w1.heap.size ≠ some gr := (by intro e; have := Option.some.inj e; have := RD1.out.lt; omega); have RD3 := hid rd3; have RI3 := hid (RI2.out.grown hg3 hne3); have RZ3 := hid (RZ2.out.grown hg3 (by intro e; have := Option.some.inj e; have := HGL.out; omega)); have G3 := hid (grown_trans G2.out hg3); clear rd3 hg3)
      | ((with_reducible show wpList _ _ _ ({ dst := none, op := .store _ (.tmp 14) _, type := _, pos := _, after := _, guard := _ } :: _) _ _); refine wpl_store_at rfl (.tmp 14) (.tmp 13) rfl HZE.out w1.heap.size 6 _ (Array.toList E.cells) rfl rfl RI3 ?_ (hid (by simp [It.cells, En.cells])) (hid rfl) (hid (by simp [En.cells, Value.oneCell'])); intro w4 RI4' hg4; have RI4 : Hid (Row w4 w1.heap.size 62 (Array.toList (⟨(n : Int), st0, E⟩ : It).cells)) := RI4'; have RD4 := hid (RD3.out.other hg4 (by have := RD1.out.lt; omega)); have RZ4 := hid (RZ3.out.grown hg4 (by intro e; have := Option.some.inj e; have := HS12.out; omega)); have G4 := hid (grown_new G3.out hg4 (by have := HS12.out; simp; omega)); clear RI4' hg4)
      | ((with_reducible show wpList _ _ _ ({ dst := some 16, op := _, type := _, pos := _, after := _, guard := _ } :: _) _ _); refine wpl_load_midw rfl 28 (.tmp 15) rfl w1.heap.size 6 rfl (Array.toList E.cells) _ (it_entry (x := ⟨(n : Int), st0, E⟩) RI4.out) Tryz.underlying28 rfl (by exact HZE.out) ?_)
      | (go_at_call 57; refine (HSB.out _ (HFD.out _ G4.out)).mono ?_; rintro e w5 ⟨rfl, hb5⟩; have RD5 := hid (RD4.out.below hb5); have RI5 := hid (RI4.out.below hb5 RI4.out.lt); have RZ5 := hid (RZ4.out.below hb5 RZ4.out.lt); have G5 := hid (grown_trans G4.out (grown_of_below hb5 _)); clear hb5)
      | ((with_reducible show wpList _ _ _ ({ dst := none, op := .store _ (.tmp 18) _, type := _, pos := _, after := _, guard := _ } :: _) _ _); refine wpl_store_at rfl (.tmp 18) (.tmp 17) rfl HZS.out w1.heap.size 1 _ (Array.toList (stubS E).cells) rfl rfl RI5 ?_ (hid (by simp [It.cells, St.cells])) (hid rfl) (hid (by simp [St.cells, Value.oneCell'])); intro w6 RI6' hg6; have RI6 : Hid (Row w6 w1.heap.size 62 (Array.toList (⟨1, stubS E, E⟩ : It).cells)) := (by rw [← HE1.out]; exact RI6'); have RD6 := hid (RD5.out.other hg6 (by have := RD1.out.lt; omega)); have RZ6 := hid (RZ5.out.grown hg6 (by intro e; have := Option.some.inj e; have := HS12.out; omega)); have G6 := hid (grown_new G5.out hg6 (by have := HS12.out; simp; omega)); clear RI6' hg6)
      | ((with_reducible show wpList _ _ _ ({ dst := some 36, op := _, type := _, pos := _, after := _, guard := _ } :: _) _ _); refine wpList_load_row rfl 62 (.tmp 3) rfl w1.heap.size rfl 62 (⟨1, stubS E, E⟩ : It).cells (0, 0) _ (Row.arr RI6.out) Tryz.underlying62 rfl HZI.out ?_)
      | ((with_reducible show wpList _ _ _ ({ dst := none, op := .store _ (.tmp 2) _, type := _, pos := _, after := _, guard := _ } :: _) _ _); refine wpl_store_st rfl (.tmp 2) (.tmp 36) rfl HZI.out w.heap.size #[.int .i64 0, .int .i64 0, .int .i64 0, .int .i64 0, .int .u64 0, .int .u64 0, .int .i64 0, .int .i64 0, .int .i64 0, .int .u64 0, .int .i64 0, .int .i64 0, .int .i64 0, .int .i64 0, .string ⟨#[]⟩] (⟨1, stubS E, E⟩ : It).cells rfl rfl RZ6.out ?_ (hid rfl) (hid rfl) (hid (by simp [It.cells, Value.oneCell'])); intro w9 hr9 hg9))
    have hGL := HGL.out
    have hS := HS12.out
    refine bodyPost_ret (v := .agg (⟨1, stubS E, E⟩ : It).cells) (results_cell_row rfl _ _ w.heap.size 62 _ (0, 0) _ rfl (Row.arr hr9) Tryz.underlying62 rfl HZI.out) rfl ⟨rfl, RD6.out.other hg9 (by omega), grown_new (grown_trans (grown_of_below HB0.out _) G6.out) hg9 (Nat.le_refl _)⟩
  · rw [if_neg h1] at HIT
    have e1 : ((n : Int) == 1) = false := by simp; omega
    by_cases h2 : n = 2
    · rw [if_pos h2] at HIT
      have e2 : ((n : Int) == 2) = true := by simp [h2]
      have HM0 := hid (HNUM.out q 8 (.inr rfl) HQ0)
      have HK0 := numT_le b q 8 HQ0
      have hs0 : numsT b q 1 = ([(numT b q 8).1], (numT b q 8).2) := rfl
      generalize numT b q 8 = r0 at *
      obtain ⟨n0, y0⟩ := r0
      (try simp only at HK0)
      (try simp only at hs0)
      have HM1 := hid (HNUM.out y0 8 (.inr rfl) HK0)
      have HK1 := numT_le b y0 8 HK0
      have hs1 : numsT b q 2 = ((numsT b q 1).1 ++ [(numT b (numsT b q 1).2 8).1], (numT b (numsT b q 1).2 8).2) := rfl
      rw [hs0] at hs1
      simp only at hs1
      generalize numT b y0 8 = r1 at *
      obtain ⟨n1, y1⟩ := r1
      (try simp only at HK1)
      (try simp only at hs1)
      have HM2 := hid (HNUM.out y1 8 (.inr rfl) HK1)
      have HK2 := numT_le b y1 8 HK1
      have hs2 : numsT b q 3 = ((numsT b q 2).1 ++ [(numT b (numsT b q 2).2 8).1], (numT b (numsT b q 2).2 8).2) := rfl
      rw [hs1] at hs2
      simp only at hs2
      generalize numT b y1 8 = r2 at *
      obtain ⟨n2, y2⟩ := r2
      (try simp only at HK2)
      (try simp only at hs2)
      have HM3 := hid (HNUM.out y2 8 (.inr rfl) HK2)
      have HK3 := numT_le b y2 8 HK2
      have hs3 : numsT b q 4 = ((numsT b q 3).1 ++ [(numT b (numsT b q 3).2 8).1], (numT b (numsT b q 3).2 8).2) := rfl
      rw [hs2] at hs3
      simp only at hs3
      generalize numT b y2 8 = r3 at *
      obtain ⟨n3, y3⟩ := r3
      (try simp only at HK3)
      (try simp only at hs3)
      have HM4 := hid (HNUM.out y3 8 (.inr rfl) HK3)
      have HK4 := numT_le b y3 8 HK3
      have hs4 : numsT b q 5 = ((numsT b q 4).1 ++ [(numT b (numsT b q 4).2 8).1], (numT b (numsT b q 4).2 8).2) := rfl
      rw [hs3] at hs4
      simp only at hs4
      generalize numT b y3 8 = r4 at *
      obtain ⟨n4, y4⟩ := r4
      (try simp only at HK4)
      (try simp only at hs4)
      have HEQ := hid hs4
      rw [HIT.out, HEQ.out]
      have HE1 : Hid ((n : Int) = 2) := hid (by omega)
      clear h1 h2 HIT HNUM HNB HQ0 HENT HK0 HK1 HK2 HK3 HK4 hs0 hs1 hs2 hs3 hs4
      go_enter Tryz.func31, Tryz.ntmps31
      go_wp2_with (first
      | (go_at_call 29; refine (HM0.out _ RD2.out).mono ?_; rintro e w3 ⟨rfl, rd, hg⟩; have hne : some w1.heap.size ≠ some gr := (by intro e; have := Option.some.inj e; have := RD1.out.lt; omega); have RD3 := hid rd; have RI3 := hid (RI2.out.grown hg hne); have RZ3 := hid (RZ2.out.grown hg (by intro e; have := Option.some.inj e; have := HGL.out; omega)); have G3 := hid (grown_trans G2.out hg); clear rd hg hne)
      | (go_at_call 29; refine (HM1.out _ RD3.out).mono ?_; rintro e w4 ⟨rfl, rd, hg⟩; have hne : some w1.heap.size ≠ some gr := (by intro e; have := Option.some.inj e; have := RD1.out.lt; omega); have RD4 := hid rd; have RI4 := hid (RI3.out.grown hg hne); have RZ4 := hid (RZ3.out.grown hg (by intro e; have := Option.some.inj e; have := HGL.out; omega)); have G4 := hid (grown_trans G3.out hg); clear rd hg hne)
      | (go_at_call 29; refine (HM2.out _ RD4.out).mono ?_; rintro e w5 ⟨rfl, rd, hg⟩; have hne : some w1.heap.size ≠ some gr := (by intro e; have := Option.some.inj e; have := RD1.out.lt; omega); have RD5 := hid rd; have RI5 := hid (RI4.out.grown hg hne); have RZ5 := hid (RZ4.out.grown hg (by intro e; have := Option.some.inj e; have := HGL.out; omega)); have G5 := hid (grown_trans G4.out hg); clear rd hg hne)
      | (go_at_call 29; refine (HM3.out _ RD5.out).mono ?_; rintro e w6 ⟨rfl, rd, hg⟩; have hne : some w1.heap.size ≠ some gr := (by intro e; have := Option.some.inj e; have := RD1.out.lt; omega); have RD6 := hid rd; have RI6 := hid (RI5.out.grown hg hne); have RZ6 := hid (RZ5.out.grown hg (by intro e; have := Option.some.inj e; have := HGL.out; omega)); have G6 := hid (grown_trans G5.out hg); clear rd hg hne)
      | (go_at_call 29; refine (HM4.out _ RD6.out).mono ?_; rintro e w7 ⟨rfl, rd, hg⟩; have hne : some w1.heap.size ≠ some gr := (by intro e; have := Option.some.inj e; have := RD1.out.lt; omega); have RD7 := hid rd; have RI7 := hid (RI6.out.grown hg hne); have RZ7 := hid (RZ6.out.grown hg (by intro e; have := Option.some.inj e; have := HGL.out; omega)); have G7 := hid (grown_trans G6.out hg); clear rd hg hne)
      | (go_at_call 29; refine (HN0.out _ RD0.out).mono ?_; rintro e w1 ⟨rfl, rd1, hg1⟩; have RD1 := hid rd1; have G1 := hid hg1; have RZ1 := hid (RZ0.out.grown hg1 (by intro e; have := Option.some.inj e; have := HGL.out; omega)); clear rd1 hg1)
      | ((with_reducible show wpList _ _ _ ({ dst := none, op := .store _ (.tmp 3) _, type := _, pos := _, after := _, guard := _ } :: _) _ _); refine wpl_store_st rfl (.tmp 3) (.tmp 7) rfl HZI.out w1.heap.size #[.int .i64 0, .int .i64 0, .int .i64 0, .int .i64 0, .int .u64 0, .int .u64 0, .int .i64 0, .int .i64 0, .int .i64 0, .int .u64 0, .int .i64 0, .int .i64 0, .int .i64 0, .int .i64 0, .string ⟨#[]⟩] (⟨(n : Int), st0, en0⟩ : It).cells rfl rfl (Row.new _ _ _) ?_ (hid rfl) (hid rfl) (hid (by simp [It.cells, st0, en0, Value.oneCell'])); intro w2 hr2 hg2; have RI2 := hid hr2; have hb2 : Below w1.heap.size w1 w2 := ((Below.refl _ _).alloc (Nat.le_refl _) (.cells #[.int .i64 0, .int .i64 0, .int .i64 0, .int .i64 0, .int .u64 0, .int .u64 0, .int .i64 0, .int .i64 0, .int .i64 0, .int .u64 0, .int .i64 0, .int .i64 0, .int .i64 0, .int .i64 0, .string ⟨#[]⟩] 62)).trans (below_grown hg2 (Nat.le_refl _) (by simp)); have RD2 := hid (RD1.out.below hb2); have RZ2 := hid (RZ1.out.below hb2 RZ1.out.lt); have G2 := hid (grown_trans G1.out (grown_of_below hb2 _)); have HS12 := hid (show w.heap.size + 1 ≤ w1.heap.size by have := G1.out.size; simpa using this); have i0 : w2.cell? ⟨w1.heap.size, 0, none⟩ = some (.int .i64 (n : Int)) := hr2.cell 0; clear hb2 hr2 hg2)
      | ((with_reducible show wpList _ _ _ ({ dst := none, op := .store _ (.tmp 35) _, type := _, pos := _, after := _, guard := _ } :: _) _ _); refine wpl_store_at rfl (.tmp 35) (.tmp 34) rfl HZS.out w1.heap.size 1 _ (Array.toList (⟨sg n0, sg n1, sg n2, n3, n4⟩ : St).cells) rfl rfl RI7 ?_ (hid (by simp [It.cells, St.cells])) (hid rfl) (hid (by simp [St.cells, Value.oneCell'])); intro w8 RI8' hg8; have RI8 : Hid (Row w8 w1.heap.size 62 (Array.toList (⟨2, stOf [n0, n1, n2, n3, n4], en0⟩ : It).cells)) := (by rw [← HE1.out]; exact RI8'); have RD8 := hid (RD7.out.other hg8 (by have := RD1.out.lt; omega)); have RZ8 := hid (RZ7.out.grown hg8 (by intro e; have := Option.some.inj e; have := HS12.out; omega)); have G8 := hid (grown_new G7.out hg8 (by have := HS12.out; simp; omega)); clear RI8' hg8)
      | ((with_reducible show wpList _ _ _ ({ dst := some 36, op := _, type := _, pos := _, after := _, guard := _ } :: _) _ _); refine wpList_load_row rfl 62 (.tmp 3) rfl w1.heap.size rfl 62 (⟨2, stOf [n0, n1, n2, n3, n4], en0⟩ : It).cells (0, 0) _ (Row.arr RI8.out) Tryz.underlying62 rfl HZI.out ?_)
      | ((with_reducible show wpList _ _ _ ({ dst := none, op := .store _ (.tmp 2) _, type := _, pos := _, after := _, guard := _ } :: _) _ _); refine wpl_store_st rfl (.tmp 2) (.tmp 36) rfl HZI.out w.heap.size #[.int .i64 0, .int .i64 0, .int .i64 0, .int .i64 0, .int .u64 0, .int .u64 0, .int .i64 0, .int .i64 0, .int .i64 0, .int .u64 0, .int .i64 0, .int .i64 0, .int .i64 0, .int .i64 0, .string ⟨#[]⟩] (⟨2, stOf [n0, n1, n2, n3, n4], en0⟩ : It).cells rfl rfl RZ8.out ?_ (hid rfl) (hid rfl) (hid (by simp [It.cells, Value.oneCell'])); intro w9 hr9 hg9))
      have hGL := HGL.out
      have hS := HS12.out
      refine bodyPost_ret (v := .agg (⟨2, stOf [n0, n1, n2, n3, n4], en0⟩ : It).cells) (results_cell_row rfl _ _ w.heap.size 62 _ (0, 0) _ rfl (Row.arr hr9) Tryz.underlying62 rfl HZI.out) rfl ⟨rfl, RD8.out.other hg9 (by omega), grown_new (grown_trans (grown_of_below HB0.out _) G8.out) hg9 (Nat.le_refl _)⟩
    · rw [if_neg h2] at HIT
      have e2 : ((n : Int) == 2) = false := by simp; omega
      rw [HIT.out]
      clear h1 h2 HIT HNUM HNB HQ0 HENT
      go_enter Tryz.func31, Tryz.ntmps31
      go_wp2_with (first
      | (go_at_call 29; refine (HN0.out _ RD0.out).mono ?_; rintro e w1 ⟨rfl, rd1, hg1⟩; have RD1 := hid rd1; have G1 := hid hg1; have RZ1 := hid (RZ0.out.grown hg1 (by intro e; have := Option.some.inj e; have := HGL.out; omega)); clear rd1 hg1)
      | ((with_reducible show wpList _ _ _ ({ dst := none, op := .store _ (.tmp 3) _, type := _, pos := _, after := _, guard := _ } :: _) _ _); refine wpl_store_st rfl (.tmp 3) (.tmp 7) rfl HZI.out w1.heap.size #[.int .i64 0, .int .i64 0, .int .i64 0, .int .i64 0, .int .u64 0, .int .u64 0, .int .i64 0, .int .i64 0, .int .i64 0, .int .u64 0, .int .i64 0, .int .i64 0, .int .i64 0, .int .i64 0, .string ⟨#[]⟩] (⟨(n : Int), st0, en0⟩ : It).cells rfl rfl (Row.new _ _ _) ?_ (hid rfl) (hid rfl) (hid (by simp [It.cells, st0, en0, Value.oneCell'])); intro w2 hr2 hg2; have RI2 := hid hr2; have hb2 : Below w1.heap.size w1 w2 := ((Below.refl _ _).alloc (Nat.le_refl _) (.cells #[.int .i64 0, .int .i64 0, .int .i64 0, .int .i64 0, .int .u64 0, .int .u64 0, .int .i64 0, .int .i64 0, .int .i64 0, .int .u64 0, .int .i64 0, .int .i64 0, .int .i64 0, .int .i64 0, .string ⟨#[]⟩] 62)).trans (below_grown hg2 (Nat.le_refl _) (by simp)); have RD2 := hid (RD1.out.below hb2); have RZ2 := hid (RZ1.out.below hb2 RZ1.out.lt); have G2 := hid (grown_trans G1.out (grown_of_below hb2 _)); have HS12 := hid (show w.heap.size + 1 ≤ w1.heap.size by have := G1.out.size; simpa using this); have i0 : w2.cell? ⟨w1.heap.size, 0, none⟩ = some (.int .i64 (n : Int)) := hr2.cell 0; clear hb2 hr2 hg2)
      | ((with_reducible show wpList _ _ _ ({ dst := some 36, op := _, type := _, pos := _, after := _, guard := _ } :: _) _ _); refine wpList_load_row rfl 62 (.tmp 3) rfl w1.heap.size rfl 62 (⟨(n : Int), st0, en0⟩ : It).cells (0, 0) _ (Row.arr RI2.out) Tryz.underlying62 rfl HZI.out ?_)
      | ((with_reducible show wpList _ _ _ ({ dst := none, op := .store _ (.tmp 2) _, type := _, pos := _, after := _, guard := _ } :: _) _ _); refine wpl_store_st rfl (.tmp 2) (.tmp 36) rfl HZI.out w.heap.size #[.int .i64 0, .int .i64 0, .int .i64 0, .int .i64 0, .int .u64 0, .int .u64 0, .int .i64 0, .int .i64 0, .int .i64 0, .int .u64 0, .int .i64 0, .int .i64 0, .int .i64 0, .int .i64 0, .string ⟨#[]⟩] (⟨(n : Int), st0, en0⟩ : It).cells rfl rfl RZ2.out ?_ (hid rfl) (hid rfl) (hid (by simp [It.cells, Value.oneCell'])); intro w9 hr9 hg9))
      have hGL := HGL.out
      have hS := HS12.out
      refine bodyPost_ret (v := .agg (⟨(n : Int), st0, en0⟩ : It).cells) (results_cell_row rfl _ _ w.heap.size 62 _ (0, 0) _ rfl (Row.arr hr9) Tryz.underlying62 rfl HZI.out) rfl ⟨rfl, RD2.out.other hg9 (by omega), grown_new (grown_trans (grown_of_below HB0.out _) G2.out) hg9 (Nat.le_refl _)⟩
end Go.Proofs.YtcildaeiogdfdaaGreatDoor
/-
  The program's take: what it takes of, and into, in memory.
-/
namespace Go.Proofs.YtcildaeiogdfdaaGreatDoor
open Go.RowKit
set_option maxRecDepth 10000

theorem own_grownP {w w' : World} {B g : Nat} {e : TypeId} {size n : Nat} {v : Value} {xs : List Value} (h : w.ownsRow B e size v n xs) (hg : w.grownBy w' (some g)) (hlt : g < B) : w'.ownsRow B e size v n xs := by
  obtain ⟨h1, h2⟩ := h
  refine ⟨h1, ?_⟩
  rcases h2 with h2 | ⟨k, cap, cur, hv, hk, hh, r⟩
  · exact .inl h2
  · exact .inr ⟨k, cap, cur, hv, hk, by rw [hg.block k (Array.getElem?_eq_some_iff.1 hh).1 (by intro e; have := Option.some.inj e; omega)]; exact hh, r⟩
theorem grown_setP (w : World) (g i : Nat) (u : Value) : w.grownBy (w.setCell ⟨g, i, none⟩ u) (some g) :=
  ⟨rfl, rfl, rfl, by simp, fun k _ hk => heap_setCell_other w ⟨g, i, none⟩ k u (fun e => hk (by rw [e]))⟩
abbrev EnL (l : List En) : List Value := rws (fun e : En => e.cells.toList) l
abbrev ItL (l : List It) : List Value := rws (fun e : It => e.cells.toList) l
/-- a message's row and its lists, which lie behind it -/
structure Mrow (gm D : Nat) (m : Ms) (pl : Pl) (W : World) : Prop where
  row : Row W gm 32 (m.cells pl).toList
  oa : W.ownsRow D 28 9 (.slice pl.A m.es.length pl.cA) m.es.length (EnL m.es)
  ob : W.ownsRow D 62 15 (.slice pl.B m.xs.length pl.cB) m.xs.length (ItL m.xs)
/-- the reader, the message that is read, and what was there -/
structure RP (w0 : World) (gr gm D : Nat) (K : Nat → Option Obj) (A : Option Addr) (c : Nat) (b : List UInt8) (m : Ms) (pl : Pl) (p : Nat) (W : World) : Prop where
  rd : Rdr gr A c b p W
  mr : Mrow gm D m pl W
  below : Below w0.heap.size w0 W
  size : D ≤ W.heap.size
  keep : ∀ k, gm < k → k < D → W.heap[k]? = K k
/-- what does not turn -/
structure RS (w0 : World) (gr gm D : Nat) (c : Nat) (b : List UInt8) : Prop where
  lt : gr < gm
  ltD : gm < D
  base : w0.heap.size ≤ gr
  fd : Fd w0
  len : b.length ≤ 100000
  cap : b.length ≤ c
section
variable {w0 : World} {gr gm D : Nat} {K : Nat → Option Obj} {A : Option Addr} {c : Nat} {b : List UInt8} {m m' : Ms} {pl pl' : Pl} {p p' : Nat} {W W' : World}
theorem RP.fdw (h : RP w0 gr gm D K A c b m pl p W) (hs : RS w0 gr gm D c b) : Fd W := hs.fd.below h.below hs.fd.1
theorem RP.drew (h : RP w0 gr gm D K A c b m pl p W) : RP w0 gr gm D K A c b m pl p W.drew := ⟨⟨h.rd.row.drew, h.rd.bytes⟩, ⟨h.mr.row.drew, h.mr.oa, h.mr.ob⟩, h.below.drew, h.size, h.keep⟩
theorem Mrow.grown {g : Nat} (h : Mrow gm D m pl W) (hg : W.grownBy W' (some g)) (hlt : g < gm) (hD : gm < D) : Mrow gm D m pl W' :=
  ⟨h.row.grown hg (by intro e; have := Option.some.inj e; omega), own_grownP h.oa hg (by omega), own_grownP h.ob hg (by omega)⟩
theorem Mrow.below (h : Mrow gm D m pl W) (hb : Below W.heap.size W W') : Mrow gm D m pl W' := ⟨h.row.below hb h.row.lt, own_belowM h.oa hb, own_belowM h.ob hb⟩
/-- the reader has gone on -/
theorem RP.call (h : RP w0 gr gm D K A c b m pl p W) (hs : RS w0 gr gm D c b) (hr : Rdr gr A c b p' W') (hg : W.grownBy W' (some gr)) : RP w0 gr gm D K A c b m pl p' W' :=
  ⟨hr, h.mr.grown hg hs.lt hs.ltD, h.below.trans (below_grown hg hs.base h.below.size), Nat.le_trans h.size hg.size, fun k h1 h2 => (hg.block k (Nat.lt_of_lt_of_le h2 h.size) (by intro e; have := Option.some.inj e; have := hs.lt; omega)).trans (h.keep k h1 h2)⟩
/-- new memory -/
theorem RP.more (h : RP w0 gr gm D K A c b m pl p W) (hb : Below W.heap.size W W') : RP w0 gr gm D K A c b m pl p W' := ⟨h.rd.below hb, h.mr.below hb, h.below.trans (hb.mono h.below.size), Nat.le_trans h.size hb.size, fun k h1 h2 => (hb.block k (Nat.lt_of_lt_of_le h2 h.size)).trans (h.keep k h1 h2)⟩
/-- the message's row is another one -/
theorem RP.put (h : RP w0 gr gm D K A c b m pl p W) (hs : RS w0 gr gm D c b) (hg : W.grownBy W' (some gm)) (hr : Row W' gm 32 (m'.cells pl).toList) (he : m'.es = m.es) (hx : m'.xs = m.xs) : RP w0 gr gm D K A c b m' pl p W' :=
  ⟨h.rd.other hg hs.lt, ⟨hr, by rw [he]; exact own_grownP h.mr.oa hg hs.ltD, by rw [hx]; exact own_grownP h.mr.ob hg hs.ltD⟩, h.below.trans (below_grown hg (by have := hs.base; have := hs.lt; omega) h.below.size), Nat.le_trans h.size hg.size, fun k h1 h2 => (hg.block k (Nat.lt_of_lt_of_le h2 h.size) (by intro e; have := Option.some.inj e; omega)).trans (h.keep k h1 h2)⟩
end
theorem cells_sum (m : Ms) (pl : Pl) (hl : m.sums.length = 6) (k : Nat) (hk : k < 6) (v : Nat) : (m.cells pl).toList.set (15 + k) (.int .u64 (v : Int)) = (({ m with sums := m.sums.set k v } : Ms).cells pl).toList := by
  obtain ⟨kind, frm, view, lv, opn, commit, client, session, request, oper, index, size, check, sums, entry, es, xs, body⟩ := m
  obtain ⟨a0, a1, a2, a3, a4, a5, rfl⟩ := list6 sums hl
  match k, hk with
  | 0, _ => rfl
  | 1, _ => rfl
  | 2, _ => rfl
  | 3, _ => rfl
  | 4, _ => rfl
  | 5, _ => rfl
theorem set_part {α : Type} (l d : List α) (x : α) (k : Nat) (hk : l.length = k) (h : k < d.length) : (l ++ d.drop k).set k x = (l ++ [x]) ++ d.drop (k + 1) := by
  subst hk
  rw [List.set_append_right _ _ (Nat.le_refl _), Nat.sub_self, ← List.getElem_cons_drop h, List.set_cons_zero, List.append_assoc]
  rfl
def sumsK (b : List UInt8) (m : Ms) (p k : Nat) : Ms := { m with sums := (numsT b p k).1 ++ m.sums.drop k }
theorem sumsK_len (b : List UInt8) (m : Ms) (p k : Nat) (hl : m.sums.length = 6) (hk : k ≤ 6) : (sumsK b m p k).sums.length = 6 := by
  show ((numsT b p k).1 ++ m.sums.drop k).length = 6
  rw [List.length_append, numsT_len, List.length_drop, hl]
  omega
theorem sumsK_set (b : List UInt8) (m : Ms) (p k : Nat) (hl : m.sums.length = 6) (hk : k < 6) : ({ sumsK b m p k with sums := (sumsK b m p k).sums.set k (numT b (numsT b p k).2 8).1 } : Ms) = sumsK b m p (k + 1) := by
  unfold sumsK
  simp only [Ms.mk.injEq, true_and, and_true]
  show ((numsT b p k).1 ++ m.sums.drop k).set k _ = (numsT b p (k + 1)).1 ++ m.sums.drop (k + 1)
  rw [set_part _ _ _ k (numsT_len _ _ _) (by omega)]
  rfl
end Go.Proofs.YtcildaeiogdfdaaGreatDoor
/-
  The program's take: numbers, an entry, a body.
-/
namespace Go.Proofs.YtcildaeiogdfdaaGreatDoor
open Go.RowKit
set_option maxRecDepth 10000

set_option maxHeartbeats 1000000 in
theorem take_67 {w0 : World} {gr gm D : Nat} {K : Nat → Option Obj} {A : Option Addr} {c : Nat} {b : List UInt8} (m : Ms) (pl : Pl) (p : Nat) (w : World) (hs : RS w0 gr gm D c b) (h : RP w0 gr gm D K A c b m pl p w) (hp : p ≤ b.length) :
    Calls Tryz.prog 12 #[.pointer (some ⟨gr, 0, none⟩), .pointer (some ⟨gm, 0, none⟩), .int .i32 67] w fun e w' => e = .returned (.tuple #[]) ∧ RP w0 gr gm D K A c b (stepT b (m, p) 67).1 pl (stepT b (m, p) 67).2 w' := by
  have HS := hid hs
  have HNUM : Hid (∀ (q : Nat), q ≤ b.length → ∀ W, Rdr gr A c b q W → Calls Tryz.prog 29 #[.pointer (some ⟨gr, 0, none⟩), .int .i64 8] W (RN gr A c b W (numT b q 8))) := hid fun q hq W hW => rnum_any gr A c b q 8 (.inr rfl) W hW hs.len hs.cap hq
  have hs0 : numsT b p 1 = ([(numT b p 8).1], (numT b p 8).2) := rfl
  have HM0 := hid (HNUM.out p hp)
  have HK0 := numT_le b p 8 hp
  generalize numT b p 8 = r0 at *
  obtain ⟨n0, y0⟩ := r0
  (try simp only at HK0)
  (try simp only at hs0)
  have HM1 := hid (HNUM.out y0 HK0)
  have HK1 := numT_le b y0 8 HK0
  have hs1 : numsT b p 2 = ((numsT b p 1).1 ++ [(numT b (numsT b p 1).2 8).1], (numT b (numsT b p 1).2 8).2) := rfl
  rw [hs0] at hs1
  simp only at hs1
  generalize numT b y0 8 = r1 at *
  obtain ⟨n1, y1⟩ := r1
  (try simp only at HK1)
  (try simp only at hs1)
  have HM2 := hid (HNUM.out y1 HK1)
  have HK2 := numT_le b y1 8 HK1
  have hs2 : numsT b p 3 = ((numsT b p 2).1 ++ [(numT b (numsT b p 2).2 8).1], (numT b (numsT b p 2).2 8).2) := rfl
  rw [hs1] at hs2
  simp only at hs2
  generalize numT b y1 8 = r2 at *
  obtain ⟨n2, y2⟩ := r2
  (try simp only at HK2)
  (try simp only at hs2)
  have HEQ := hid hs2
  show Calls _ _ _ _ fun e w' => e = _ ∧ RP w0 gr gm D K A c b { m with check := mkOf (numsT b p 3).1 } pl (numsT b p 3).2 w'
  rw [HEQ.out]
  have H0 := hid h
  clear h hs0 hs1 hs2 HK0 HK1 HK2 hp HNUM hs
  go_enter Tryz.func12, Tryz.ntmps12
  go_wp2_with (first
    | (go_at_call 29; refine (HM2.out _ H2.out.rd).mono ?_; rintro e w3 ⟨rfl, rd, hg⟩; have H3 := hid (H2.out.call HS.out rd hg); have R3 := hid H3.out.mr.row; clear rd hg)
    | (go_at_call 29; refine (HM1.out _ H1.out.rd).mono ?_; rintro e w2 ⟨rfl, rd, hg⟩; have H2 := hid (H1.out.call HS.out rd hg); clear rd hg)
    | (go_at_call 29; refine (HM0.out _ H0.out.rd).mono ?_; rintro e w1 ⟨rfl, rd, hg⟩; have H1 := hid (H0.out.call HS.out rd hg); clear rd hg)
    | ((with_reducible show wpList _ _ _ ({ dst := none, op := .store _ (.tmp 21) _, type := _, pos := _, after := _, guard := _ } :: _) _ _); refine wpl_store_at rfl (.tmp 21) (.tmp 19) rfl msize gm 12 _ (Array.toList (mkOf [n0, n1, n2]).cells) rfl rfl R3 ?_ (hid (by simp [Ms.cells, Mk.cells])) (hid rfl) (hid (by simp [Mk.cells, Value.oneCell'])); intro w4 R4 hg4))
  go_end0
  exact ⟨rfl, H3.out.put HS.out hg4 R4.out rfl rfl⟩
set_option maxHeartbeats 1000000 in
theorem take_69 {w0 : World} {gr gm D : Nat} {K : Nat → Option Obj} {A : Option Addr} {c : Nat} {b : List UInt8} (m : Ms) (pl : Pl) (p : Nat) (w : World) (hs : RS w0 gr gm D c b) (h : RP w0 gr gm D K A c b m pl p w) (_hp : p ≤ b.length) :
    Calls Tryz.prog 12 #[.pointer (some ⟨gr, 0, none⟩), .pointer (some ⟨gm, 0, none⟩), .int .i32 69] w fun e w' => e = .returned (.tuple #[]) ∧ RP w0 gr gm D K A c b (stepT b (m, p) 69).1 pl (stepT b (m, p) 69).2 w' := by
  have HS := hid hs
  have HEN : Hid (∀ W, RP w0 gr gm D K A c b m pl p W → Calls Tryz.prog 30 #[.pointer (some ⟨gr, 0, none⟩)] W (RE gr A c b W (entT b p))) := hid fun W hW => rent_any gr A c b p W hW.rd hs.len hs.cap (hW.fdw hs) (Nat.le_trans hs.fd.1 hs.base)
  have HZE := hid esize
  have H0 := hid h
  show Calls _ _ _ _ fun e w' => e = _ ∧ RP w0 gr gm D K A c b { m with entry := (entT b p).1 } pl (entT b p).2 w'
  generalize entT b p = r at *
  obtain ⟨E, q⟩ := r
  clear h hs _hp
  go_enter Tryz.func12, Tryz.ntmps12
  go_wp2_with (first
    | (go_at_call 30; refine (HEN.out _ H0.out).mono ?_; rintro e w1 ⟨rfl, rd, hg⟩; have H1 := hid (H0.out.call HS.out rd hg); have R1 := hid H1.out.mr.row; clear rd hg)
    | ((with_reducible show wpList _ _ _ ({ dst := none, op := .store _ (.tmp 41) _, type := _, pos := _, after := _, guard := _ } :: _) _ _); refine wpl_store_at rfl (.tmp 41) (.tmp 39) rfl HZE.out gm 21 _ (Array.toList E.cells) rfl rfl R1 ?_ (hid (by simp [Ms.cells, En.cells])) (hid rfl) (hid (by simp [En.cells, Value.oneCell'])); intro w4 R4 hg4))
  go_end0
  exact ⟨rfl, H1.out.put HS.out hg4 R4.out rfl rfl⟩
set_option maxHeartbeats 1000000 in
theorem take_83 {w0 : World} {gr gm D : Nat} {K : Nat → Option Obj} {A : Option Addr} {c : Nat} {b : List UInt8} (m : Ms) (pl : Pl) (p : Nat) (w : World) (hs : RS w0 gr gm D c b) (h : RP w0 gr gm D K A c b m pl p w) (hp : p ≤ b.length) (hl : m.sums.length = 6) :
    Calls Tryz.prog 12 #[.pointer (some ⟨gr, 0, none⟩), .pointer (some ⟨gm, 0, none⟩), .int .i32 83] w fun e w' => e = .returned (.tuple #[]) ∧ RP w0 gr gm D K A c b (stepT b (m, p) 83).1 pl (stepT b (m, p) 83).2 w' := by
  have HS := hid hs
  have HNUM : Hid (∀ (q : Nat), q ≤ b.length → ∀ W, Rdr gr A c b q W → Calls Tryz.prog 29 #[.pointer (some ⟨gr, 0, none⟩), .int .i64 8] W (RN gr A c b W (numT b q 8))) := hid fun q hq W hW => rnum_any gr A c b q 8 (.inr rfl) W hW hs.len hs.cap hq
  have H0 : Hid (RP w0 gr gm D K A c b (sumsK b m p 0) pl p w) := hid (by
    have e : sumsK b m p 0 = m := rfl
    rw [e]
    exact h)
  have HL := hid hl
  have HP := hid hp
  clear h hp hl hs
  go_enter Tryz.func12, Tryz.ntmps12
  go_wp2_with fail
  go_loopw [24] (fun i wr => ∃ k : Nat, k ≤ 6 ∧ i = .int .i64 (k : Int) ∧ Hid (RP w0 gr gm D K A c b (sumsK b m p k) pl (numsT b p k).2 wr)) (fun i _ => 6 - (intOf i).toNat)
  case atStart => exact ⟨0, by omega, rfl, H0⟩
  case round =>
    clear H0
    obtain ⟨k, hk, rfl, H0⟩ := hrel
    by_cases hlt : k < 6
    · have hi : (k : Int) < 6 := by omega
      have hi0 : (0 : Int) ≤ (k : Int) := by omega
      have HM := hid (HNUM.out (numsT b p k).2 (numsT_le b p HP.out k))
      have HD := hid H0.out.drew
      have HST := hid (sumsK_set b m p k HL.out hlt)
      have HNX : Hid ((numsT b p (k + 1)).2 = (numT b (numsT b p k).2 8).2) := hid rfl
      have HCL := hid (fun v : Nat => cells_sum (sumsK b m p k) pl (sumsK_len b m p k HL.out (by omega)) k hlt v)
      have hcg : Hid (∃ u, (((sumsK b m p k).cells pl).toList)[15 + k]? = some u) := hid ⟨_, List.getElem?_eq_getElem (by simp [Ms.cells]; omega)⟩
      obtain ⟨u, hu⟩ := hcg.out
      have hcg := hid hu
      clear hu
      generalize numT b (numsT b p k).2 8 = r at *
      obtain ⟨N, q⟩ := r
      simp only at HST HNX
      go_wp2_with fail
      refine wp_region_held_drew (S := (fun _ => True)) (by kernel_rfl) (trivial) (fun hH => ?_)
      refine tk_ (i := 0) (v := .pointer (some ⟨gm, 0, none⟩)) rfl (Or.inl ⟨by rfl, fun w' hw' => by clear hw'; go_simp⟩) hH ?_
      simp only [Act.put, la1, la3, la4, la5, la6]
      refine tk_ (i := 1) (v := .int .i64 (k : Int)) rfl (Or.inl ⟨by rfl, fun w' hw' => by clear hw'; go_simp⟩) hH ?_
      simp only [Act.put, la1, la2, la3, la4, la5, la6]
      refine tk_ (i := 2) (v := .pointer (some ⟨gr, 0, none⟩)) rfl (Or.inl ⟨by rfl, fun w' hw' => by clear hw'; go_simp⟩) hH ?_
      simp only [Act.put, la1, la2, la3, la4, la5, la6]
      refine tk_ (i := 4) (v := .pointer (some ⟨gm, 0, none⟩)) rfl (Or.inl ⟨by rfl, fun w' hw' => by clear hw'; go_simp⟩) hH ?_
      simp only [Act.put, la1, la2, la3, la4, la5, la6]
      refine tk_ (i := 5) (v := .pointer (some ⟨gm, 15, none⟩)) rfl (Or.inl ⟨by rfl, fun w' hw' => by clear hw'; go_simp⟩) hH ?_
      simp only [Act.put, la1, la2, la3, la4, la5, la6]
      refine rd1 (i := 3) (by kernel_rfl) rfl (fun K hK => ?_)
      go_simp
      go_at_call 29
      refine (HM.out _ HD.out.rd).mono ?_
      rintro e w1 ⟨rfl, rd, hg⟩
      go_wp2_with fail
      have H1 := hid (HD.out.call HS.out rd hg)
      clear rd hg
      refine hK.out _ _ (trivial) (fun hH => ?_)
      clear hK K
      try simp only [Act.put, la1, la2, la3, la4, la5, la6]
      refine tk_ (i := 6) (v := .pointer (some ⟨gm, 15 + k, none⟩)) rfl (Or.inl ⟨by rfl, fun w' hw' => by clear hw'; go_simp⟩) hH ?_
      simp only [Act.put, la1, la2, la3, la4, la5, la6]
      have hce := H1.out.mr.row.cell (15 + k)
      rw [hcg.out] at hce
      have hfz := H1.out.mr.row.frozen (15 + k)
      refine rd1 (i := 7) (by kernel_rfl) rfl (fun K hK => ?_)
      go_simp
      refine hK.out _ _ (trivial) (fun hH => ?_)
      clear hK K
      try simp only [Act.put, la1, la2, la3, la4, la5, la6]
      refine wpAnyH_done (by kernel_rfl) ?_ _
      try simp only [Act.put, la1, la2, la3, la4, la5, la6]
      have H2 : Hid (RP w0 gr gm D K A c b (sumsK b m p (k + 1)) pl q (w1.setCell ⟨gm, 15 + k, none⟩ (.int .u64 (N : Int)))) := hid (by
        rw [← HST.out]
        refine H1.out.put HS.out (grown_setP _ _ _ _) ?_ rfl rfl
        have := H1.out.mr.row.set_ (15 + k) (.int .u64 (N : Int))
        rwa [HCL.out N] at this)
      clear hce hfz
      go_wp2_with fail
      go_roundw
      case rel => exact ⟨k + 1, by omega, by go_num, hid (by rw [HNX.out]; exact H2.out)⟩
      case measure => simp [intOf]; omega
    · obtain rfl : k = 6 := by omega
      go_wp2_with fail
      go_end0
      refine ⟨rfl, ?_⟩
      show RP w0 gr gm D K A c b { m with sums := (numsT b p 6).1 } pl (numsT b p 6).2 _
      have e : sumsK b m p 6 = { m with sums := (numsT b p 6).1 } := by
        unfold sumsK
        rw [List.drop_of_length_le (by rw [HL.out]; omega), List.append_nil]
      rw [← e]
      exact H0.out
theorem yields_strQ {P : Program} {ops : Array Oper} {S : World → Prop} {o : Oper} {a : Act} (hw : Region.wanted o (yielded ops a.tmps) = true) (x : Operand) (src dst : TypeId)
    (ho : o.op = .convert src dst x) (e : TypeId) (hs : P.underlying src = some (.slice e)) (he : P.underlying e = some (.int .u8)) (hd : P.underlying dst = some .string)
    (A : Option Addr) (l c : Nat) (hx : a.eval x = .slice A l c) (B : Nat) (bs : List UInt8) (hr : ∀ w, S w → Rd w B A (bvs bs)) (hl : l = bs.length) : YieldsIf P ops S o (.string ⟨bs.toArray⟩) a :=
  .inl ⟨hw, fun w hw' => by
    unfold execOp
    simp only [ho, Sem.run_bind, Sem.run_pure, Result.andThen_ok, hx, run_str w src e hs he dst hd B A bs l c hl (hr w hw')]⟩
theorem run_tail (W : World) (ga n c p : Nat) (hp : p ≤ n) : (Instr.sliceAt 47 (.slice (some ⟨ga, 0, none⟩) n c) (some (.int .i64 (p : Int))) none none).run Tryz.prog W = .ok (.slice (if c = p then some ⟨ga, 0, none⟩ else some ⟨ga, p, none⟩) (n - p) (c - p)) W := by
  have h0 : (0 : Int) ≤ (p : Int) := by omega
  have h1 : (p : Int) ≤ (n : Int) := by omega
  rw [run_sliceAt_slice W _ _ _ _ _ (by kernel_rfl), run_slice_l W _ _ _ _ (by kernel_rfl) .i64 (p : Int) h0 h1]
  simp [sliced, go_sem]
theorem rdr_drop {gr ga c : Nat} {b : List UInt8} {p : Nat} {W : World} (h : Rdr gr (some ⟨ga, 0, none⟩) c b p W) (hc : b.length ≤ c) : Rd W gr (if c = p then some ⟨ga, 0, none⟩ else some ⟨ga, p, none⟩) (bvs (b.drop p)) := by
  by_cases hp : b.length ≤ p
  · rw [List.drop_of_length_le hp]
    exact Rd.nil
  · rw [if_neg (by omega)]
    obtain ⟨g, o, e, hg, hx⟩ := h.bytes (by intro e; have := bvs_len b; rw [e] at this; simp at this; omega)
    cases e
    intro _
    refine ⟨ga, p, rfl, hg, fun j u hu => ?_⟩
    have := hx (p + j) u (by rw [← hu]; simp [bvs])
    rwa [Nat.zero_add] at this
set_option maxHeartbeats 1000000 in
theorem take_66 {w0 : World} {gr gm D : Nat} {K : Nat → Option Obj} {A : Option Addr} {c : Nat} {b : List UInt8} (m : Ms) (pl : Pl) (p : Nat) (w : World) (hs : RS w0 gr gm D c b) (h : RP w0 gr gm D K A c b m pl p w) (hp : p ≤ b.length) (ga : Nat) (hA : A = some ⟨ga, 0, none⟩) :
    Calls Tryz.prog 12 #[.pointer (some ⟨gr, 0, none⟩), .pointer (some ⟨gm, 0, none⟩), .int .i32 66] w fun e w' => e = .returned (.tuple #[]) ∧ RP w0 gr gm D K A c b (stepT b (m, p) 66).1 pl (stepT b (m, p) 66).2 w' := by
  subst hA
  have HS := hid hs
  have HD := hid h.drew
  have C0 : Hid (∀ W, Rdr gr (some ⟨ga, 0, none⟩) c b p W → W.cell? ⟨gr, 0, none⟩ = some (.slice (some ⟨ga, 0, none⟩) b.length c)) := hid fun W h => h.row.cell 0
  have C1 : Hid (∀ W, Rdr gr (some ⟨ga, 0, none⟩) c b p W → W.cell? ⟨gr, 1, none⟩ = some (.int .i64 (p : Int))) := hid fun W h => h.row.cell 1
  have hsl := fun W : World => run_tail W ga b.length c p hp
  have hrr := fun (W : World) (hW : Rdr gr (some ⟨ga, 0, none⟩) c b p W) => rdr_drop hW hs.cap
  generalize (if c = p then (some ⟨ga, 0, none⟩ : Option Addr) else some ⟨ga, p, none⟩) = A2 at hsl hrr
  have HSL := hid hsl
  have HRR := hid hrr
  have H0 := hid h
  clear h hs hsl hrr
  go_enter Tryz.func12, Tryz.ntmps12
  go_wp2_with fail
  refine wp_region_held_drew (S := (fun W => Rdr gr (some ⟨ga, 0, none⟩) c b p W)) (by kernel_rfl) (HD.out.rd) (fun hH => ?_)
  refine tk_ (i := 0) (v := .pointer (some ⟨gm, 0, none⟩)) rfl (Or.inl ⟨by rfl, fun w' hw' => by clear hw'; go_simp⟩) hH ?_
  simp only [Act.put, la1, la3, la4, la5, la6]
  refine tk_ (i := 1) (v := .pointer (some ⟨gr, 0, none⟩)) rfl (Or.inl ⟨by rfl, fun w' hw' => by clear hw'; go_simp⟩) hH ?_
  simp only [Act.put, la1, la2, la3, la4, la5, la6]
  refine tk_ (i := 2) (v := .pointer (some ⟨gr, 0, none⟩)) rfl (Or.inl ⟨by rfl, fun w' hw' => by clear hw'; go_simp⟩) hH ?_
  simp only [Act.put, la1, la2, la3, la4, la5, la6]
  refine tk_ (i := 3) (v := .pointer (some ⟨gr, 0, none⟩)) rfl (Or.inl ⟨by rfl, fun w' hw' => by clear hw'; go_simp⟩) hH ?_
  simp only [Act.put, la1, la2, la3, la4, la5, la6]
  refine tk_ (i := 4) (v := .slice (some ⟨ga, 0, none⟩) b.length c) rfl (Or.inl ⟨by rfl, fun w' hw' => by have h := C0.out w' hw'; go_simp⟩) hH ?_
  simp only [Act.put, la1, la2, la3, la4, la5, la6]
  refine tk_ (i := 5) (v := .pointer (some ⟨gr, 0, none⟩)) rfl (Or.inl ⟨by rfl, fun w' hw' => by clear hw'; go_simp⟩) hH ?_
  simp only [Act.put, la1, la2, la3, la4, la5, la6]
  refine tk_ (i := 6) (v := .pointer (some ⟨gr, 0, none⟩)) rfl (Or.inl ⟨by rfl, fun w' hw' => by clear hw'; go_simp⟩) hH ?_
  simp only [Act.put, la1, la2, la3, la4, la5, la6]
  refine tk_ (i := 7) (v := .pointer (some ⟨gr, 1, none⟩)) rfl (Or.inl ⟨by rfl, fun w' hw' => by clear hw'; go_simp⟩) hH ?_
  simp only [Act.put, la1, la2, la3, la4, la5, la6]
  refine tk_ (i := 8) (v := .int .i64 (p : Int)) rfl (Or.inl ⟨by rfl, fun w' hw' => by have h := C1.out w' hw'; go_simp⟩) hH ?_
  simp only [Act.put, la1, la2, la3, la4, la5, la6]
  refine tk_ (i := 9) (v := .slice A2 (b.length - p) (c - p)) rfl (Or.inl ⟨by rfl, fun w' hw' => by have h := HSL.out w'; go_simp⟩) hH ?_
  simp only [Act.put, la1, la2, la3, la4, la5, la6]
  refine tk_ (i := 10) (v := .string ⟨(b.drop p).toArray⟩) rfl (yields_strQ (by kernel_rfl) (.tmp 87) 47 9 rfl 5 Tryz.underlying47 Tryz.underlying5 Tryz.underlying9 A2 (b.length - p) (c - p) (by kernel_rfl) gr (b.drop p) (fun W hW => HRR.out W hW) (by simp)) hH ?_
  simp only [Act.put, la1, la2, la3, la4, la5, la6]
  refine tk_ (i := 11) (v := .pointer (some ⟨gm, 0, none⟩)) rfl (Or.inl ⟨by rfl, fun w' hw' => by clear hw'; go_simp⟩) hH ?_
  simp only [Act.put, la1, la2, la3, la4, la5, la6]
  refine tk_ (i := 12) (v := .pointer (some ⟨gm, 32, none⟩)) rfl (Or.inl ⟨by rfl, fun w' hw' => by clear hw'; go_simp⟩) hH ?_
  simp only [Act.put, la1, la2, la3, la4, la5, la6]
  have hce : World.cell? _ ⟨gm, 32, none⟩ = some (.string m.body) := HD.out.mr.row.cell 32
  have hfz := HD.out.mr.row.frozen 32
  refine rd1 (i := 13) (by kernel_rfl) rfl (fun K hK => ?_)
  go_simp
  refine hK.out _ _ (hH.other (grown_setP _ _ _ _) HS.out.lt) (fun hH => ?_)
  clear hK K
  try simp only [Act.put, la1, la2, la3, la4, la5, la6]
  refine wpAnyH_done (by kernel_rfl) ?_ _
  try simp only [Act.put, la1, la2, la3, la4, la5, la6]
  go_wp2_with fail
  go_end0
  refine ⟨rfl, ?_⟩
  have := H0.out.put (m' := { m with body := ⟨(b.drop p).toArray⟩ }) HS.out (grown_setP _ gm 32 (.string ⟨(b.drop p).toArray⟩)) (H0.out.mr.row.set_ 32 _) rfl rfl
  exact this.drew
set_option maxHeartbeats 1000000 in
theorem take_none {w0 : World} {gr gm D : Nat} {K : Nat → Option Obj} {A : Option Addr} {c : Nat} {b : List UInt8} (m : Ms) (pl : Pl) (p : Nat) (w : World) (_hs : RS w0 gr gm D c b) (h : RP w0 gr gm D K A c b m pl p w) (_hp : p ≤ b.length) (s : Nat) (hn : s ∈ sgN) :
    Calls Tryz.prog 12 #[.pointer (some ⟨gr, 0, none⟩), .pointer (some ⟨gm, 0, none⟩), .int .i32 (s : Int)] w fun e w' => e = .returned (.tuple #[]) ∧ RP w0 gr gm D K A c b (stepT b (m, p) s).1 pl (stepT b (m, p) s).2 w' := by
  have H0 := hid h
  rw [step_no b (m, p) s (by
    simp only [sgN, List.mem_cons, List.not_mem_nil, or_false] at hn
    simp only [sgB, List.mem_cons, List.not_mem_nil, or_false]
    omega)]
  clear h _hs _hp
  simp only [sgN, List.mem_cons, List.not_mem_nil, or_false] at hn
  rcases hn with rfl | rfl | rfl | rfl | rfl | rfl | rfl | rfl | rfl | rfl
  all_goals
    go_enter Tryz.func12, Tryz.ntmps12
    go_wp2_with fail
    go_end0
    exact ⟨rfl, H0.out⟩
end Go.Proofs.YtcildaeiogdfdaaGreatDoor
