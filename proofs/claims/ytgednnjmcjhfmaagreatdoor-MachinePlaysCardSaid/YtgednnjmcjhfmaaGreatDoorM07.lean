/-
  The walks of package event's layAsked, and of what a list's elements are laid by.
-/
import Derived.Test.YtgednnjmcjhfmaaGreatDoorM06
import Derived.Test.YtgednnjmcjhfmaaGreatDoorM02
import Derived.Deep.RegionHeld
import Derived.Deep.MidRow
namespace Go.Proofs.YtgednnjmcjhfmaaGreatDoor
open Go.RowKit
set_option maxRecDepth 10000
set_option maxHeartbeats 80000000
/-- a text and an error's number -/
def SN (w : World) (r : List UInt8 × Int) (e : Ending) (w' : World) : Prop := e = .returned (.tuple #[.string ⟨r.1.toArray⟩, .int .i64 r.2]) ∧ Below w.heap.size w w'
/-- what was there at the region's beginning is as it was -/
def Kp (W w : World) : Prop := Below W.heap.size W w
theorem Kp.refl (W : World) : Kp W W := Below.refl _ _
theorem Kp.drew {W w : World} (h : Kp W w) : Kp W w.drew := Below.drew h
theorem Kp.alloc {W w : World} (h : Kp W w) (o : Obj) : Kp W (w.alloc o) := Below.alloc h (Below.size h) o
theorem Kp.call {W w w' : World} (hb : Below w.heap.size w w') (h : Kp W w) : Kp W w' := Below.trans h (hb.mono (Below.size h))
def askS (x : Ac) : List UInt8 × Int := if 0 ≤ x.flags ∧ x.flags ≤ 255 then (le x.id 8 ++ [UInt8.ofNat x.flags.toNat], 0) else ([], 1)
theorem put_flag (m : Nat) (h : m ≤ 255) (W : World) : Calls Tryz.prog 69 #[.slice none 0 0, .int .u64 (m : Int), .int .i64 1] W
  fun e w' => ∃ A c, e = .returned (.tuple #[.slice A 1 c, .int .i64 0]) ∧ Rd w' w'.heap.size A (bvs [UInt8.ofNat m]) ∧ Below W.heap.size W w' := by
 have h2 := put_any none [] 0 0 m 0 1 W Rd.nil rfl (Nat.zero_le _) (by omega)
 have e : putS [] m 1 = ([UInt8.ofNat m], 0) := by
  unfold putS
  rw [if_pos ⟨by omega, by omega, Nat.div_eq_of_lt (by simpa using Nat.lt_succ_of_le h)⟩]
  rfl
 rw [e] at h2
 refine h2.mono fun e w' hh => ?_
 obtain ⟨A', c', e1, ho, hb⟩ := BE.len hh (n := 1) rfl
 obtain ⟨A2, c2, e2, _, _, hrd⟩ := own_shape ho
 cases e2
 exact ⟨A', c', e1, hrd, hb⟩
theorem put_noflag (m : Nat) (h : 255 < m) (W : World) : Calls Tryz.prog 69 #[.slice none 0 0, .int .u64 (m : Int), .int .i64 1] W
  fun e w' => ∃ A c, e = .returned (.tuple #[.slice A 0 c, .int .i64 1]) ∧ Below W.heap.size W w' := by
 have h2 := put_any none [] 0 0 m 0 1 W Rd.nil rfl (Nat.zero_le _) (by omega)
 have e : putS [] m 1 = ([], 1) := by
  unfold putS
  rw [if_neg (by
   rintro ⟨_, _, h⟩
   have := (Nat.div_eq_zero_iff_lt (by decide)).1 h
   simp at this
   omega)]
 rw [e] at h2
 refine h2.mono fun e w' hh => ?_
 obtain ⟨A', c', e1, ho, hb⟩ := BE.len hh (n := 0) rfl
 exact ⟨A', c', e1, hb⟩
theorem ask_yes (x : Ac) (m : Nat) (w : World) (hid' : U64 x.id) (hf : x.flags = (m : Int)) (h2 : (m : Int) ≤ 255) : Calls Tryz.prog 139 #[.agg x.cells.toArray] w (SN w (le x.id 8 ++ [UInt8.ofNat m], 0)) := by
 obtain ⟨id, flags, deb, cre⟩ := x
 subst hf
 show Calls Tryz.prog 139 #[.agg #[.int .u64 (id : Int), .int .i64 (m : Int), .int .u64 (deb : Int), .int .u64 (cre : Int)]] w _
 have HP := hid (put_flag m (by omega))
 have HID := hid hid'
 have HLA : Hid (leAll [id] = le id 8) := hid (by simp [leAll])
 have hlen : ¬ (9223372036854775807 < (le id 8).length + 1) := by rw [le_len]; omega
 have HLY := hid (fun W c B A (hr : Rd W B A (rows Ic [id])) hB hc => by
  have := lay_nums A [id] 1 c B W hr rfl (by omega) (by omega) hc (by intro x hx; simp at hx; subst hx; exact hid') hB
  rw [HLA.out] at this
  exact this)
 generalize le id 8 = E at *
 generalize UInt8.ofNat m = b at *
 clear hid' HID HLA
 go_enter Tryz.func139, Tryz.ntmps139
 go_wp2_with (go_at_call 69; refine (HP.out _).mono ?_; rintro e w1 ⟨A, c, rfl, hrd, hb⟩)
 have hb0 : Below w.heap.size w w1 := ((Below.refl _ _).alloc (Nat.le_refl _) _).trans (hb.mono (by simp))
 have hrow : Row w1 w.heap.size 80 [.int .u64 (id : Int), .int .i64 (m : Int), .int .u64 (deb : Int), .int .u64 (cre : Int)] := (Row.new w 80 #[.int .u64 (id : Int), .int .i64 (m : Int), .int .u64 (deb : Int), .int .u64 (cre : Int)]).below hb (by simp)
 have hc : ∀ W, Kp w1 W → W.cell? ⟨w.heap.size, 0, none⟩ = some (.int .u64 (id : Int)) := fun W hW => by
  rw [(hrow.below hW hrow.lt).cell]
  rfl
 have hcv : ∀ W, Kp w1 W → (convert 85 9 (.slice A 1 c)).run Tryz.prog W = .ok (.string ⟨[b].toArray⟩) W := fun W hW =>
  run_str W 85 5 Tryz.underlying85 Tryz.underlying5 9 Tryz.underlying9 w1.heap.size A [b] 1 c rfl (hrd.below hW (Nat.le_refl _))
 have HB0 := hid hb0
 clear hrd hb hb0 hrow
 have HNW : Hid (∀ W : World, Rd (W.alloc (.cells #[.int .u64 (id : Int)] 29)).drew (W.heap.size + 1) (some ⟨W.heap.size, 0, none⟩) (rows Ic [id])) := hid fun W => Row.rd (cs := rows Ic [id]) (Row.new W 29 #[.int .u64 (id : Int)]) (Nat.lt_succ_self _)
 have HC := hid hc
 have HCV := hid hcv
 clear hc hcv
 refine wp_region_held_drew (S := fun w' => Kp w1 w') (by kernel_rfl) (Kp.refl _).drew (fun hH => ?_)
 refine tk_ (i := 0) (v := .pointer (some ⟨w.heap.size, 0, none⟩)) rfl (Or.inl ⟨by rfl, fun w' hw' => by clear hw' ; go_simp⟩) hH ?_
 simp only [Act.put]
 refine tk_ (i := 1) (v := .int .u64 (id : Int)) rfl (Or.inl ⟨by rfl, fun w' hw' => by have h := HC.out w' hw'; go_simp⟩) hH ?_
 simp only [Act.put]
 refine tk_ (i := 4) (v := .slice A 1 c) rfl (Or.inl ⟨by rfl, fun w' hw' => by clear hw' ; go_simp⟩) hH ?_
 simp only [Act.put]
 refine tk_ (i := 5) (v := .string ⟨[b].toArray⟩) rfl (Or.inl ⟨by rfl, fun w' hw' => by have h := HCV.out w' hw'; go_simp⟩) hH ?_
 simp only [Act.put]
 refine rd1 (i := 2) (by kernel_rfl) rfl (fun K hK => ?_)
 go_simp
 refine hK.out _ _ (Kp.alloc hH _) (fun hH => ?_)
 clear hK K
 try simp only [Act.put]
 refine rd1 (i := 3) (by kernel_rfl) rfl (fun K hK => ?_)
 go_simp
 go_at_call 140
 refine (HLY.out _ 1 _ _ (HNW.out w1) (by simp) (by omega)).mono ?_
 rintro e w2 ⟨rfl, hb2⟩
 go_wp2_with fail
 refine hK.out _ _ (Kp.call hb2 hH) (fun hH => ?_)
 clear hK K
 try simp only [Act.put]
 refine rd1 (i := 6) (by kernel_rfl) rfl (fun K hK => ?_)
 go_simp
 refine hK.out _ _ (hH) (fun hH => ?_)
 clear hK K
 try simp only [Act.put]
 refine rd1 (i := 7) (by kernel_rfl) rfl (fun K hK => ?_)
 go_simp
 refine hK.out _ _ (hH) (fun hH => ?_)
 clear hK K
 try simp only [Act.put]
 refine rd1 (i := 8) (by kernel_rfl) rfl (fun K hK => ?_)
 go_simp
 refine hK.out _ _ (hH) (fun hH => ?_)
 clear hK K
 try simp only [Act.put]
 refine wpAnyH_done (by kernel_rfl) ?_ _
 try simp only [Act.put]
 go_wp2_with fail
 go_ret2
 exact ⟨rfl, HB0.out.trans (Below.mono hH HB0.out.size)⟩
theorem ask_high (x : Ac) (m : Nat) (w : World) (hf : x.flags = (m : Int)) (h2 : 255 < m) (h3 : (m : Int) ≤ 9223372036854775807) : Calls Tryz.prog 139 #[.agg x.cells.toArray] w (SN w ([], 1)) := by
 obtain ⟨id, flags, deb, cre⟩ := x
 subst hf
 show Calls Tryz.prog 139 #[.agg #[.int .u64 (id : Int), .int .i64 (m : Int), .int .u64 (deb : Int), .int .u64 (cre : Int)]] w _
 have HP := hid (put_noflag m h2)
 go_enter Tryz.func139, Tryz.ntmps139
 go_wp2_with (go_at_call 69; refine (HP.out _).mono ?_; rintro e w1 ⟨A, c, rfl, hb⟩)
 go_ret2
 exact ⟨rfl, ((Below.refl _ _).alloc (Nat.le_refl _) _).trans (hb.mono (by simp))⟩
theorem ask_low (x : Ac) (w : World) (h2 : x.flags < 0) (h3 : -9223372036854775808 ≤ x.flags) : Calls Tryz.prog 139 #[.agg x.cells.toArray] w (SN w ([], 1)) := by
 obtain ⟨id, flags, deb, cre⟩ := x
 show Calls Tryz.prog 139 #[.agg #[.int .u64 (id : Int), .int .i64 flags, .int .u64 (deb : Int), .int .u64 (cre : Int)]] w _
 have hu : IntKind.u64.wrap flags = (((flags + 18446744073709551616).toNat : Nat) : Int) := by
  simp only at h2 h3
  rw [IntKind.wrap_u64]
  omega
 have HP := hid (put_noflag (flags + 18446744073709551616).toNat (by simp only at h2 h3; omega))
 rw [← hu] at HP
 clear hu
 go_enter Tryz.func139, Tryz.ntmps139
 go_wp2_with (go_at_call 69; refine (HP.out _).mono ?_; rintro e w1 ⟨A, c, rfl, hb⟩)
 go_ret2
 exact ⟨rfl, ((Below.refl _ _).alloc (Nat.le_refl _) _).trans (hb.mono (by simp))⟩
theorem ask_any (x : Ac) (hx : x.ok) (w : World) : Calls Tryz.prog 139 #[.agg x.cells.toArray] w (SN w (askS x)) := by
 obtain ⟨h1, ⟨h2, h3⟩, _⟩ := hx
 unfold askS
 by_cases h : 0 ≤ x.flags ∧ x.flags ≤ 255
 ·
  rw [if_pos h]
  obtain ⟨m, hm⟩ := Int.eq_ofNat_of_zero_le h.1
  have := ask_yes x m w h1 hm (by have := h.2; omega)
  rw [hm]
  exact this
 ·
  rw [if_neg h]
  by_cases hl : x.flags < 0
  ·
   exact ask_low x w hl h2
  ·
   obtain ⟨m, hm⟩ := Int.eq_ofNat_of_zero_le (show 0 ≤ x.flags by omega)
   exact ask_high x m w hm (by omega) (by omega)
/-! ### what a list's elements are laid by -/
def optB (o : Option (List UInt8)) : List UInt8 × Bool := (o.getD [], o.isSome)
theorem putt_any (x : Tr) (hx : x.ok) (w : World) : Calls Tryz.prog 143 #[.agg x.cells.toArray] w (SB w (optB (trB x))) := by
 obtain ⟨a, b, c, d⟩ := x
 obtain ⟨h1, h2, h3, h4⟩ := hx
 show Calls Tryz.prog 143 #[.agg #[.int .u64 (a : Int), .int .u64 (b : Int), .int .u64 (c : Int), .int .u64 (d : Int)]] w _
 have hl : leAll [a, b, c, d] = le a 8 ++ le b 8 ++ le c 8 ++ le d 8 := by simp [leAll]
 have HL := hid (fun W B A (hr : Rd W B A (rows Ic [a, b, c, d])) hB => lay_nums A [a, b, c, d] 4 4 B W hr rfl (by omega) (by omega) (by omega) (by
  intro x hx
  simp at hx
  rcases hx with rfl | rfl | rfl | rfl <;> assumption) hB)
 rw [hl] at HL
 have hE : optB (trB ⟨a, b, c, d⟩) = (le a 8 ++ le b 8 ++ le c 8 ++ le d 8, true) := by unfold optB trB; simp only [Option.getD_some, Option.isSome_some]
 rw [hE]
 clear hE
 generalize le a 8 ++ le b 8 ++ le c 8 ++ le d 8 = E at *
 clear hl h1 h2 h3 h4
 have HNW : Hid (∀ W : World, Rd (W.alloc (.cells #[.int .u64 (a : Int), .int .u64 (b : Int), .int .u64 (c : Int), .int .u64 (d : Int)] 29)) (W.heap.size + 1) (some ⟨W.heap.size, 0, none⟩) (rows Ic [a, b, c, d])) := hid fun W => Row.rd (cs := rows Ic [a, b, c, d]) (Row.new W 29 #[.int .u64 (a : Int), .int .u64 (b : Int), .int .u64 (c : Int), .int .u64 (d : Int)]) (Nat.lt_succ_self _)
 have h2 := HNW.out (w.alloc (.cells #[.int .u64 (a : Int), .int .u64 (b : Int), .int .u64 (c : Int), .int .u64 (d : Int)] 82))
 rw [World.size_alloc] at h2
 have HN2 := hid h2
 clear h2
 go_enter Tryz.func143, Tryz.ntmps143
 go_wp2_with (go_at_call 140; refine (HL.out _ _ _ HN2.out (by simp)).mono ?_; rintro e1 w1 ⟨rfl, hb⟩)
 go_ret2
 exact ⟨rfl, (((Below.refl _ _).alloc (Nat.le_refl _) _).alloc (by simp) _).trans (hb.mono (by simp; omega))⟩
/-- new memory, or none -/
def NewA (w : World) (A : Option Addr) : Prop := ∀ a, A = some a → w.heap.size ≤ a.block
theorem NewA.none (w : World) : NewA w none := fun a h => by cases h
theorem NewA.head (w : World) (o : Nat) : NewA w (some ⟨w.heap.size, o, .none⟩) := fun a h => by cases h; exact Nat.le_refl _
theorem NewA.le {w w' : World} {A : Option Addr} (h : NewA w' A) (hs : w.heap.size ≤ w'.heap.size) : NewA w A := fun a ha => Nat.le_trans hs (h a ha)
theorem NewA.own {w w0 : World} {e m n c : Nat} {A : Option Addr} {xs : List Value} (h : w.ownsRow w0.heap.size e m (.slice A n c) n xs) : NewA w0 A := fun a ha => by
 subst ha
 rcases h.2 with ⟨hv, _⟩ | ⟨g, cap, cur, hv, hb, _⟩
 ·
  cases hv
 ·
  cases hv
  exact hb
/-- a list and a yes or no -/
def LB {α : Type} (C : α → List Value) (w : World) (r : List α × Bool) (e : Ending) (w' : World) : Prop :=
 ∃ A c, e = .returned (.tuple #[.slice A r.1.length c, .bool r.2]) ∧ r.1.length ≤ c ∧ Rd w' w'.heap.size A (rows C r.1) ∧ Below w.heap.size w w' ∧ NewA w A
theorem LB_none {α : Type} {C : α → List Value} {w w' : World} (b : Bool) (hb : Below w.heap.size w w') : LB C w (([] : List α), b) (.returned (.tuple #[.slice none 0 0, .bool b])) w' :=
 ⟨none, 0, rfl, Nat.le_refl _, Rd.nil, hb, NewA.none w⟩
/-- each piece by its bytes -/
def eachP {α : Type} (f : α → Option (List UInt8)) (l : List α) : List (List UInt8) × Bool :=
 if l.length = 0 ∨ 4 < l.length then ([], false) else if l.all (fun x => (f x).isSome) then (l.map (fun x => (f x).getD []), true) else ([], false)
/-- the first k of a list of rows, noughts behind them -/
def part (xs : List (List Value)) (z : List Value) (n k : Nat) : List (List Value) := xs.take k ++ List.replicate (n - k) z
section
variable {xs : List (List Value)} {z : List Value} {n m : Nat}
theorem part_zero : part xs z n 0 = List.replicate n z := by simp [part]
theorem part_all (h : xs.length = n) : part xs z n n = xs := by
 unfold part
 rw [List.take_of_length_le (by omega), Nat.sub_self]
 simp
theorem part_len (h : xs.length = n) (k : Nat) (hk : k ≤ n) : (part xs z n k).length = n := by
 unfold part
 rw [List.length_append, List.length_take, List.length_replicate]
 omega
theorem part_rows (hx : ∀ r ∈ xs, r.length = m) (hz : z.length = m) (k : Nat) : ∀ r ∈ part xs z n k, r.length = m := by
 intro r hr
 rcases List.mem_append.1 hr with hr | hr
 ·
  exact hx r (List.mem_of_mem_take hr)
 ·
  rw [List.eq_of_mem_replicate hr, hz]
theorem part_set (h : xs.length = n) (k : Nat) (hk : k < n) (v : List Value) (hv : xs[k]? = some v) : (part xs z n k).set k v = part xs z n (k + 1) := by
 have hl : (xs.take k).length = k := by rw [List.length_take]; omega
 unfold part
 rw [List.set_append_right _ _ (by omega), hl, Nat.sub_self, show n - k = (n - (k + 1)) + 1 by omega, List.replicate_succ, List.set_cons_zero]
 obtain ⟨hlt, rfl⟩ := List.getElem?_eq_some_iff.1 hv
 rw [List.take_succ_eq_append_getElem hlt, List.append_assoc]
 rfl
/-- row k is laid -/
theorem part_splice (h : xs.length = n) (hx : ∀ r ∈ xs, r.length = m) (hz : z.length = m) (k : Nat) (hk : k < n) (v : List Value) (hv : xs[k]? = some v) :
  splice (part xs z n k).flatten (k * m) v = (part xs z n (k + 1)).flatten := by
 have hvl : v.length = m := hx v (List.mem_of_getElem? hv)
 have hkl : k < (part xs z n k).length := by rw [part_len h k (by omega)]; exact hk
 have := flat_splice m (part xs z n k) k 0 v hkl (part_rows hx hz k) (by omega)
 rw [Nat.add_zero] at this
 rw [this, ← part_set h k hk v hv]
 congr 2
 unfold splice
 rw [List.take_zero, List.nil_append, List.drop_of_length_le, List.append_nil]
 rw [part_rows hx hz k _ (List.getElem_mem hkl)]
 omega
theorem part_flat (h : xs.length = n) (hx : ∀ r ∈ xs, r.length = m) (hz : z.length = m) (k : Nat) (hk : k ≤ n) : (part xs z n k).flatten.length = n * m := by
 rw [flat_length m _ (part_rows hx hz k), part_len h k hk]
end

theorem Row.setCells {w : World} {g : Nat} {e : TypeId} {xs : List Value} (h : Row w g e xs) : ∀ (vs : List Value) (o : Nat), o + vs.length ≤ xs.length → Row (w.setCells g o vs) g e (splice xs o vs) ∧ w.grownBy (w.setCells g o vs) (some g)
 | [], o, ho => ⟨by simpa [splice, World.setCells] using h, World.grownBy.refl _ _⟩
 | v :: r, o, ho => by
  simp only [List.length_cons] at ho
  obtain ⟨h1, h2⟩ := Row.setCells (h.set_ o v) r (o + 1) (by rw [List.length_set]; omega)
  have e : splice (xs.set o v) (o + 1) r = splice xs o (v :: r) := by
   unfold splice
   have hk : o < xs.length := by omega
   rw [List.drop_set_of_lt (by omega), List.take_succ_eq_append_getElem (by simpa using hk), List.take_set_of_le (Nat.le_refl _)]
   simp [Nat.add_assoc, Nat.add_comm 1]
  rw [e] at h1
  exact ⟨h1, gtrans (gset _ _ _ _) h2⟩
theorem Row.there {w : World} {g : Nat} {e : TypeId} {xs : List Value} (h : Row w g e xs) (o n : Nat) (ho : o + n ≤ xs.length) : w.there g o n := fun j hj => by
 rw [h.cell, List.getElem?_eq_getElem (by omega)]
 exact ⟨rfl, h.frozen _⟩
theorem Rd.range {α : Type} {C : α → List Value} {w : World} {B g o n : Nat} {l : List α} (h : Rd w B (some ⟨g, o, none⟩) (rows C l)) (hC : ∀ x, (C x).length = n) (k : Nat) (hk : k < l.length) : w.rangeAt g (o + k * n) (C l[k]) := fun j v hv => by
 have hj : j < n := by rw [← hC l[k]]; exact (List.getElem?_eq_some_iff.1 hv).1
 have hget := rows_get hC l k j hk hj
 obtain ⟨g', o', e, _, hc⟩ := h (by intro e; rw [e] at hget; rw [hv] at hget; simp at hget)
 cases e
 rw [Nat.add_assoc]
 exact hc _ _ (hget.trans hv)
/-- a cell of a row of cells -/
theorem part_cell {W : World} {g n k : Nat} {T : TypeId} {xs : List (List Value)} {z : List Value} {u : Value} (hrow : Row W g T (part xs z n k).flatten) (hn : xs.length = n) (hX : ∀ r ∈ xs, r.length = 1) (hz : z.length = 1) (hk : k < n) (hv : xs[k]? = some [u]) :
  (∃ u0, W.cell? ⟨g, k, none⟩ = some u0) ∧ W.frozen? ⟨g, k, none⟩ = false ∧ Row (W.setCell ⟨g, k, none⟩ u) g T (part xs z n (k + 1)).flatten := by
 have hfl := part_flat hn hX hz k (Nat.le_of_lt hk)
 have hl : k + 1 ≤ (part xs z n k).flatten.length := by omega
 obtain ⟨h1, _⟩ := hrow.setCells [u] k hl
 have := part_splice hn hX hz k hk [u] hv
 rw [Nat.mul_one] at this
 rw [this] at h1
 exact ⟨⟨_, by rw [hrow.cell]; exact List.getElem?_eq_getElem hl⟩, hrow.frozen _, h1⟩
/-- a store of a struct into a row of structs -/
theorem wpl_store_part {P : Program} {ops : Array Oper} {rest : List Oper} {o : Oper} {a : Act} {w : World} {Q : Exit → Act → World → Prop} (hgd : o.guard = none) {T : TypeId} (x y : Operand) (ho : o.op = .store T x y) {m : Nat} (hm : (P.info? T).map (·.size) = some m)
  (g k n : Nat) (xs : List (List Value)) (z v : List Value) (hx : a.eval x = .pointer (some ⟨g, k * m, none⟩)) (hy : a.eval y = .agg v.toArray) (hrow : Row w g T (part xs z n k).flatten)
  (hK : ∀ w', Row w' g T (part xs z n (k + 1)).flatten → w.grownBy w' (some g) → wpList P ops Q rest (a.put o.dst undef) w')
  (hn : Hid (xs.length = n)) (hX : Hid (∀ r ∈ xs, r.length = m)) (hz : Hid (z.length = m)) (hk : Hid (k < n)) (hv : Hid (xs[k]? = some v)) (hone : Hid (v.all (·.oneCell') = true)) : wpList P ops Q (o :: rest) a w := by
 have hvl : v.length = m := hX.out v (List.mem_of_getElem? hv.out)
 have hfl := part_flat hn.out hX.out hz.out k (Nat.le_of_lt hk.out)
 have hkm : k * m + m ≤ n * m := by
  have : (k + 1) * m ≤ n * m := Nat.mul_le_mul_right _ hk.out
  rw [Nat.add_mul] at this
  omega
 obtain ⟨h1, h2⟩ := hrow.setCells v (k * m) (by omega)
 rw [part_splice hn.out hX.out hz.out k hk.out v hv.out] at h1
 exact wpList_store_mid hgd T x y ho g (k * m) v.toArray hx hy (by rw [List.size_toArray]; exact hrow.there _ _ (by omega)) (by rw [List.size_toArray, hvl]; exact hm) (by simpa using hone.out) (hK _ h1 h2)
theorem strInfo : (Tryz.prog.info? 9).map (fun i => (i.zero, i.size, i.bytes)) = some (some (.string ⟨#[]⟩), 1, 16) := by kernel_rfl
theorem acInfo : (Tryz.prog.info? 80).map (fun i => (i.zero, i.size, i.bytes)) = some (some (.agg ac0.cells.toArray), 4, 32) := by kernel_rfl
theorem trInfo : (Tryz.prog.info? 82).map (fun i => (i.zero, i.size, i.bytes)) = some (some (.agg tr0.cells.toArray), 4, 32) := by kernel_rfl
theorem u64Info : (Tryz.prog.info? 29).map (fun i => (i.zero, i.size, i.bytes)) = some (some (.int .u64 0), 1, 8) := by kernel_rfl
theorem tail_all {α : Type} {f : α → Bool} {l : List α} {k : Nat} (hk : k < l.length) (hs : f l[k] = false) : l.all f = false := by
 rw [List.all_eq_false]
 exact ⟨_, List.getElem_mem hk, by simp [hs]⟩
theorem head_all {α : Type} {f : α → Bool} {l : List α} (h : ∀ j (hj : j < l.length), f l[j] = true) : l.all f = true := by
 rw [List.all_eq_true]
 intro x hx
 obtain ⟨j, hj, rfl⟩ := List.getElem_of_mem hx
 exact h j hj
theorem eachpt_none (A : Option Addr) (n c : Nat) (w : World) (h : n = 0 ∨ 4 < n) : Calls Tryz.prog 142 #[.slice A n c, .func (.func 143) #[] #[]] w (LB Sc w ([], false)) := by
 by_cases h0 : n = 0
 ·
  subst h0
  clear h
  go_enter Tryz.func142, Tryz.ntmps142
  go_wp2_with fail
  go_ret2
  exact LB_none _ (Below.refl _ _)
 ·
  have h1 : ((n : Int) == 0) = false := beq_eq_false_iff_ne.2 (by omega)
  have h2 : decide (4 < (n : Int)) = true := decide_eq_true (by omega)
  clear h
  go_enter Tryz.func142, Tryz.ntmps142
  go_wp2_with fail
  go_ret2
  exact LB_none _ (Below.refl _ _)
theorem eachpt_some (A : Option Addr) (l : List Tr) (n c B : Nat) (w : World) (hr : Rd w B A (rows Tr.cells l)) (hn : n = l.length) (h0 : 0 < n) (h4 : n ≤ 4) (hnc : n ≤ c) (hB : B ≤ w.heap.size) (hok : ∀ x ∈ l, x.ok) :
  Calls Tryz.prog 142 #[.slice A n c, .func (.func 143) #[] #[]] w (LB Sc w (if l.all (fun x => (trB x).isSome) then (l.map (fun x => (trB x).getD []), true) else ([], false))) := by
 obtain ⟨i0, hi, hz0, hz1, hz2⟩ := info_parts strInfo
 have hlen := rows_len (C := Tr.cells) Tr.len l
 obtain ⟨ga, o, rfl, hga, hcell⟩ := id hr (by intro e; rw [e] at hlen; simp at hlen; omega)
 clear hcell
 have h1 : ((n : Int) == 0) = false := beq_eq_false_iff_ne.2 (by omega)
 have h2 : ¬ 4 < (n : Int) := by omega
 have hXl : (l.map fun x => Sc ((trB x).getD [])).length = n := by rw [List.length_map, hn]
 have hX1 : ∀ r ∈ l.map fun x => Sc ((trB x).getD []), r.length = 1 := by
  intro r hr
  obtain ⟨x, _, rfl⟩ := List.mem_map.1 hr
  rfl
 have hXk : ∀ k (hk : k < l.length), (l.map fun x => Sc ((trB x).getD []))[k]? = some [.string ⟨((trB l[k]).getD []).toArray⟩] := by
  intro k hk
  simp [hk, Sc]
 have hXe : (l.map fun x => Sc ((trB x).getD [])).flatten = rows Sc (l.map fun x => (trB x).getD []) := by simp [rows, Function.comp_def]
 generalize (l.map fun x => Sc ((trB x).getD [])) = XS at *
 have HXL := hid hXl
 have HX1 := hid hX1
 have HXK := hid hXk
 have HXE := hid hXe
 have HR := hid hr
 have HN := hid hn
 have HOK := hid (fun k (hk : k < l.length) => hok l[k] (List.getElem_mem hk))
 have HZ := hid trSize
 obtain ⟨r, hr0⟩ : ∃ r, (if l.all (fun x => (trB x).isSome) then (l.map (fun x => (trB x).getD []), true) else ([], false)) = r := ⟨_, rfl⟩
 rw [hr0]
 have HYES : Hid ((l.all fun x => (trB x).isSome) = true → r = (l.map (fun x => (trB x).getD []), true)) := hid fun h => by rw [← hr0, if_pos h]
 have HNO : Hid ((l.all fun x => (trB x).isSome) = false → r = ([], false)) := hid fun h => by rw [← hr0, if_neg (by rw [h]; decide)]
 clear hr0 hXl hX1 hXk hXe hr hn hok hlen
 go_enter Tryz.func142, Tryz.ntmps142
 go_wp2_with (refine wpl_make_big rfl _ _ _ rfl 9 i0 _ [.string ⟨#[]⟩] Tryz.underlying157 hi hz0 hz1 rfl (Nat.zero_lt_one) _ _ _ _ n rfl rfl ?_ ?_ ?_ ?_ ?_; intro g w1 HG HR1 HG1)
 rotate_left
 ·
  exact hid trivial
 ·
  exact hid trivial
 ·
  exact hid (by omega)
 ·
  exact hid (le_maxLen (by omega))
 have hg : g = w.heap.size := HG.out
 subst hg
 have hb1 : Below w.heap.size w w1 := (Below.refl _ _).grown HG1 (Nat.le_refl _) (by intro k hk; cases hk)
 have HB1 := hid hb1
 have HRW := hid HR1
 clear hb1 HR1 HG1 HG
 go_loopw [23] (fun i wr => ∃ k : Nat, k ≤ n ∧ i = .int .i64 k ∧ Hid (∀ j (hj : j < l.length), j < k → (trB l[j]).isSome = true) ∧ Row wr w.heap.size 9 (part XS [.string ⟨#[]⟩] n k).flatten ∧ Below w.heap.size w wr) (fun i _ => n - (intOf i).toNat)
 case atStart => exact ⟨0, by omega, rfl, hid (by intro j _ hj; omega), by rw [part_zero]; exact HRW.out, HB1.out⟩
 case round =>
  obtain ⟨k, hk, rfl, HP, hrow, hbe⟩ := hrel
  have HBE := hid hbe
  have hlt0 := hrow.lt
  by_cases hlt : k < n
  ·
   have hkl : k < l.length := by rw [← HN.out]; exact hlt
   have hrd := HR.out.below hbe hB
   have hrg := hrd.range Tr.len k hkl
   have HW := hid (putt_any l[k] (HOK.out k hkl))
   have HK := hid (fun (W : World) (hb : Below wr.heap.size wr W) => part_cell (hrow.below hb hrow.lt) HXL.out HX1.out rfl hlt (HXK.out k hkl))
   have HSM : Hid (∀ b, (trB l[k]).isSome = b → b = true → ∀ j (hj : j < l.length), j < k + 1 → (trB l[j]).isSome = true) := hid fun b hb hbt j hj hjk => by
    by_cases e : j = k
    ·
     subst e; rw [hb]; exact hbt
    ·
     exact HP.out j hj (by omega)
   have HFA : Hid (∀ b, (trB l[k]).isSome = b → b = false → (l.all fun x => (trB x).isSome) = false) := hid fun b hb hbf => tail_all hkl (by rw [hb]; exact hbf)
   obtain ⟨bs, bb, hbs, hbb⟩ : ∃ bs bb, (trB l[k]).getD [] = bs ∧ (trB l[k]).isSome = bb := ⟨_, _, rfl, rfl⟩
   have hopt : optB (trB l[k]) = (bs, bb) := by unfold optB; rw [hbs, hbb]
   rw [hopt] at HW
   rw [hbs] at HK
   have HSM2 := hid (HSM.out bb hbb)
   have HFA2 := hid (HFA.out bb hbb)
   have hC4 : (Tr.cells l[k]).length = 4 := Tr.len _
   have hC1 : ((Tr.cells l[k]).all (·.oneCell') = true) := rfl
   clear hopt hbs hbb HSM HFA
   generalize Tr.cells l[k] = X at *
   have HC4 := hid hC4
   have HC1 := hid hC1
   have HRG := hid hrg
   clear hC4 hC1 hrow hbe hrd hrg HRW HB1
   have HBB := hid (show ∀ W2 : World, Below (wr.heap.size + 1) (wr.alloc (.cells tr0.cells.toArray 82)) W2 → True from fun _ _ => trivial)
   cases bb
   all_goals
    go_wp2_with (first
     | (refine wpList_load_mid rfl 82 (.tmp 26) rfl ga (o + k * 4) rfl X _ HRG.out Tryz.underlying82 rfl (by rw [HC4.out]; exact HZ.out) ?_)
     | (refine wpl_store_st rfl (.tmp 8) (.tmp 27) rfl HZ.out wr.heap.size tr0.cells X rfl rfl (Row.new _ _ _) ?_ (hid rfl) (hid HC4.out) (hid HC1.out); intro w2 hr2 hg2; have hb2 : Below wr.heap.size wr w2 := ((Below.refl _ _).alloc (Nat.le_refl _) _).trans (below_grown hg2 (Nat.le_refl _) (by simp)))
     | (refine wpList_load_row rfl 82 (.tmp 8) rfl wr.heap.size rfl 82 X.toArray (0, 0) _ hr2.arr' Tryz.underlying82 rfl (by rw [List.size_toArray, HC4.out]; exact HZ.out) ?_)
     | (go_at_call 143; refine (HW.out _).mono ?_; rintro e w3 ⟨rfl, hb3⟩; have hbe3 := hb2.trans (hb3.mono hb2.size); obtain ⟨⟨u0, q1⟩, q2, q3⟩ := HK.out w3 hbe3; have Q3 := hid q3; have HB3 := hid hbe3; clear q3))
   ·
    go_ret2
    rw [HNO.out (HFA2.out (by simp))]
    exact LB_none _ (((HBE.out.trans (HB3.out.mono HBE.out.size))).setCell (Nat.le_refl _) _)
   ·
    exact ⟨⟨k + 1, by omega, by go_num, hid (HSM2.out (by simp)), Q3.out, (HBE.out.trans (HB3.out.mono HBE.out.size)).setCell (Nat.le_refl _) _⟩, by simp [intOf]; omega⟩
  ·
   obtain rfl : k = n := by omega
   rw [part_all HXL.out, HXE.out] at hrow
   have HRR := hid hrow
   have HALL := hid (head_all (f := fun x => (trB x).isSome) (fun j hj => HP.out j hj (by rw [HN.out]; exact hj)))
   clear hrow hbe
   go_wp2_with fail
   go_ret2
   rw [HYES.out HALL.out]
   refine ⟨_, k, ?_, ?_, HRR.out.rd HRR.out.lt, HBE.out, NewA.head _ _⟩
   ·
    show _ = Ending.returned (.tuple #[.slice _ (l.map _).length k, .bool true])
    rw [List.length_map, ← HN.out]
    rfl
   ·
    show (l.map _).length ≤ k
    rw [List.length_map, ← HN.out]
    exact Nat.le_refl _
theorem eachpt_any (A : Option Addr) (l : List Tr) (n c B : Nat) (w : World) (hr : Rd w B A (rows Tr.cells l)) (hn : n = l.length) (hnc : n ≤ c) (hB : B ≤ w.heap.size) (hok : ∀ x ∈ l, x.ok) :
  Calls Tryz.prog 142 #[.slice A n c, .func (.func 143) #[] #[]] w (LB Sc w (eachP trB l)) := by
 unfold eachP
 rw [← hn]
 by_cases h : n = 0 ∨ 4 < n
 ·
  rw [if_pos h]
  exact eachpt_none A n c w h
 ·
  rw [if_neg h]
  exact eachpt_some A l n c B w hr hn (by omega) (by omega) hnc hB hok
theorem eachti_none (A : Option Addr) (n c : Nat) (w : World) (h : n = 0 ∨ 4 < n) : Calls Tryz.prog 129 #[.slice A n c, .func (.func 130) #[] #[]] w (LB Ic w ([], false)) := by
 by_cases h0 : n = 0
 ·
  subst h0
  clear h
  go_enter Tryz.func129, Tryz.ntmps129
  go_wp2_with fail
  go_ret2
  exact LB_none _ (Below.refl _ _)
 ·
  have h1 : ((n : Int) == 0) = false := beq_eq_false_iff_ne.2 (by omega)
  have h2 : decide (4 < (n : Int)) = true := decide_eq_true (by omega)
  clear h
  go_enter Tryz.func129, Tryz.ntmps129
  go_wp2_with fail
  go_ret2
  exact LB_none _ (Below.refl _ _)
theorem NBS_ok (p : List UInt8) : (NBS p).2 = decide (p.length = 8) := by unfold NBS; split <;> simp_all
theorem eachti_some (A : Option Addr) (l : List (List UInt8)) (n c B : Nat) (w : World) (hr : Rd w B A (rows Sc l)) (hn : n = l.length) (h0 : 0 < n) (h4 : n ≤ 4) (hnc : n ≤ c) (hB : B ≤ w.heap.size) :
  Calls Tryz.prog 129 #[.slice A n c, .func (.func 130) #[] #[]] w (LB Ic w (if l.all (fun p => p.length = 8) then (l.map decI, true) else ([], false))) := by
 obtain ⟨i0, hi, hz0, hz1, hz2⟩ := info_parts u64Info
 have hlen := rows_len (C := Sc) Sc_len l
 obtain ⟨ga, o, rfl, hga, hcell⟩ := id hr (by intro e; rw [e] at hlen; simp at hlen; omega)
 clear hcell
 have h1 : ((n : Int) == 0) = false := beq_eq_false_iff_ne.2 (by omega)
 have h2 : ¬ 4 < (n : Int) := by omega
 have hXl : (l.map fun p => Ic (NBS p).1).length = n := by rw [List.length_map, hn]
 have hX1 : ∀ r ∈ l.map fun p => Ic (NBS p).1, r.length = 1 := by
  intro r hr
  obtain ⟨x, _, rfl⟩ := List.mem_map.1 hr
  exact rfl
 have hXk : ∀ k (hk : k < l.length), (l.map fun p => Ic (NBS p).1)[k]? = some (Ic (NBS l[k]).1) := by
  intro k hk
  simp [hk]
 have hXe : (∀ j (hj : j < l.length), l[j].length = 8) → (l.map fun p => Ic (NBS p).1).flatten = rows Ic (l.map decI) := by
  intro h
  unfold rows
  rw [List.map_map]
  congr 1
  apply List.map_congr_left
  intro p hp
  obtain ⟨j, hj, rfl⟩ := List.getElem_of_mem hp
  simp only [Function.comp, NBS, if_pos (h j hj)]
 generalize (l.map fun p => Ic (NBS p).1) = XS at *
 have HXL := hid hXl
 have HX1 := hid hX1
 have HXK := hid hXk
 have HXE := hid hXe
 have HR := hid hr
 have HN := hid hn
 obtain ⟨r, hr0⟩ : ∃ r, (if l.all (fun p => p.length = 8) then (l.map decI, true) else ([], false)) = r := ⟨_, rfl⟩
 rw [hr0]
 have HYES : Hid ((l.all fun p => p.length = 8) = true → r = (l.map decI, true)) := hid fun h => by rw [← hr0, if_pos h]
 have HNO : Hid ((l.all fun p => p.length = 8) = false → r = ([], false)) := hid fun h => by rw [← hr0, if_neg (by rw [h]; decide)]
 clear hr0 hXl hX1 hXk hXe hr hn hlen
 go_enter Tryz.func129, Tryz.ntmps129
 go_wp2_with (refine wpl_make_big rfl _ _ _ rfl 29 i0 _ [.int .u64 0] Tryz.underlying137 hi hz0 hz1 rfl (by decide) _ _ _ _ n rfl rfl ?_ ?_ ?_ ?_ ?_; intro g w1 HG HR1 HG1)
 rotate_left
 ·
  exact hid trivial
 ·
  exact hid trivial
 ·
  exact hid (by omega)
 ·
  exact hid (le_maxLen (by omega))
 have hg : g = w.heap.size := HG.out
 subst hg
 have hb1 : Below w.heap.size w w1 := (Below.refl _ _).grown HG1 (Nat.le_refl _) (by intro k hk; cases hk)
 have HB1 := hid hb1
 have HRW := hid HR1
 clear hb1 HR1 HG1 HG
 go_loopw [23] (fun i wr => ∃ k : Nat, k ≤ n ∧ i = .int .i64 k ∧ Hid (∀ j (hj : j < l.length), j < k → l[j].length = 8) ∧ Row wr w.heap.size 29 (part XS [.int .u64 0] n k).flatten ∧ Below w.heap.size w wr) (fun i _ => n - (intOf i).toNat)
 case atStart => exact ⟨0, by omega, rfl, hid (by intro j _ hj; omega), by rw [part_zero]; exact HRW.out, HB1.out⟩
 case round =>
  obtain ⟨k, hk, rfl, HP, hrow, hbe⟩ := hrel
  have HBE := hid hbe
  have hlt0 := hrow.lt
  by_cases hlt : k < n
  ·
   have hkl : k < l.length := by rw [← HN.out]; exact hlt
   have hrd := HR.out.below hbe hB
   have hrg := hrd.range Sc_len k hkl
   have hcl : wr.cell? ⟨ga, o + k, none⟩ = some (.string ⟨l[k].toArray⟩) := by
    have := hrg 0 _ rfl
    rw [Nat.mul_one] at this
    exact this
   have HW := hid (taki_any ⟨l[k].toArray⟩)
   rw [sb_mk] at HW
   have HK := hid (fun (W : World) (hb : Below wr.heap.size wr W) => part_cell (hrow.below hb hrow.lt) HXL.out HX1.out rfl hlt (HXK.out k hkl))
   have HSM : Hid (∀ b, (NBS l[k]).2 = b → b = true → ∀ j (hj : j < l.length), j < k + 1 → l[j].length = 8) := hid fun b hb hbt j hj hjk => by
    by_cases e : j = k
    ·
     subst e; rw [hbt, NBS_ok] at hb; exact of_decide_eq_true hb
    ·
     exact HP.out j hj (by omega)
   have HFA : Hid (∀ b, (NBS l[k]).2 = b → b = false → (l.all fun p => p.length = 8) = false) := hid fun b hb hbf => tail_all hkl (by rw [← NBS_ok, hb, hbf])
   generalize hq : NBS l[k] = q at *
   obtain ⟨x, bb⟩ := q
   have HSM2 := hid (HSM.out bb rfl)
   have HFA2 := hid (HFA.out bb rfl)
   clear hq HSM HFA hrow hbe hrd hrg HRW HB1
   generalize (⟨l[k].toArray⟩ : ByteArray) = s at *
   have HK2 : Hid (∀ W : World, Below wr.heap.size wr W → (∃ u0, W.cell? ⟨w.heap.size, k, none⟩ = some u0) ∧ W.frozen? ⟨w.heap.size, k, none⟩ = false ∧ Row (W.setCell ⟨w.heap.size, k, none⟩ (.int .u64 (x : Int))) w.heap.size 29 (part XS [.int .u64 0] n (k + 1)).flatten) := hid HK.out
   clear HK
   cases bb
   all_goals
    go_wp2_with (go_at_call 130; refine (HW.out _).mono ?_; rintro e w3 ⟨rfl, hbe3⟩; obtain ⟨⟨u0, q1⟩, q2, q3⟩ := HK2.out w3 hbe3; have Q3 := hid q3; have HB3 := hid hbe3; clear q3)
   ·
    go_ret2
    rw [HNO.out (HFA2.out (by simp))]
    exact LB_none _ (((HBE.out.trans (HB3.out.mono HBE.out.size))).setCell (Nat.le_refl _) _)
   ·
    exact ⟨⟨k + 1, by omega, by go_num, hid (HSM2.out (by simp)), Q3.out, (HBE.out.trans (HB3.out.mono HBE.out.size)).setCell (Nat.le_refl _) _⟩, by simp [intOf]; omega⟩
  ·
   obtain rfl : k = n := by omega
   rw [part_all HXL.out, HXE.out (fun j hj => HP.out j hj (by rw [HN.out]; exact hj))] at hrow
   have HRR := hid hrow
   have HALL := hid (head_all (f := fun p : List UInt8 => decide (p.length = 8)) (fun j hj => decide_eq_true (HP.out j hj (by rw [HN.out]; exact hj))))
   clear hrow hbe
   go_wp2_with fail
   go_ret2
   rw [HYES.out HALL.out]
   refine ⟨_, k, ?_, ?_, HRR.out.rd HRR.out.lt, HBE.out, NewA.head _ _⟩
   ·
    show _ = Ending.returned (.tuple #[.slice _ (l.map _).length k, .bool true])
    rw [List.length_map, ← HN.out]
    rfl
   ·
    show (l.map _).length ≤ k
    rw [List.length_map, ← HN.out]
    exact Nat.le_refl _
theorem eachti_any (A : Option Addr) (l : List (List UInt8)) (n c B : Nat) (w : World) (hr : Rd w B A (rows Sc l)) (hn : n = l.length) (hnc : n ≤ c) (hB : B ≤ w.heap.size) :
  Calls Tryz.prog 129 #[.slice A n c, .func (.func 130) #[] #[]] w (LB Ic w (eachT 8 decI l)) := by
 unfold eachT
 rw [← hn]
 by_cases h : n = 0 ∨ 4 < n
 ·
  rw [if_pos h]
  exact eachti_none A n c w h
 ·
  rw [if_neg h]
  exact eachti_some A l n c B w hr hn (by omega) (by omega) hnc hB
theorem eachtt_none (A : Option Addr) (n c : Nat) (w : World) (h : n = 0 ∨ 4 < n) : Calls Tryz.prog 124 #[.slice A n c, .func (.func 125) #[] #[]] w (LB Tr.cells w ([], false)) := by
 by_cases h0 : n = 0
 ·
  subst h0
  clear h
  go_enter Tryz.func124, Tryz.ntmps124
  go_wp2_with fail
  go_ret2
  exact LB_none _ (Below.refl _ _)
 ·
  have h1 : ((n : Int) == 0) = false := beq_eq_false_iff_ne.2 (by omega)
  have h2 : decide (4 < (n : Int)) = true := decide_eq_true (by omega)
  clear h
  go_enter Tryz.func124, Tryz.ntmps124
  go_wp2_with fail
  go_ret2
  exact LB_none _ (Below.refl _ _)
theorem TBS_len (p : List UInt8) : (TBS p).1.length = 4 := by unfold TBS; split <;> rfl
theorem TBS_one (p : List UInt8) : (TBS p).1.all (·.oneCell') = true := by unfold TBS; split <;> rfl
theorem TBS_ok (p : List UInt8) : (TBS p).2 = decide (p.length = 32) := by unfold TBS; split <;> simp_all
theorem eachtt_some (A : Option Addr) (l : List (List UInt8)) (n c B : Nat) (w : World) (hr : Rd w B A (rows Sc l)) (hn : n = l.length) (h0 : 0 < n) (h4 : n ≤ 4) (hnc : n ≤ c) (hB : B ≤ w.heap.size) :
  Calls Tryz.prog 124 #[.slice A n c, .func (.func 125) #[] #[]] w (LB Tr.cells w (if l.all (fun p => p.length = 32) then (l.map decT, true) else ([], false))) := by
 obtain ⟨i0, hi, hz0, hz1, hz2⟩ := info_parts trInfo
 have hlen := rows_len (C := Sc) Sc_len l
 obtain ⟨ga, o, rfl, hga, hcell⟩ := id hr (by intro e; rw [e] at hlen; simp at hlen; omega)
 clear hcell
 have h1 : ((n : Int) == 0) = false := beq_eq_false_iff_ne.2 (by omega)
 have h2 : ¬ 4 < (n : Int) := by omega
 have hXl : (l.map fun p => (TBS p).1).length = n := by rw [List.length_map, hn]
 have hX1 : ∀ r ∈ l.map fun p => (TBS p).1, r.length = 4 := by
  intro r hr
  obtain ⟨x, _, rfl⟩ := List.mem_map.1 hr
  exact TBS_len x
 have hXk : ∀ k (hk : k < l.length), (l.map fun p => (TBS p).1)[k]? = some ((TBS l[k]).1) := by
  intro k hk
  simp [hk]
 have hXe : (∀ j (hj : j < l.length), l[j].length = 32) → (l.map fun p => (TBS p).1).flatten = rows Tr.cells (l.map decT) := by
  intro h
  unfold rows
  rw [List.map_map]
  congr 1
  apply List.map_congr_left
  intro p hp
  obtain ⟨j, hj, rfl⟩ := List.getElem_of_mem hp
  simp only [Function.comp, TBS, if_pos (h j hj)]
 generalize (l.map fun p => (TBS p).1) = XS at *
 have HXL := hid hXl
 have HX1 := hid hX1
 have HXK := hid hXk
 have HXE := hid hXe
 have HR := hid hr
 have HN := hid hn
 have HZ := hid trSize
 have HZ4 : Hid (tr0.cells.length = 4) := hid rfl
 obtain ⟨r, hr0⟩ : ∃ r, (if l.all (fun p => p.length = 32) then (l.map decT, true) else ([], false)) = r := ⟨_, rfl⟩
 rw [hr0]
 have HYES : Hid ((l.all fun p => p.length = 32) = true → r = (l.map decT, true)) := hid fun h => by rw [← hr0, if_pos h]
 have HNO : Hid ((l.all fun p => p.length = 32) = false → r = ([], false)) := hid fun h => by rw [← hr0, if_neg (by rw [h]; decide)]
 clear hr0 hXl hX1 hXk hXe hr hn hlen
 go_enter Tryz.func124, Tryz.ntmps124
 go_wp2_with (refine wpl_make_big rfl _ _ _ rfl 82 i0 _ tr0.cells Tryz.underlying55 hi hz0 hz1 rfl (by decide) _ _ _ _ n rfl rfl ?_ ?_ ?_ ?_ ?_; intro g w1 HG HR1 HG1)
 rotate_left
 ·
  exact hid trivial
 ·
  exact hid trivial
 ·
  exact hid (by omega)
 ·
  exact hid (le_maxLen (by omega))
 have hg : g = w.heap.size := HG.out
 subst hg
 have hb1 : Below w.heap.size w w1 := (Below.refl _ _).grown HG1 (Nat.le_refl _) (by intro k hk; cases hk)
 have HB1 := hid hb1
 have HRW := hid HR1
 clear hb1 HR1 HG1 HG
 go_loopw [23] (fun i wr => ∃ k : Nat, k ≤ n ∧ i = .int .i64 k ∧ Hid (∀ j (hj : j < l.length), j < k → l[j].length = 32) ∧ Row wr w.heap.size 82 (part XS tr0.cells n k).flatten ∧ Below w.heap.size w wr) (fun i _ => n - (intOf i).toNat)
 case atStart => exact ⟨0, by omega, rfl, hid (by intro j _ hj; omega), by rw [part_zero]; exact HRW.out, HB1.out⟩
 case round =>
  obtain ⟨k, hk, rfl, HP, hrow, hbe⟩ := hrel
  have HBE := hid hbe
  have hlt0 := hrow.lt
  by_cases hlt : k < n
  ·
   have hkl : k < l.length := by rw [← HN.out]; exact hlt
   have hrd := HR.out.below hbe hB
   have hrg := hrd.range Sc_len k hkl
   have hcl : wr.cell? ⟨ga, o + k, none⟩ = some (.string ⟨l[k].toArray⟩) := by
    have := hrg 0 _ rfl
    rw [Nat.mul_one] at this
    exact this
   have HW := hid (takt_any ⟨l[k].toArray⟩)
   rw [sb_mk] at HW
   have HK := hid (fun (W : World) (hb : Below wr.heap.size wr W) => hrow.below hb hrow.lt)
   have HSM : Hid (∀ b, (TBS l[k]).2 = b → b = true → ∀ j (hj : j < l.length), j < k + 1 → l[j].length = 32) := hid fun b hb hbt j hj hjk => by
    by_cases e : j = k
    ·
     subst e; rw [hbt, TBS_ok] at hb; exact of_decide_eq_true hb
    ·
     exact HP.out j hj (by omega)
   have HFA : Hid (∀ b, (TBS l[k]).2 = b → b = false → (l.all fun p => p.length = 32) = false) := hid fun b hb hbf => tail_all hkl (by rw [← TBS_ok, hb, hbf])
   have hXk := HXK.out k hkl
   have hC4 := TBS_len l[k]
   have hC1 := TBS_one l[k]
   generalize hq : TBS l[k] = q at *
   obtain ⟨X, bb⟩ := q
   have HSM2 := hid (HSM.out bb rfl)
   have HFA2 := hid (HFA.out bb rfl)
   have HC4 : Hid (X.length = 4) := hid hC4
   have HC1 : Hid (X.all (·.oneCell') = true) := hid hC1
   have HXk : Hid (XS[k]? = some X) := hid hXk
   clear hXk hC4 hC1 hq HSM HFA hrow hbe hrd hrg HRW HB1
   generalize (⟨l[k].toArray⟩ : ByteArray) = s at *
   cases bb
   all_goals
    go_wp2_with (first
     | (go_at_call 125; refine (HW.out _).mono ?_; rintro e w3 ⟨rfl, hbe3⟩; have hr3 := HK.out w3 hbe3)
     | (refine wpl_store_part rfl (.tmp 36) (.tmp 34) rfl HZ.out w.heap.size k n XS tr0.cells X rfl rfl hr3 ?_ (hid HXL.out) (hid HX1.out) (hid HZ4.out) (hid hlt) (hid HXk.out) (hid HC1.out); intro w4 hr4 hg4; have HR4 := hid hr4; have HB4 := hid ((HBE.out.trans (hbe3.mono HBE.out.size)).trans (below_grown hg4 (Nat.le_refl _) (Nat.le_trans HBE.out.size hbe3.size))); clear hr3 hr4 hg4 hbe3))
   ·
    go_ret2
    rw [HNO.out (HFA2.out (by simp))]
    exact LB_none _ HB4.out
   ·
    exact ⟨⟨k + 1, by omega, by go_num, hid (HSM2.out (by simp)), HR4.out, HB4.out⟩, by simp [intOf]; omega⟩
  ·
   obtain rfl : k = n := by omega
   rw [part_all HXL.out, HXE.out (fun j hj => HP.out j hj (by rw [HN.out]; exact hj))] at hrow
   have HRR := hid hrow
   have HALL := hid (head_all (f := fun p : List UInt8 => decide (p.length = 32)) (fun j hj => decide_eq_true (HP.out j hj (by rw [HN.out]; exact hj))))
   clear hrow hbe
   go_wp2_with fail
   go_ret2
   rw [HYES.out HALL.out]
   refine ⟨_, k, ?_, ?_, HRR.out.rd HRR.out.lt, HBE.out, NewA.head _ _⟩
   ·
    show _ = Ending.returned (.tuple #[.slice _ (l.map _).length k, .bool true])
    rw [List.length_map, ← HN.out]
    rfl
   ·
    show (l.map _).length ≤ k
    rw [List.length_map, ← HN.out]
    exact Nat.le_refl _
theorem eachtt_any (A : Option Addr) (l : List (List UInt8)) (n c B : Nat) (w : World) (hr : Rd w B A (rows Sc l)) (hn : n = l.length) (hnc : n ≤ c) (hB : B ≤ w.heap.size) :
  Calls Tryz.prog 124 #[.slice A n c, .func (.func 125) #[] #[]] w (LB Tr.cells w (eachT 32 decT l)) := by
 unfold eachT
 rw [← hn]
 by_cases h : n = 0 ∨ 4 < n
 ·
  rw [if_pos h]
  exact eachtt_none A n c w h
 ·
  rw [if_neg h]
  exact eachtt_some A l n c B w hr hn (by omega) (by omega) hnc hB
theorem eachta_none (A : Option Addr) (n c : Nat) (w : World) (h : n = 0 ∨ 4 < n) : Calls Tryz.prog 120 #[.slice A n c, .func (.func 122) #[] #[]] w (LB Ac.cells w ([], false)) := by
 by_cases h0 : n = 0
 ·
  subst h0
  clear h
  go_enter Tryz.func120, Tryz.ntmps120
  go_wp2_with fail
  go_ret2
  exact LB_none _ (Below.refl _ _)
 ·
  have h1 : ((n : Int) == 0) = false := beq_eq_false_iff_ne.2 (by omega)
  have h2 : decide (4 < (n : Int)) = true := decide_eq_true (by omega)
  clear h
  go_enter Tryz.func120, Tryz.ntmps120
  go_wp2_with fail
  go_ret2
  exact LB_none _ (Below.refl _ _)
theorem ABS_len (p : List UInt8) : (ABS p).1.length = 4 := by unfold ABS; split <;> rfl
theorem ABS_one (p : List UInt8) : (ABS p).1.all (·.oneCell') = true := by unfold ABS; split <;> rfl
theorem ABS_ok (p : List UInt8) : (ABS p).2 = decide (p.length = 9) := by unfold ABS; split <;> simp_all
theorem eachta_some (A : Option Addr) (l : List (List UInt8)) (n c B : Nat) (w : World) (hr : Rd w B A (rows Sc l)) (hn : n = l.length) (h0 : 0 < n) (h4 : n ≤ 4) (hnc : n ≤ c) (hB : B ≤ w.heap.size) :
  Calls Tryz.prog 120 #[.slice A n c, .func (.func 122) #[] #[]] w (LB Ac.cells w (if l.all (fun p => p.length = 9) then (l.map decA, true) else ([], false))) := by
 obtain ⟨i0, hi, hz0, hz1, hz2⟩ := info_parts acInfo
 have hlen := rows_len (C := Sc) Sc_len l
 obtain ⟨ga, o, rfl, hga, hcell⟩ := id hr (by intro e; rw [e] at hlen; simp at hlen; omega)
 clear hcell
 have h1 : ((n : Int) == 0) = false := beq_eq_false_iff_ne.2 (by omega)
 have h2 : ¬ 4 < (n : Int) := by omega
 have hXl : (l.map fun p => (ABS p).1).length = n := by rw [List.length_map, hn]
 have hX1 : ∀ r ∈ l.map fun p => (ABS p).1, r.length = 4 := by
  intro r hr
  obtain ⟨x, _, rfl⟩ := List.mem_map.1 hr
  exact ABS_len x
 have hXk : ∀ k (hk : k < l.length), (l.map fun p => (ABS p).1)[k]? = some ((ABS l[k]).1) := by
  intro k hk
  simp [hk]
 have hXe : (∀ j (hj : j < l.length), l[j].length = 9) → (l.map fun p => (ABS p).1).flatten = rows Ac.cells (l.map decA) := by
  intro h
  unfold rows
  rw [List.map_map]
  congr 1
  apply List.map_congr_left
  intro p hp
  obtain ⟨j, hj, rfl⟩ := List.getElem_of_mem hp
  simp only [Function.comp, ABS, if_pos (h j hj)]
 generalize (l.map fun p => (ABS p).1) = XS at *
 have HXL := hid hXl
 have HX1 := hid hX1
 have HXK := hid hXk
 have HXE := hid hXe
 have HR := hid hr
 have HN := hid hn
 have HZ := hid acSize
 have HZ4 : Hid (ac0.cells.length = 4) := hid rfl
 obtain ⟨r, hr0⟩ : ∃ r, (if l.all (fun p => p.length = 9) then (l.map decA, true) else ([], false)) = r := ⟨_, rfl⟩
 rw [hr0]
 have HYES : Hid ((l.all fun p => p.length = 9) = true → r = (l.map decA, true)) := hid fun h => by rw [← hr0, if_pos h]
 have HNO : Hid ((l.all fun p => p.length = 9) = false → r = ([], false)) := hid fun h => by rw [← hr0, if_neg (by rw [h]; decide)]
 clear hr0 hXl hX1 hXk hXe hr hn hlen
 go_enter Tryz.func120, Tryz.ntmps120
 go_wp2_with (refine wpl_make_big rfl _ _ _ rfl 80 i0 _ ac0.cells Tryz.underlying53 hi hz0 hz1 rfl (by decide) _ _ _ _ n rfl rfl ?_ ?_ ?_ ?_ ?_; intro g w1 HG HR1 HG1)
 rotate_left
 ·
  exact hid trivial
 ·
  exact hid trivial
 ·
  exact hid (by omega)
 ·
  exact hid (le_maxLen (by omega))
 have hg : g = w.heap.size := HG.out
 subst hg
 have hb1 : Below w.heap.size w w1 := (Below.refl _ _).grown HG1 (Nat.le_refl _) (by intro k hk; cases hk)
 have HB1 := hid hb1
 have HRW := hid HR1
 clear hb1 HR1 HG1 HG
 go_loopw [23] (fun i wr => ∃ k : Nat, k ≤ n ∧ i = .int .i64 k ∧ Hid (∀ j (hj : j < l.length), j < k → l[j].length = 9) ∧ Row wr w.heap.size 80 (part XS ac0.cells n k).flatten ∧ Below w.heap.size w wr) (fun i _ => n - (intOf i).toNat)
 case atStart => exact ⟨0, by omega, rfl, hid (by intro j _ hj; omega), by rw [part_zero]; exact HRW.out, HB1.out⟩
 case round =>
  obtain ⟨k, hk, rfl, HP, hrow, hbe⟩ := hrel
  have HBE := hid hbe
  have hlt0 := hrow.lt
  by_cases hlt : k < n
  ·
   have hkl : k < l.length := by rw [← HN.out]; exact hlt
   have hrd := HR.out.below hbe hB
   have hrg := hrd.range Sc_len k hkl
   have hcl : wr.cell? ⟨ga, o + k, none⟩ = some (.string ⟨l[k].toArray⟩) := by
    have := hrg 0 _ rfl
    rw [Nat.mul_one] at this
    exact this
   have HW := hid (taka_any ⟨l[k].toArray⟩)
   rw [sb_mk] at HW
   have HK := hid (fun (W : World) (hb : Below wr.heap.size wr W) => hrow.below hb hrow.lt)
   have HSM : Hid (∀ b, (ABS l[k]).2 = b → b = true → ∀ j (hj : j < l.length), j < k + 1 → l[j].length = 9) := hid fun b hb hbt j hj hjk => by
    by_cases e : j = k
    ·
     subst e; rw [hbt, ABS_ok] at hb; exact of_decide_eq_true hb
    ·
     exact HP.out j hj (by omega)
   have HFA : Hid (∀ b, (ABS l[k]).2 = b → b = false → (l.all fun p => p.length = 9) = false) := hid fun b hb hbf => tail_all hkl (by rw [← ABS_ok, hb, hbf])
   have hXk := HXK.out k hkl
   have hC4 := ABS_len l[k]
   have hC1 := ABS_one l[k]
   generalize hq : ABS l[k] = q at *
   obtain ⟨X, bb⟩ := q
   have HSM2 := hid (HSM.out bb rfl)
   have HFA2 := hid (HFA.out bb rfl)
   have HC4 : Hid (X.length = 4) := hid hC4
   have HC1 : Hid (X.all (·.oneCell') = true) := hid hC1
   have HXk : Hid (XS[k]? = some X) := hid hXk
   clear hXk hC4 hC1 hq HSM HFA hrow hbe hrd hrg HRW HB1
   generalize (⟨l[k].toArray⟩ : ByteArray) = s at *
   cases bb
   all_goals
    go_wp2_with (first
     | (go_at_call 122; refine (HW.out _).mono ?_; rintro e w3 ⟨rfl, hbe3⟩; have hr3 := HK.out w3 hbe3)
     | (refine wpl_store_part rfl (.tmp 36) (.tmp 34) rfl HZ.out w.heap.size k n XS ac0.cells X rfl rfl hr3 ?_ (hid HXL.out) (hid HX1.out) (hid HZ4.out) (hid hlt) (hid HXk.out) (hid HC1.out); intro w4 hr4 hg4; have HR4 := hid hr4; have HB4 := hid ((HBE.out.trans (hbe3.mono HBE.out.size)).trans (below_grown hg4 (Nat.le_refl _) (Nat.le_trans HBE.out.size hbe3.size))); clear hr3 hr4 hg4 hbe3))
   ·
    go_ret2
    rw [HNO.out (HFA2.out (by simp))]
    exact LB_none _ HB4.out
   ·
    exact ⟨⟨k + 1, by omega, by go_num, hid (HSM2.out (by simp)), HR4.out, HB4.out⟩, by simp [intOf]; omega⟩
  ·
   obtain rfl : k = n := by omega
   rw [part_all HXL.out, HXE.out (fun j hj => HP.out j hj (by rw [HN.out]; exact hj))] at hrow
   have HRR := hid hrow
   have HALL := hid (head_all (f := fun p : List UInt8 => decide (p.length = 9)) (fun j hj => decide_eq_true (HP.out j hj (by rw [HN.out]; exact hj))))
   clear hrow hbe
   go_wp2_with fail
   go_ret2
   rw [HYES.out HALL.out]
   refine ⟨_, k, ?_, ?_, HRR.out.rd HRR.out.lt, HBE.out, NewA.head _ _⟩
   ·
    show _ = Ending.returned (.tuple #[.slice _ (l.map _).length k, .bool true])
    rw [List.length_map, ← HN.out]
    rfl
   ·
    show (l.map _).length ≤ k
    rw [List.length_map, ← HN.out]
    exact Nat.le_refl _
theorem eachta_any (A : Option Addr) (l : List (List UInt8)) (n c B : Nat) (w : World) (hr : Rd w B A (rows Sc l)) (hn : n = l.length) (hnc : n ≤ c) (hB : B ≤ w.heap.size) :
  Calls Tryz.prog 120 #[.slice A n c, .func (.func 122) #[] #[]] w (LB Ac.cells w (eachT 9 decA l)) := by
 unfold eachT
 rw [← hn]
 by_cases h : n = 0 ∨ 4 < n
 ·
  rw [if_pos h]
  exact eachta_none A n c w h
 ·
  rw [if_neg h]
  exact eachta_some A l n c B w hr hn (by omega) (by omega) hnc hB
def vlen : Value → Nat
 | .slice _ n _ => n
 | _ => 0
theorem full_of {s : ByteArray} (h : ¬ s.size = 0) : s.toList.isEmpty = false := by
 rw [ByteArray.toList_eq]
 cases hl : s.data.toList with
 | nil => exact absurd (show s.size = 0 by rw [← sb_len, sb, hl]; rfl) h
 | cons _ _ => rfl
theorem empty_of {s : ByteArray} (h : s.size = 0) : s = ⟨#[]⟩ := by
 rcases s with ⟨d⟩
 have : d.size = 0 := h
 rw [Array.size_eq_zero_iff.1 this]
theorem pcs_nil (n k : Nat) : pcs n k [] = [] := by cases k <;> rfl
theorem pcs_step (n k : Nat) (s : ByteArray) (h : ¬ s.size = 0) (m : Nat) (hm : m = min n s.size) : pcs n (k + 1) (sb s) = sb (s.extract 0 m) :: pcs n k (sb (s.extract m s.size)) := by
 have hne : sb s ≠ [] := by intro e; have := sb_len s; rw [e] at this; simp at this; omega
 have hl := sb_len s
 rw [pcs, if_neg hne, sb_extract, sb_extract, Nat.sub_zero, List.drop_zero]
 have e1 : (sb s).take n = (sb s).take m := by
  rw [List.take_eq_take_iff]
  omega
 have e2 : ((sb s).drop m).take (s.size - m) = (sb s).drop n := by
  rw [List.take_of_length_le (by rw [List.length_drop]; omega)]
  by_cases h : n ≤ s.size
  ·
   congr 1; omega
  ·
   rw [List.drop_of_length_le (by omega), List.drop_of_length_le (by omega)]
 rw [e1, e2]
theorem pieces_any (s : ByteArray) (n : Nat) (w : World) (hn : 0 < n) (hn2 : n ≤ 64) (hs : s.size ≤ 140737488355328) :
  Calls Tryz.prog 121 #[.string s, .int .i64 (n : Int)] w fun e w' => ∃ A m c, e = .returned (.slice A m c) ∧ m = (pcs n 5 (sb s)).length ∧ m ≤ c ∧ Rd w' w'.heap.size A (rows Sc (pcs n 5 (sb s))) ∧ Below w.heap.size w w' := by
 obtain ⟨i0, hi, hz0, hz1, hz2⟩ := info_parts strInfo
 have HS := hid hs
 generalize hP : pcs n 5 (sb s) = P
 have HP0 := hid hP
 clear hP hs
 go_enter Tryz.func121, Tryz.ntmps121
 go_wp2_with fail
 go_loopw [0, 5] (fun sv l wr => ∃ (k : Nat) (ps : List (List UInt8)) (s' : ByteArray), k ≤ 5 ∧ sv = .string s' ∧ s'.size ≤ 140737488355328 ∧ wr.ownsRow w.heap.size 9 1 l k (rows Sc ps) ∧ Hid (P = ps ++ pcs n (5 - k) (sb s')) ∧ Below w.heap.size w wr) (fun _ l _ => 5 - vlen l)
 case atStart => exact ⟨0, [], s, by omega, rfl, HS.out, World.ownsRow_nil _ _ _ _, HP0.out.symm, Below.refl _ _⟩
 case round =>
  obtain ⟨k, ps, s', hk, rfl, hs', hown, HP, hbe⟩ := hrel
  have HBE := hid hbe
  have hsz := hbe.size
  obtain ⟨A, c, rfl, hkc, hlen, hrd⟩ := own_shape hown
  by_cases he : s'.size = 0
  ·
   obtain rfl := empty_of he
   have HRD := hid hrd
   have HF : Hid (P = ps) := hid (by rw [HP.out, show sb ⟨#[]⟩ = [] from rfl, pcs_nil, List.append_nil])
   have HL := hid hlen
   clear hown hrd hbe hlen
   go_wp2_with fail
   go_ret
   rw [HF.out]
   have hl2 := HL.out
   rw [rows_len Sc_len, Nat.mul_one] at hl2
   exact ⟨A, k, c, rfl, hl2.symm, hkc, HRD.out, HBE.out⟩
  ·
   have hne := full_of he
   by_cases h5 : k = 5
   ·
    subst h5
    have HRD := hid hrd
    have HF : Hid (P = ps) := hid (by rw [HP.out, Nat.sub_self]; simp [pcs])
    have HL := hid hlen
    clear hown hrd hbe hlen
    go_wp2_with fail
    go_ret
    rw [HF.out]
    have hl2 := HL.out
    rw [rows_len Sc_len, Nat.mul_one] at hl2
    exact ⟨A, 5, c, rfl, hl2.symm, hkc, HRD.out, HBE.out⟩
   ·
    have hk4 : (k : Int) ≤ 4 := by omega
    have hk5 : k < 5 := by omega
    have HNX := hid (fun m hm => pcs_step n (5 - (k + 1)) s' he m hm)
    have HOWN := hid hown
    clear hown hrd hbe hlen he
    by_cases hm : s'.size < n
    ·
     have hm2 : ¬ ((n : Int) ≤ (s'.size : Int)) := by omega
     have hNX := HNX.out s'.size (by omega)
     have HNX2 : Hid (P = (ps ++ [sb s']) ++ pcs n (5 - (k + 1)) (sb (⟨#[]⟩ : ByteArray))) := hid (by
      have e1 : s'.extract 0 s'.size = s' := by simp
      have e2 : s'.extract s'.size s'.size = ⟨#[]⟩ := empty_of (by simp)
      rw [HP.out, show 5 - k = 5 - (k + 1) + 1 by omega, hNX, e1, e2]
      simp)
     have HRW : Hid (rows Sc ps ++ [.string s'] = rows Sc (ps ++ [sb s'])) := hid (by rw [rows_app]; simp [rows, Sc, mk_sb])
     have HSZ : Hid (((⟨#[]⟩ : ByteArray) : ByteArray).size ≤ 140737488355328) := hid (by first | (rw [ByteArray.size_extract]; omega) | (show (0 : Nat) ≤ _; omega))
     clear hNX HNX HP
     go_wp2_with (refine wpl_append rfl (.tmp 18) (.tmp 22) 157 rfl w.heap.size 9 i0 _ 1 16 Tryz.underlying157 hi hz0 hz1 hz2 rfl (by omega) (.slice A k c) k _ rfl (HOWN.out.alloc _) (wr.heap.size + 1) (some ⟨wr.heap.size, 0, none⟩) 1 1 [.string s'] rfl ?_ ?_ ?_ ?_ ?_ ?_ ?_; intro v' w2 hown2 hb2 hg2; rw [HRW.out] at hown2; have HO2 := hid hown2; have HB2 := hid hb2; clear hown2 hb2 hg2)
     rotate_left
     ·
      refine hid fun _ => ⟨_, _, rfl, by omega, ?_⟩
      intro j u hu
      match j, hu with
      | 0, hu => simp at hu; subst hu; simp
     ·
      exact hid (by first | trivial | rfl)
     ·
      exact hid (by first | rfl | (intro u hu; simp at hu; subst hu; rfl))
     ·
      exact hid (le_maxLen (by omega))
     ·
      exact hid (by omega)
     ·
      exact hid (by first | omega | (simp; omega))
     go_roundw
     case rel => exact ⟨k + 1, ps ++ [sb s'], _, by omega, rfl, HSZ.out, HO2.out, HNX2, (HBE.out.alloc hsz _).trans HB2.out⟩
     case measure =>
      obtain ⟨A', c', rfl, -, -, -⟩ := own_shape HO2.out
      simp [vlen]
      omega
    ·
     have hm2 : (n : Int) ≤ (s'.size : Int) := by omega
     have hm3 : ¬ ((s'.size : Int) < (n : Int)) := by omega
     have hNX := HNX.out n (by omega)
     have HNX2 : Hid (P = (ps ++ [sb (s'.extract 0 n)]) ++ pcs n (5 - (k + 1)) (sb (s'.extract n s'.size))) := hid (by
      rw [HP.out, show 5 - k = 5 - (k + 1) + 1 by omega, hNX]
      simp)
     have HRW : Hid (rows Sc ps ++ [.string (s'.extract 0 n)] = rows Sc (ps ++ [sb (s'.extract 0 n)])) := hid (by rw [rows_app]; simp [rows, Sc, mk_sb])
     have HSZ : Hid (((s'.extract n s'.size) : ByteArray).size ≤ 140737488355328) := hid (by first | (rw [ByteArray.size_extract]; omega) | (show (0 : Nat) ≤ _; omega))
     clear hNX HNX HP
     go_wp2_with (refine wpl_append rfl (.tmp 18) (.tmp 22) 157 rfl w.heap.size 9 i0 _ 1 16 Tryz.underlying157 hi hz0 hz1 hz2 rfl (by omega) (.slice A k c) k _ rfl (HOWN.out.alloc _) (wr.heap.size + 1) (some ⟨wr.heap.size, 0, none⟩) 1 1 [.string (s'.extract 0 n)] rfl ?_ ?_ ?_ ?_ ?_ ?_ ?_; intro v' w2 hown2 hb2 hg2; rw [HRW.out] at hown2; have HO2 := hid hown2; have HB2 := hid hb2; clear hown2 hb2 hg2)
     rotate_left
     ·
      refine hid fun _ => ⟨_, _, rfl, by omega, ?_⟩
      intro j u hu
      match j, hu with
      | 0, hu => simp at hu; subst hu; simp
     ·
      exact hid (by first | trivial | rfl)
     ·
      exact hid (by first | rfl | (intro u hu; simp at hu; subst hu; rfl))
     ·
      exact hid (le_maxLen (by omega))
     ·
      exact hid (by omega)
     ·
      exact hid (by first | omega | (simp; omega))
     go_roundw
     case rel => exact ⟨k + 1, ps ++ [sb (s'.extract 0 n)], _, by omega, rfl, HSZ.out, HO2.out, HNX2, (HBE.out.alloc hsz _).trans HB2.out⟩
     case measure =>
      obtain ⟨A', c', rfl, -, -, -⟩ := own_shape HO2.out
      simp [vlen]
      omega
end Go.Proofs.YtgednnjmcjhfmaaGreatDoor
