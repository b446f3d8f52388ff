/-
  What bytes are a ledger's, in plain words; the walk of package ledger's Unpack.
-/
import Derived.Test.YtdimlfjepliflaaGreatDoorD16
import Derived.Test.YtdimlfjepliflaaGreatDoorD15
import Derived.Test.YtdimlfjepliflaaGreatDoorD14
import Derived.Test.YtdimlfjepliflaaGreatDoorLiftX
import Derived.Test.YtdimlfjepliflaaGreatDoorEvX
import Derived.Test.YtdimlfjepliflaaGreatDoorWholepX
import Derived.Test.YtdimlfjepliflaaGreatDoorLgX
import Derived.Test.YtdimlfjepliflaaGreatDoorHubX
import Derived.Test.YtdimlfjepliflaaGreatDoorTkallX
namespace Go.Proofs.YtdimlfjepliflaaGreatDoor
open Go.RowKit
set_option maxRecDepth 10000

theorem unpS_wf (s : List UInt8) (h : okU s) : (unpS s).WF := by
  refine ⟨?_, ?_, ?_, ?_⟩
  · show (takA s).length ≤ 8
    unfold takA
    rw [firstk_len]
    exact h.1.2.1
  · show (takT _).length ≤ 16
    unfold takT
    rw [firstk_len]
    exact h.2.1.2.1
  · intro x hx
    obtain ⟨i, _, rfl⟩ := List.mem_map.1 hx
    exact decW_flat _
  · intro x hx
    obtain ⟨i, _, rfl⟩ := List.mem_map.1 hx
    exact decT_ok _
theorem takealla_any (s : ByteArray) (w : World) (hs : s.size ≤ 140737488355328) : Calls Tryz.prog 99 #[.string s, .int .i64 8, .int .i64 25, .func (.func 100) #[] #[]] w (TR 88 Ac.cells w (okT 8 25 (sb s)) (takA (sb s)) (rest1 25 (sb s))) := by
  have hl := sb_len s
  by_cases h0 : s.size = 0
  · exact (takealla_none s w h0).mono fun e w' h => ⟨fun h2 => by have := h2.1; omega, fun _ => h⟩
  · by_cases h1 : 8 < num0 (sb s)
    · exact (takealla_many s w (by omega) h1).mono fun e w' h => ⟨fun h2 => by have := h2.2.1; omega, fun _ => h⟩
    · exact (takealla_go s w (by omega) (by omega) hs).mono fun e w' h => ⟨fun h2 => h.1 (by rw [← hl]; exact h2.2.2), fun h2 => h.2 (fun h3 => h2 ⟨by omega, by omega, by rw [hl]; exact h3⟩)⟩
theorem takeallt_any (s : ByteArray) (w : World) (hs : s.size ≤ 140737488355328) : Calls Tryz.prog 101 #[.string s, .int .i64 16, .int .i64 32, .func (.func 102) #[] #[]] w (TR 90 Tr.cells w (okT 16 32 (sb s)) (takT (sb s)) (rest1 32 (sb s))) := by
  have hl := sb_len s
  by_cases h0 : s.size = 0
  · exact (takeallt_none s w h0).mono fun e w' h => ⟨fun h2 => by have := h2.1; omega, fun _ => h⟩
  · by_cases h1 : 16 < num0 (sb s)
    · exact (takeallt_many s w (by omega) h1).mono fun e w' h => ⟨fun h2 => by have := h2.2.1; omega, fun _ => h⟩
    · exact (takeallt_go s w (by omega) (by omega) hs).mono fun e w' h => ⟨fun h2 => h.1 (by rw [← hl]; exact h2.2.2), fun h2 => h.2 (fun h3 => h2 ⟨by omega, by omega, by rw [hl]; exact h3⟩)⟩
theorem own_of_row {w : World} {g e m n : Nat} {xs : List Value} (h : Row w g e xs) (hl : xs.length = n * m) (hn : n ≤ maxLen) : w.ownsRow 0 e m (.slice (some ⟨g, 0, none⟩) n n) n xs :=
  ⟨hl, .inr ⟨g, n, xs.toArray, rfl, Nat.zero_le _, h, Nat.le_refl _, hn, by simp [hl], by rw [← hl]; exact List.take_length⟩⟩
set_option maxHeartbeats 1000000 in
theorem unpack_yes (s : ByteArray) (w : World) (hs : s.size ≤ 140737488355328) (h : okU (sb s)) : Calls Tryz.prog 61 #[.string s] w (NG 123 w (unpS (sb s)) (fun p => .tuple #[.pointer (some ⟨p, 0, none⟩), .int .i64 0])) := by
  have HWF := hid (unpS_wf _ h)
  obtain ⟨h1, h2, h3⟩ := h
  have HA : Hid (Calls Tryz.prog 99 #[.string s, .int .i64 8, .int .i64 25, .func (.func 100) #[] #[]] w (TY 88 Ac.cells w (takA (sb s)) (rest1 25 (sb s)))) := hid ((takealla_any s w hs).mono fun e w' hh => hh.1 h1)
  have hr : (rest1 25 (sb s)).length ≤ 140737488355328 := by unfold rest1; rw [List.length_drop, sb_len]; omega
  unfold unpS at *
  generalize rest1 25 (sb s) = r at *
  have hT := fun W => takeallt_any ⟨r.toArray⟩ W (by rw [← sb_len, sb_mk]; exact hr)
  simp only [sb_mk] at hT
  rw [h3] at hT
  have HT : Hid (∀ W, Calls Tryz.prog 101 #[.string ⟨r.toArray⟩, .int .i64 16, .int .i64 32, .func (.func 102) #[] #[]] W fun e w' => ∃ g, e = .returned (.tuple #[.slice (some ⟨g, 0, none⟩) (takT r).length (takT r).length, .string ⟨#[]⟩, .bool true]) ∧ Row w' g 90 (rows Tr.cells (takT r)) ∧ W.heap.size ≤ g ∧ Below W.heap.size W w') := hid fun W => (hT W).mono fun e w' hh => hh.1 h2
  generalize takA (sb s) = l at *
  generalize takT r = m at *
  have HL := hid (rows_len (C := Ac.cells) Ac.len l)
  have HM := hid (rows_len (C := Tr.cells) Tr.len m)
  clear hT h1 h2 h3 hr hs
  go_enter Tryz.func61, Tryz.ntmps61
  go_wp2_with (first
    | (go_at_call 99; refine HA.out.mono ?_; rintro e w1 ⟨g1, rfl, hr1, hg1, hb1⟩; have HR1 := hid hr1; clear hr1)
    | (go_at_call 101; refine (HT.out _).mono ?_; rintro e w2 ⟨g2, rfl, hr2, hg2, hb2⟩; have HR2 := hid hr2; clear hr2))
  go_ret2
  have hla : l.length ≤ 8 := HWF.out.la
  have hlt : m.length ≤ 16 := HWF.out.lt
  have hq1 := (HR1.out.below hb2 HR1.out.lt).alloc (.cells #[.slice (some ⟨g1, 0, none⟩) l.length l.length, .slice (some ⟨g2, 0, none⟩) m.length m.length] 123)
  have hq2 := HR2.out.alloc (.cells #[.slice (some ⟨g1, 0, none⟩) l.length l.length, .slice (some ⟨g2, 0, none⟩) m.length m.length] 123)
  have hb12 := hb1.trans (hb2.mono hb1.size)
  refine ⟨w2.heap.size, _, rfl, ⟨_, _, rfl, ⟨Row.new w2 _ #[.slice (some ⟨g1, 0, none⟩) l.length l.length, .slice (some ⟨g2, 0, none⟩) m.length m.length], own_of_row hq1 HL.out (le_maxLen (by omega)), own_of_row hq2 HM.out (le_maxLen (by omega)), HWF.out, by decide⟩⟩, ?_, hb12.alloc hb12.size _⟩
  intro b hb
  have h1 := hb1.size
  have h2 := hb2.size
  rcases fpG_mem.1 hb with rfl | hb | hb
  · omega
  · simp [Value.ownBlock] at hb; omega
  · simp [Value.ownBlock] at hb; omega
/-! ### what was packed is unpacked -/
theorem num0_lay {α : Type} (f : α → List UInt8) (l : List α) (r : List UInt8) (h : l.length ≤ 255) : num0 (layL f l ++ r) = l.length := by
  simp only [num0, layL, List.cons_append, List.getD, List.getElem?_cons_zero, Option.getD_some, UInt8.toNat_ofNat']
  omega
theorem flatMap_len {α : Type} (f : α → List UInt8) (n : Nat) : ∀ l : List α, (∀ x ∈ l, (f x).length = n) → (l.flatMap f).length = n * l.length := by
  intro l
  induction l with
  | nil => intro _; rfl
  | cons x r ih =>
    intro hl
    rw [List.flatMap_cons, List.length_append, ih (fun y hy => hl y (by simp [hy])), hl x (by simp), List.length_cons, Nat.mul_add]
    omega
theorem piece_flat {α : Type} (f : α → List UInt8) (n : Nat) (l : List α) (r : List UInt8) (hl : ∀ x ∈ l, (f x).length = n) (i : Nat) (hi : i < l.length) : piece n (l.flatMap f ++ r) i = f l[i] := by
  have e : l = l.take i ++ l[i] :: l.drop (i + 1) := by rw [← List.drop_eq_getElem_cons hi, List.take_append_drop]
  have ht : ((l.take i).flatMap f).length = i * n := by
    rw [flatMap_len f n _ (fun x hx => hl x (List.mem_of_mem_take hx)), List.length_take, Nat.min_eq_left (by omega), Nat.mul_comm]
  unfold piece
  conv => lhs; rw [e]
  rw [List.flatMap_append, List.flatMap_cons, List.append_assoc, ← ht, List.drop_left, List.append_assoc, ← hl l[i] (List.getElem_mem hi), List.take_left]
theorem firstk_flat {α : Type} (f : α → List UInt8) (n : Nat) (d : List UInt8 → α) (l : List α) (r : List UInt8) (hl : ∀ x ∈ l, (f x).length = n) (hd : ∀ x ∈ l, d (f x) = x) : firstk n d (l.flatMap f ++ r) l.length = l := by
  apply List.ext_getElem
  · rw [firstk_len]
  · intro i h1 h2
    simp only [firstk, List.getElem_map, List.getElem_range]
    rw [piece_flat f n l r hl i h2, hd _ (List.getElem_mem h2)]
theorem decW_ac (x : Ac) (h : x.flat) : decW (acB x) = x := by
  have := decW_le x h.1 h.2
  unfold wholeS at this
  have hl : (wholeB x).1.length = 25 := acB_len x h
  rw [if_pos hl] at this
  exact (Prod.mk.inj this).1
theorem unpack_pack (S : Lg) (h : S.WF) : okU S.pack ∧ unpS S.pack = S := by
  have h8 := h.la
  have h16 := h.lt
  have n1 : num0 S.pack = S.A.length := num0_lay acB S.A _ (by omega)
  have fl := flatMap_len acB 25 S.A (fun x hx => acB_len x (h.oa x hx))
  have ft := flatMap_len trL 32 S.T (fun x _ => trL_len x)
  have hd : S.pack.drop 1 = S.A.flatMap acB ++ layL trL S.T := by simp [Lg.pack, layL]
  have hr : rest1 25 S.pack = layL trL S.T := by
    unfold rest1
    rw [n1, ← List.drop_drop, hd, ← fl, List.drop_left]
  have n2 : num0 (layL trL S.T) = S.T.length := by
    have := num0_lay trL S.T [] (by omega)
    rwa [List.append_nil] at this
  have hl := pack_len S h
  have hl2 : (layL trL S.T).length = 1 + 32 * S.T.length := by simp only [layL, List.length_cons, ft]; omega
  refine ⟨⟨⟨by omega, by rw [n1]; exact h8, by rw [n1]; omega⟩, ?_, ?_⟩, ?_⟩
  · rw [hr]
    exact ⟨by omega, by rw [n2]; exact h16, by rw [n2]; omega⟩
  · rw [hr]
    unfold rest1
    rw [n2]
    exact List.drop_of_length_le (by omega)
  · unfold unpS takA takT
    rw [hr, n1, n2, hd, firstk_flat acB 25 decW S.A _ (fun x hx => acB_len x (h.oa x hx)) (fun x hx => decW_ac x (h.oa x hx))]
    have e : (layL trL S.T).drop 1 = S.T.flatMap trL ++ [] := by simp [layL]
    rw [e, firstk_flat trL 32 decT S.T [] (fun x _ => trL_len x) (fun x hx => decT_le x (h.ot x hx))]
end Go.Proofs.YtdimlfjepliflaaGreatDoor
