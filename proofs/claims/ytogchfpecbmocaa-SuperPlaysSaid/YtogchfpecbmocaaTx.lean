/-
  Two disks side by side, and blocks apart from both: what each call leaves.
-/
import Derived.Test.YtogchfpecbmocaaRr
import Derived.Test.YtogchfpecbmocaaRwr
import Derived.Test.YtogchfpecbmocaaM19
namespace Go.Proofs.Ytogchfpecbmocaa
open Go.RowKit
set_option maxRecDepth 10000

/-- S lies at p and at q, both made since w0, the blocks G apart from both -/
def Tx (w0 w : World) (p gs q gl gm cl cm : Nat) (S T : Sp) (G : List Nat) : Prop :=
  ∃ vd vr, HasD w p gs vd S ∧ HasR w q gl gm cl cm vr T ∧ (∀ b ∈ fpD p gs vd, b ∉ fpR q gl gm vr) ∧ (∀ b ∈ fpD p gs vd, w0.heap.size ≤ b ∧ b ∉ G) ∧ (∀ b ∈ fpR q gl gm vr, w0.heap.size ≤ b ∧ b ∉ G) ∧ Below w0.heap.size w0 w ∧ (∀ g ∈ G, g < w.heap.size)
/-- what lies in G is as it was -/
def Ek (w w' : World) (G : List Nat) : Prop := ∀ g ∈ G, w'.heap[g]? = w.heap[g]?
section
variable {w0 w w' w'' : World} {p gs q gl gm cl cm : Nat} {S S' T T' : Sp} {G : List Nat}
theorem Ek.row {g : Nat} {e : TypeId} {cs : List Value} (h : Ek w w' G) (hr : Row w g e cs) (hg : g ∈ G) : Row w' g e cs := (h g hg).trans hr
theorem Tx.below (h : Tx w0 w p gs q gl gm cl cm S T G) : Below w0.heap.size w0 w := by
  obtain ⟨_, _, _, _, _, _, _, h, _⟩ := h
  exact h
theorem Tx.size (h : Tx w0 w p gs q gl gm cl cm S T G) : w0.heap.size ≤ w.heap.size := h.below.size
theorem Tx.lt (h : Tx w0 w p gs q gl gm cl cm S T G) : ∀ g ∈ G, g < w.heap.size := by
  obtain ⟨_, _, _, _, _, _, _, _, h⟩ := h
  exact h
/-- new memory -/
theorem Tx.new (h : Tx w0 w p gs q gl gm cl cm S T G) (hb : Below w.heap.size w w') : Tx w0 w' p gs q gl gm cl cm S T G ∧ Ek w w' G := by
  have hl := h.lt
  obtain ⟨vd, vr, h1, h2, h3, h4, h5, h6, h7⟩ := h
  exact ⟨⟨vd, vr, h1.below hb, h2.below hb, h3, h4, h5, h6.trans (hb.mono h6.size), fun g hg => Nat.lt_of_lt_of_le (h7 g hg) hb.size⟩, fun g hg => hb.block g (hl g hg)⟩
/-- one more block -/
theorem Tx.add (h : Tx w0 w p gs q gl gm cl cm S T G) {o : Obj} (hg : (w.alloc o).grownBy w' (some w.heap.size)) : Tx w0 w' p gs q gl gm cl cm S T (w.heap.size :: G) ∧ Ek w w' G := by
  have hb : Below w.heap.size w w' := ((Below.refl w.heap.size w).alloc (Nat.le_refl _) o).trans (below_grown hg (Nat.le_refl _) (by simp))
  obtain ⟨hn, hk⟩ := h.new hb
  obtain ⟨vd, vr, h1, h2, h3, h4, h5, h6, h7⟩ := h
  have hsz : w.heap.size < w'.heap.size := by have := hg.size; simp at this; omega
  refine ⟨⟨vd, vr, h1.below hb, h2.below hb, h3, fun b hb' => ⟨(h4 b hb').1, ?_⟩, fun b hb' => ⟨(h5 b hb').1, ?_⟩, h6.trans (hb.mono h6.size), fun g hg' => ?_⟩, hk⟩
  · have := h1.lt b hb'
    simp only [List.mem_cons, not_or]
    exact ⟨by omega, (h4 b hb').2⟩
  · have := h2.lt b hb'
    simp only [List.mem_cons, not_or]
    exact ⟨by omega, (h5 b hb').2⟩
  · rcases List.mem_cons.1 hg' with rfl | hg'
    · exact hsz
    · exact Nat.lt_of_lt_of_le (h7 g hg') hb.size
theorem Tx.none (h : Tx w0 w p gs q gl gm cl cm S T G) : Tx w0 w p gs q gl gm cl cm S T [] := by
  obtain ⟨vd, vr, h1, h2, h3, h4, h5, h6, h7⟩ := h
  exact ⟨vd, vr, h1, h2, h3, fun b hb => ⟨(h4 b hb).1, by simp⟩, fun b hb => ⟨(h5 b hb).1, by simp⟩, h6, by simp⟩
theorem Tx.drewN (h : Tx w0 w p gs q gl gm cl cm S T G) (n : Nat) : Tx w0 (w.drewN n) p gs q gl gm cl cm S T G := (h.new (w' := w.drewN n) ⟨rfl, rfl, rfl, Nat.le_refl _, fun _ _ => rfl⟩).1
theorem Tx.drew (h : Tx w0 w p gs q gl gm cl cm S T G) : Tx w0 w.drew p gs q gl gm cl cm S T G := h.drewN 1
/-- a call on the project's disk -/
theorem Tx.callD {P : Program} {f : FuncId} {args : Array Value} {x : Int} (h : Tx w0 w p gs q gl gm cl cm S T G) (H : ∀ vd, HasD w p gs vd S → Calls P f args w (DY w p gs vd S' x)) :
    Calls P f args w fun e w' => e = .returned (.int .i64 x) ∧ Tx w0 w' p gs q gl gm cl cm S' T G ∧ Ek w w' G := by
  obtain ⟨vd, vr, h1, h2, h3, h4, h5, h6, h7⟩ := h
  refine (H vd h1).mono ?_
  rintro e w' ⟨rfl, vd', k1, k2, k3⟩
  have hs := h6.size
  have hnew : ∀ b ∈ fpD p gs vd', b ∈ fpD p gs vd ∨ w.heap.size ≤ b := by
    intro b hb
    simp only [fpD, List.mem_cons, Option.mem_toList] at hb ⊢
    rcases hb with h | h | h
    · exact .inl (.inl h)
    · exact .inl (.inr (.inl h))
    · rcases k3 b h with h | h
      · exact .inl (.inr (.inr h))
      · exact .inr h
  refine ⟨rfl, ⟨vd', vr, k1, h2.fr k2 (fun b hb hn => h3 b hn hb), fun b hb => ?_, fun b hb => ?_, h5, h6.trans (k2.below (fun b hb => (h4 b hb).1) h6.size), fun g hg => Nat.lt_of_lt_of_le (h7 g hg) k2.size⟩, fun g hg => k2.block g (h7 g hg) (fun hn => (h4 g hn).2 hg)⟩
  · rcases hnew b hb with h | h
    · exact h3 b h
    · intro hr
      have := h2.lt b hr
      omega
  · rcases hnew b hb with h | h
    · exact h4 b h
    · exact ⟨by omega, fun hg => by have := h7 b hg; omega⟩
/-- a call on the answer's disk -/
theorem Tx.callR {P : Program} {f : FuncId} {args : Array Value} {x : Int} (h : Tx w0 w p gs q gl gm cl cm S T G) (H : ∀ vr, HasR w q gl gm cl cm vr T → Calls P f args w (RY w q gl gm cl cm vr T' x)) :
    Calls P f args w fun e w' => e = .returned (.int .i64 x) ∧ Tx w0 w' p gs q gl gm cl cm S T' G ∧ Ek w w' G := by
  obtain ⟨vd, vr, h1, h2, h3, h4, h5, h6, h7⟩ := h
  refine (H vr h2).mono ?_
  rintro e w' ⟨rfl, vr', k1, k2, k3⟩
  have hs := h6.size
  have hnew : ∀ b ∈ fpR q gl gm vr', b ∈ fpR q gl gm vr ∨ w.heap.size ≤ b := by
    intro b hb
    simp only [fpR, List.mem_cons, Option.mem_toList] at hb ⊢
    rcases hb with h | h | h | h
    · exact .inl (.inl h)
    · exact .inl (.inr (.inl h))
    · exact .inl (.inr (.inr (.inl h)))
    · rcases k3 b h with h | h
      · exact .inl (.inr (.inr (.inr h)))
      · exact .inr h
  refine ⟨rfl, ⟨vd, vr', h1.fr k2 (fun b hb hn => h3 b hb hn), k1, fun b hb hn => ?_, h4, fun b hb => ?_, h6.trans (k2.below (fun b hb => (h5 b hb).1) h6.size), fun g hg => Nat.lt_of_lt_of_le (h7 g hg) k2.size⟩, fun g hg => k2.block g (h7 g hg) (fun hn => (h5 g hn).2 hg)⟩
  · rcases hnew b hn with h | h
    · exact h3 b hb h
    · have := h1.lt b hb
      omega
  · rcases hnew b hb with h | h
    · exact h5 b h
    · exact ⟨by omega, fun hg => by have := h7 b hg; omega⟩
theorem Tx.hasD (h : Tx w0 w p gs q gl gm cl cm S T G) : ∃ vd, HasD w p gs vd S := by
  obtain ⟨vd, _, h1, _⟩ := h
  exact ⟨vd, h1⟩
theorem Tx.hasR (h : Tx w0 w p gs q gl gm cl cm S T G) : ∃ vr, HasR w q gl gm cl cm vr T := by
  obtain ⟨_, vr, _, h1, _⟩ := h
  exact ⟨vr, h1⟩
theorem Tx.gs_ge (h : Tx w0 w p gs q gl gm cl cm S T G) : w0.heap.size ≤ gs ∧ w0.heap.size ≤ gl ∧ w0.heap.size ≤ gm := by
  obtain ⟨vd, vr, _, _, _, h4, h5, _, _⟩ := h
  exact ⟨(h4 gs (by simp [fpD])).1, (h5 gl (by simp [fpR])).1, (h5 gm (by simp [fpR])).1⟩
/-- a call that only looks -/
theorem Tx.look {P : Program} {f : FuncId} {args : Array Value} {v : Value} (h : Tx w0 w p gs q gl gm cl cm S T G) (H : Calls P f args w fun e w' => e = .returned v ∧ Below w.heap.size w w') :
    Calls P f args w fun e w' => e = .returned v ∧ Tx w0 w' p gs q gl gm cl cm S T G ∧ Ek w w' G := H.mono fun _ _ hh => ⟨hh.1, (h.new hh.2).1, (h.new hh.2).2⟩
/-! the calls -/
theorem tx_read (h : Tx w0 w p gs q gl gm cl cm S T G) (hc : S.count ≤ 900000) {t : Su} {n : Nat} {x : Int} (hr : readU S = (t, n, x)) :
    Calls Try.prog 29 #[.pointer (some ⟨p, 0, none⟩)] w fun e w' => e = .returned (.tuple #[.agg t.cells, .int .i64 (n : Int), .int .i64 x]) ∧ Tx w0 w' p gs q gl gm cl cm S T G ∧ Ek w w' G := by
  obtain ⟨vd, h1⟩ := h.hasD
  refine h.look ?_
  have := sread_any p gs vd S w h1 (by omega)
  rw [hr] at this
  exact this
theorem tx_rread (h : Tx w0 w p gs q gl gm cl cm S T G) (hc : T.count ≤ 900000) {t : Su} {n : Nat} {x : Int} (hr : readU T = (t, n, x)) :
    Calls Try.prog 30 #[.pointer (some ⟨q, 0, none⟩)] w fun e w' => e = .returned (.tuple #[.agg t.cells, .int .i64 (n : Int), .int .i64 x]) ∧ Tx w0 w' p gs q gl gm cl cm S T G ∧ Ek w w' G := by
  obtain ⟨vr, h1⟩ := h.hasR
  refine h.look ?_
  have := rread_s q gl gm cl cm vr T w h1 hc
  rw [hr] at this
  exact this
theorem tx_write (h : Tx w0 w p gs q gl gm cl cm S T G) (hc : S.count ≤ 900000) (s : Su) (hf : s.fits) {x : Int} (hr : writeU S s = (S', x)) :
    Calls Try.prog 19 #[.pointer (some ⟨p, 0, none⟩), .agg s.cells] w fun e w' => e = .returned (.int .i64 x) ∧ Tx w0 w' p gs q gl gm cl cm S' T G ∧ Ek w w' G := h.callD fun vd h1 => by
  have := swrite_any p gs vd S s hf w h1 hc
  rw [hr] at this
  exact this
theorem tx_rwrite (h : Tx w0 w p gs q gl gm cl cm S T G) (hc : T.count ≤ 900000) (s : Su) (hf : s.fits) {x : Int} (hr : writeU T s = (T', x)) :
    Calls Try.prog 20 #[.pointer (some ⟨q, 0, none⟩), .agg s.cells] w fun e w' => e = .returned (.int .i64 x) ∧ Tx w0 w' p gs q gl gm cl cm S T' G ∧ Ek w w' G := h.callR fun vr h1 => by
  have := rwrite_s q gl gm cl cm vr T s hf w h1 hc
  rw [hr] at this
  exact this
end
end Go.Proofs.Ytogchfpecbmocaa
