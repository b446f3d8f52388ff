/-
  A law's own ledger, or two side by side; what stays true of a ledger that was played.
-/
import Derived.Test.YtdimlfjepliflaaGreatDoorD09
import Derived.Test.YtdimlfjepliflaaGreatDoorEvX
import Derived.Test.YtdimlfjepliflaaGreatDoorLgX
namespace Go.Proofs.YtdimlfjepliflaaGreatDoor
open Go.RowKit

section
variable {w0 w w' : World} {X p Y q : Nat} {S S' T T' : Lg} {P : Program} {f : FuncId} {args : Array Value} {v : Ending}
theorem Tk.swap (h : Tk w0 X p S Y q T w) : Tk w0 Y q T X p S w := by
  obtain ⟨fp, fq, h1, h2, h3, h4, h5, h6⟩ := h
  exact ⟨fq, fp, h2, h1, fun b hb hn => h3 b hn hb, h5, h4, h6⟩
theorem Tk.step1 {fp fq : List Nat} (h2 : Gk Y q T fq w) (h3 : ∀ b ∈ fp, b ∉ fq) (h4 : ∀ b ∈ fp, w0.heap.size ≤ b) (h5 : ∀ b ∈ fq, w0.heap.size ≤ b) (h6 : Below w0.heap.size w0 w) (h : Gw X p w fp S' w') : Tk w0 X p S' Y q T w' := by
  obtain ⟨fr, k1, k2, k3⟩ := h
  refine ⟨fr, fq, k1, h2.fr k2 (fun b hb hn => h3 b hn hb), ?_, ?_, h5, h6.trans (k2.below h4 h6.size)⟩
  · intro b hb hn
    rcases k3 b hb with h | h
    · exact h3 b h hn
    · have := h2.lt b hn; omega
  · intro b hb
    rcases k3 b hb with h | h
    · exact h4 b h
    · exact Nat.le_trans h6.size h
theorem Tk.call1 (h : Tk w0 X p S Y q T w) (H : ∀ fp, Gk X p S fp w → Calls P f args w fun e w' => e = v ∧ Gw X p w fp S' w') : Calls P f args w fun e w' => e = v ∧ Tk w0 X p S' Y q T w' := by
  obtain ⟨fp, fq, h1, h2, h3, h4, h5, h6⟩ := h
  exact (H fp h1).mono fun e w' hh => ⟨hh.1, Tk.step1 h2 h3 h4 h5 h6 hh.2⟩
theorem Tk.call2 (h : Tk w0 X p S Y q T w) (H : ∀ fp, Gk Y q T fp w → Calls P f args w fun e w' => e = v ∧ Gw Y q w fp T' w') : Calls P f args w fun e w' => e = v ∧ Tk w0 X p S Y q T' w' :=
  (h.swap.call1 H).mono fun _ _ hh => ⟨hh.1, hh.2.swap⟩
end

/-! ### what stays true -/
/-! ### what is asked again -/
end Go.Proofs.YtdimlfjepliflaaGreatDoor
