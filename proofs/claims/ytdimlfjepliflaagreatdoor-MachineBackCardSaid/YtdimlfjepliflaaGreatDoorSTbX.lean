/-
  A table in memory: its slice's cell, its sessions' cells; what a call leaves alone; a law's own table, or two.
-/
import Derived.Test.YtdimlfjepliflaaGreatDoorD11
import Derived.Test.YtdimlfjepliflaaGreatDoorLiftX
import Derived.Test.YtdimlfjepliflaaGreatDoorEvX
import Derived.Test.YtdimlfjepliflaaGreatDoorLgX
import Derived.Test.YtdimlfjepliflaaGreatDoorHubX
import Derived.Test.YtdimlfjepliflaaGreatDoorSTtextX
namespace Go.Proofs.YtdimlfjepliflaaGreatDoor
open Go.RowKit
set_option maxRecDepth 10000

section
variable {w w' w'' : World} {fp fq : List Nat}
end

section
variable {w w' : World} {X p : Nat} {v : Value} {T : List Ss} {fp : List Nat}
end

section
variable {w w' w'' : World} {X p : Nat} {S S' : List Ss} {fp fq : List Nat}
end

section
variable {w : World} {X p : Nat} {v : Value} {T : List Ss}
end

section
variable {w0 w w' : World} {X p Y q : Nat} {S S' T T' : List Ss} {P : Program} {f : FuncId} {args : Array Value} {v : Ending}
theorem Tk8.swap (h : Tk8 w0 X p S Y q T w) : Tk8 w0 Y q T X p S w := by
  obtain ⟨fp, fq, h1, h2, h3, h4, h5, h6⟩ := h
  exact ⟨fq, fp, h2, h1, fun b hb hn => h3 b hn hb, h5, h4, h6⟩
theorem Tk8.step1 {fp fq : List Nat} (h2 : Gk8 Y q T fq w) (h3 : ∀ b ∈ fp, b ∉ fq) (h4 : ∀ b ∈ fp, w0.heap.size ≤ b) (h5 : ∀ b ∈ fq, w0.heap.size ≤ b) (h6 : Below w0.heap.size w0 w) (h : Gw8 X p w fp S' w') : Tk8 w0 X p S' Y q T w' := by
  obtain ⟨fr, k1, k2, k3⟩ := h
  refine ⟨fr, fq, k1, h2.fr k2 (fun b hb hn => h3 b hn hb), ?_, ?_, h5, h6.trans (k2.below h4 h6.size)⟩
  · intro b hb hn
    rcases k3 b hb with h | h
    · exact h3 b h hn
    · have := h2.lt b hn; omega
  · intro b hb
    rcases k3 b hb with h | h
    · exact h4 b h
    · exact Nat.le_trans h6.size h
theorem Tk8.call1 (h : Tk8 w0 X p S Y q T w) (H : ∀ fp, Gk8 X p S fp w → Calls P f args w fun e w' => e = v ∧ Gw8 X p w fp S' w') : Calls P f args w fun e w' => e = v ∧ Tk8 w0 X p S' Y q T w' := by
  obtain ⟨fp, fq, h1, h2, h3, h4, h5, h6⟩ := h
  exact (H fp h1).mono fun e w' hh => ⟨hh.1, Tk8.step1 h2 h3 h4 h5 h6 hh.2⟩
theorem Tk8.call2 (h : Tk8 w0 X p S Y q T w) (H : ∀ fp, Gk8 Y q T fp w → Calls P f args w fun e w' => e = v ∧ Gw8 Y q w fp T' w') : Calls P f args w fun e w' => e = v ∧ Tk8 w0 X p S Y q T' w' :=
  (h.swap.call1 H).mono fun _ _ hh => ⟨hh.1, hh.2.swap⟩
end

section
variable {w0 w w' : World} {X p : Nat} {S S' : List Ss} {A : Option Addr} {xs : List Value}
end
end Go.Proofs.YtdimlfjepliflaaGreatDoor
