/-
  A machine with its mark in memory, of either make: what a call of it leaves alone; a law's own, and two of them apart.
-/
import Derived.Test.YtdimlfjepliflaaGreatDoorD22
import Derived.Test.YtdimlfjepliflaaGreatDoorD16
import Derived.Test.YtdimlfjepliflaaGreatDoorD10
import Derived.Test.YtdimlfjepliflaaGreatDoorLiftX
import Derived.Test.YtdimlfjepliflaaGreatDoorEvX
import Derived.Test.YtdimlfjepliflaaGreatDoorWholepX
import Derived.Test.YtdimlfjepliflaaGreatDoorLgX
import Derived.Test.YtdimlfjepliflaaGreatDoorHubX
import Derived.Test.YtdimlfjepliflaaGreatDoorSkX
import Derived.Test.YtdimlfjepliflaaGreatDoorSTtextX
import Derived.Test.YtdimlfjepliflaaGreatDoorTkallX
import Derived.Test.YtdimlfjepliflaaGreatDoorUnpkX
import Derived.Test.YtdimlfjepliflaaGreatDoorSTbX
import Derived.Test.YtdimlfjepliflaaGreatDoorEKdX
import Derived.Test.YtdimlfjepliflaaGreatDoorMMaX
namespace Go.Proofs.YtdimlfjepliflaaGreatDoor
open Go.RowKit
set_option maxRecDepth 10000

section
variable {X Y : K3} {p q : Nat} {S S' T T' : Ma} {fp fq : List Nat} {w w' w'' : World} {P : Program} {f : FuncId} {args : Array Value} {v : Ending}
end

section
variable {w0 w w' : World} {X Y : K3} {p q g : Nat} {S S' T T' : Ma} {G G' : List Nat} {P : Program} {f : FuncId} {args : Array Value} {v : Ending}
theorem Tg.swap (h : Tg w0 X p S Y q T G w) : Tg w0 Y q T X p S G w := by
  obtain ⟨fp, fq, h1, h2, h3, h4, h5, h6, h7⟩ := h
  exact ⟨fq, fp, h2, h1, fun b hb hn => h3 b hn hb, h5, h4, fun g hg => ⟨(h6 g hg).1, (h6 g hg).2.2, (h6 g hg).2.1⟩, h7⟩
theorem Tg.call1 (h : Tg w0 X p S Y q T G w) (H : ∀ fp, Hm X p S fp w → Calls P f args w fun e w' => e = v ∧ Hmw X p w fp S' w') : Calls P f args w fun e w' => e = v ∧ Tg w0 X p S' Y q T G w' ∧ Kg G w w' := by
  obtain ⟨fp, fq, h1, h2, h3, h4, h5, h6, h7⟩ := h
  refine (H fp h1).mono fun e w' hh => ⟨hh.1, ?_, ?_⟩
  · obtain ⟨fr, k1, k2, k3⟩ := hh.2
    refine ⟨fr, fq, k1, h2.fr k2 (fun b hb hn => h3 b hn hb), ?_, ?_, h5, ?_, h7.trans (k2.below h4 h7.size)⟩
    · intro b hb hn
      rcases k3 b hb with h | h
      · exact h3 b h hn
      · have := h2.lt b hn; omega
    · intro b hb
      rcases k3 b hb with h | h
      · exact h4 b h
      · exact Nat.le_trans h7.size h
    · intro g hg
      refine ⟨Nat.lt_of_lt_of_le (h6 g hg).1 k2.size, fun hq => ?_, (h6 g hg).2.2⟩
      rcases k3 g hq with h | h
      · exact (h6 g hg).2.1 h
      · have := (h6 g hg).1; omega
  · intro g hg
    exact hh.2.frame.block g (h6 g hg).1 (h6 g hg).2.1
theorem Tg.call2 (h : Tg w0 X p S Y q T G w) (H : ∀ fp, Hm Y q T fp w → Calls P f args w fun e w' => e = v ∧ Hmw Y q w fp T' w') : Calls P f args w fun e w' => e = v ∧ Tg w0 X p S Y q T' G w' ∧ Kg G w w' :=
  (h.swap.call1 H).mono fun _ _ hh => ⟨hh.1, hh.2.1.swap, hh.2.2⟩
end
/-! ### cells of a row: a struct at its beginning -/
end Go.Proofs.YtdimlfjepliflaaGreatDoor
