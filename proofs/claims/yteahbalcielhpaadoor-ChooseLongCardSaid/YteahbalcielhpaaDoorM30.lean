/-
  Lists of messages, of entries, of ints as a law's arguments.
-/
import Derived.Test.YteahbalcielhpaaDoorM21
import Derived.Test.YteahbalcielhpaaDoorM12
import Derived.Test.YteahbalcielhpaaDoorM08
namespace Go.Proofs.YteahbalcielhpaaDoor
open Go.ChangeShapes Go.WideShapes Go.ChangeAt Go.WideMaps Go.WideElems Go.RowKit
set_option maxRecDepth 100000

section
variable {H : Type} {enc : TypeId × Value → H} {W : World}
theorem open_msgs {v : Value} {d : DataW H} {ps : List MemPlace} {b0 : Nat} {r : Reach} (hval : Value.okWide Tryd.prog W r b0 22 v) (h : DataW.Trod enc Tryd.prog W 0 (fun _ => true) true 22 v d ps) :
    ∃ (A : Option Addr) (n c : Nat) (L : List LP), v = .slice A n c ∧ n = L.length ∧ n ≤ 9223372036854775807 ∧ n ≤ c ∧ (∀ x ∈ L, x.1.fits) ∧ Lm W W.heap.size A L := by
  obtain ⟨a0, len, cap, rfl⟩ := okWide_slice Tryd.underlying22 hval
  obtain ⟨fuel, hf⟩ := h
  have : Inhabited LP := ⟨(ms0, ⟨none, 0, none, 0⟩)⟩
  obtain ⟨A, l, c, XS, q, hl, h9, hc, hOK, hrd⟩ := open_rws lpC 33 (by omega) lpC_len (fun x => x.1.fits ∧ PlOk W W.heap.size x.1 x.2) 22 34 Tryd.underlying22 cellsMsE (fun _ _ _ hx => by
    obtain ⟨X, p, e, h1, h2⟩ := open_msgC hx
    exact ⟨(X, p), e, h1, h2⟩) hf
  exact ⟨A, l, c, XS, q, hl, h9, hc, fun x hx => (hOK x hx).1, hrd, fun x hx => (hOK x hx).2⟩
theorem open_ents18 {v : Value} {d : DataW H} {ps : List MemPlace} {b0 : Nat} {r : Reach} (hval : Value.okWide Tryd.prog W r b0 31 v) (h : DataW.Trod enc Tryd.prog W 0 (fun _ => true) true 31 v d ps) :
    ∃ (A : Option Addr) (n c : Nat) (L : List En), v = .slice A n c ∧ n = L.length ∧ n ≤ 9223372036854775807 ∧ n ≤ c ∧ (∀ e ∈ L, e.fits) ∧ Rd W W.heap.size A (rws (fun e : En => e.cells.toList) L) := by
  obtain ⟨a0, len, cap, rfl⟩ := okWide_slice Tryd.underlying31 hval
  obtain ⟨fuel, hf⟩ := h
  have : Inhabited En := ⟨en0⟩
  obtain ⟨A, l, c, XS, q, hl, h9, hc, hOK, hrd⟩ := open_rws (fun e : En => e.cells.toList) 9 (by omega) (fun _ => rfl) En.fits 31 30 Tryd.underlying31 cellsEnE (fun _ _ _ hx => open_entryC hx) hf
  exact ⟨A, l, c, XS, q, hl, h9, hc, hOK, hrd⟩
def inC (n : Int) : List Value := [.int .i64 n]
theorem open_ints18 {v : Value} {d : DataW H} {ps : List MemPlace} {b0 : Nat} {r : Reach} (hval : Value.okWide Tryd.prog W r b0 41 v) (h : DataW.Trod enc Tryd.prog W 0 (fun _ => true) true 41 v d ps) :
    ∃ (A : Option Addr) (n c : Nat) (L : List Int), v = .slice A n c ∧ n = L.length ∧ n ≤ 9223372036854775807 ∧ n ≤ c ∧ Rd W W.heap.size A (rws inC L) := by
  obtain ⟨a0, len, cap, rfl⟩ := okWide_slice Tryd.underlying41 hval
  obtain ⟨fuel, hf⟩ := h
  obtain ⟨A, l, c, XS, q, hl, h9, hc, _, hrd⟩ := open_rws inC 1 (by omega) (fun _ => rfl) (fun _ => True) 41 3 Tryd.underlying41 cellsIntE (fun _ cs x hx => by
    obtain ⟨z0, q0, _, _⟩ := DataW.trod_int Tryd.underlying3 hx
    exact ⟨z0, q0, trivial⟩) hf
  exact ⟨A, l, c, XS, q, hl, h9, hc, hrd⟩
end
end Go.Proofs.YteahbalcielhpaaDoor
