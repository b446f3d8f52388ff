/-
  strings.Join with nothing between.
-/
import Derived.Test.YtbofabmgfkploaaPre
import Derived.Test.YtbofabmgfkploaaProg
import Derived.Shelf.Strings.OnBuilder
namespace Go.Proofs.Ytbofabmgfkploaa
open Go.RowKit
set_option maxRecDepth 100000

def joinRen : Go.Shelf.Ren := ⟨fun | 156 => 88 | 165 => 98 | 166 => 99 | 169 => 100 | 240 => 107 | 241 => 108 | 276 => 109 | 277 => 110 | n => n, fun | 0 => 0 | 3 => 3 | 4 => 4 | 5 => 5 | 9 => 9 | 20 => 20 | 31 => 86 | 37 => 116 | 70 => 135 | 72 => 137 | 75 => 140 | 76 => 141 | 80 => 38 | 127 => 149 | 164 => 150 | n => n, fun | n => n⟩
theorem joinLays : Lays.n156 Try.prog joinRen where
  mixed := by kernel_rfl
  f156 := Try.func88.trans (congrArg some (by kernel_rfl))
  f165 := Try.func98.trans (congrArg some (by kernel_rfl))
  f166 := Try.func99.trans (congrArg some (by kernel_rfl))
  f169 := Try.func100.trans (congrArg some (by kernel_rfl))
  f240 := Try.func107.trans (congrArg some (by kernel_rfl))
  f241 := Try.func108.trans (congrArg some (by kernel_rfl))
  f276 := Try.func109.trans (congrArg some (by kernel_rfl))
  f277 := Try.func110.trans (congrArg some (by kernel_rfl))
  t0 := Try.underlying0
  a0 := Try.isAgg0
  z0 := Try.sizeOf0
  v0 := Try.zeroValue0
  t3 := Try.underlying3
  a3 := Try.isAgg3
  z3 := Try.sizeOf3
  v3 := Try.zeroValue3
  t4 := Try.underlying4
  a4 := Try.isAgg4
  z4 := Try.sizeOf4
  v4 := Try.zeroValue4
  t9 := Try.underlying9
  a9 := Try.isAgg9
  z9 := Try.sizeOf9
  v9 := Try.zeroValue9
  t20 := Try.underlying20
  a20 := Try.isAgg20
  z20 := Try.sizeOf20
  v20 := Try.zeroValue20
  t31 := Try.underlying86
  a31 := Try.isAgg86
  z31 := Try.sizeOf86
  v31 := Try.zeroValue86
  t37 := Try.underlying116
  a37 := Try.isAgg116
  z37 := Try.sizeOf116
  v37 := Try.zeroValue116
  t70 := Try.underlying135
  a70 := Try.isAgg135
  z70 := Try.sizeOf135
  v70 := Try.zeroValue135
  t72 := Try.underlying137
  a72 := Try.isAgg137
  z72 := Try.sizeOf137
  v72 := Try.zeroValue137
  t75 := Try.underlying140
  a75 := Try.isAgg140
  z75 := Try.sizeOf140
  v75 := Try.zeroValue140
  t76 := Try.underlying141
  a76 := Try.isAgg141
  z76 := Try.sizeOf141
  v76 := Try.zeroValue141
  t127 := Try.underlying149
  a127 := Try.isAgg149
  z127 := Try.sizeOf149
  v127 := Try.zeroValue149
  t164 := Try.underlying150
  a164 := Try.isAgg150
  z164 := Try.sizeOf150
  v164 := Try.zeroValue150
theorem joinExtra : Builder.Extra Try.prog joinRen where
  sizeBuilder := by kernel_rfl
  liesBuilder := by kernel_rfl
  t5 := Try.underlying5
  a5 := Try.isAgg5
  z5 := Try.sizeOf5
  v5 := Try.zeroValue5
  infoByte := by kernel_rfl
  cellsByte := by kernel_rfl
  sizeByte := by kernel_rfl
  neB5 := by decide

theorem join_flat (l : List (List UInt8)) : Lib.join l [] = l.flatten := by
  unfold Lib.join
  induction l with
  | nil => rfl
  | cons a r ih =>
    cases r with
    | nil => simp [List.intercalate]
    | cons b r => simp [List.intercalate, List.intersperse] at ih ⊢; rw [ih]

/-- a list of texts, as cells -/
def tv (l : List (List UInt8)) : List Value := l.map fun s => .string ⟨s.toArray⟩
theorem tv_len (l : List (List UInt8)) : (tv l).length = l.length := by simp [tv]

theorem join_any (A : Option Addr) (l : List (List UInt8)) (n c B : Nat) (w : World) (hr : Rd w B A (tv l)) (hB : B ≤ w.heap.size) (hn : n = l.length) (hne : 0 < n) (hc : n ≤ c) (hlen : l.flatten.length ≤ 140737488355328) (hN : l.length ≤ 140737488355328) :
    Calls Try.prog 88 #[.slice A n c, .string ⟨#[]⟩] w fun e w' => e = .returned (.string ⟨l.flatten.toArray⟩) ∧ Below w.heap.size w w' := by
  subst hn
  obtain ⟨g, o, rfl, hg, hcell⟩ := hr (by intro e; have := tv_len l; rw [e] at this; simp at this; omega)
  have h := Any.strings_Join joinLays joinExtra g o c (l.map fun s => ⟨s.toArray⟩) ⟨#[]⟩ w (fun j x hx => by
    refine hcell j _ ?_
    simp only [tv, List.getElem?_map, Option.map_eq_some_iff] at hx ⊢
    obtain ⟨a, ha, rfl⟩ := hx
    exact ⟨a, ha, rfl⟩) (by omega) (by simpa using hN) (by simpa using hc)
  have e1 : (l.map fun s => (⟨s.toArray⟩ : ByteArray)).map (·.data.toList) = l := by simp [Function.comp_def]
  have e2 : (⟨#[]⟩ : ByteArray).data.toList = [] := rfl
  rw [e1, e2, join_flat, List.length_map] at h
  exact h hlen
end Go.Proofs.Ytbofabmgfkploaa
