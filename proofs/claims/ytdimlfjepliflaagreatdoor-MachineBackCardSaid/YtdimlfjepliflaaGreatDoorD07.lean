/-
  strings.Join with nothing between.
-/
import Derived.Test.YtdimlfjepliflaaGreatDoorD01
import Derived.Test.YtdimlfjepliflaaGreatDoorProg
import Derived.Shelf.Strings.OnBuilder
namespace Go.Proofs.YtdimlfjepliflaaGreatDoor
open Go.RowKit
set_option maxRecDepth 100000

def joinRen : Go.Shelf.Ren := ⟨fun | 156 => 173 | 165 => 180 | 166 => 181 | 169 => 182 | 240 => 185 | 241 => 186 | 276 => 187 | 277 => 188 | n => n, fun | 0 => 0 | 3 => 3 | 4 => 4 | 5 => 5 | 9 => 9 | 20 => 20 | 31 => 194 | 37 => 93 | 70 => 226 | 72 => 228 | 75 => 231 | 76 => 232 | 80 => 60 | 127 => 175 | 164 => 236 | n => n, fun | n => n⟩
theorem joinLays : Lays.n156 Tryz.prog joinRen where
  mixed := by kernel_rfl
  f156 := Tryz.func173.trans (congrArg some (by kernel_rfl))
  f165 := Tryz.func180.trans (congrArg some (by kernel_rfl))
  f166 := Tryz.func181.trans (congrArg some (by kernel_rfl))
  f169 := Tryz.func182.trans (congrArg some (by kernel_rfl))
  f240 := Tryz.func185.trans (congrArg some (by kernel_rfl))
  f241 := Tryz.func186.trans (congrArg some (by kernel_rfl))
  f276 := Tryz.func187.trans (congrArg some (by kernel_rfl))
  f277 := Tryz.func188.trans (congrArg some (by kernel_rfl))
  t0 := Tryz.underlying0
  a0 := Tryz.isAgg0
  z0 := Tryz.sizeOf0
  v0 := Tryz.zeroValue0
  t3 := Tryz.underlying3
  a3 := Tryz.isAgg3
  z3 := Tryz.sizeOf3
  v3 := Tryz.zeroValue3
  t4 := Tryz.underlying4
  a4 := Tryz.isAgg4
  z4 := Tryz.sizeOf4
  v4 := Tryz.zeroValue4
  t9 := Tryz.underlying9
  a9 := Tryz.isAgg9
  z9 := Tryz.sizeOf9
  v9 := Tryz.zeroValue9
  t20 := Tryz.underlying20
  a20 := Tryz.isAgg20
  z20 := Tryz.sizeOf20
  v20 := Tryz.zeroValue20
  t31 := Tryz.underlying194
  a31 := Tryz.isAgg194
  z31 := Tryz.sizeOf194
  v31 := Tryz.zeroValue194
  t37 := Tryz.underlying93
  a37 := Tryz.isAgg93
  z37 := Tryz.sizeOf93
  v37 := Tryz.zeroValue93
  t70 := Tryz.underlying226
  a70 := Tryz.isAgg226
  z70 := Tryz.sizeOf226
  v70 := Tryz.zeroValue226
  t72 := Tryz.underlying228
  a72 := Tryz.isAgg228
  z72 := Tryz.sizeOf228
  v72 := Tryz.zeroValue228
  t75 := Tryz.underlying231
  a75 := Tryz.isAgg231
  z75 := Tryz.sizeOf231
  v75 := Tryz.zeroValue231
  t76 := Tryz.underlying232
  a76 := Tryz.isAgg232
  z76 := Tryz.sizeOf232
  v76 := Tryz.zeroValue232
  t127 := Tryz.underlying175
  a127 := Tryz.isAgg175
  z127 := Tryz.sizeOf175
  v127 := Tryz.zeroValue175
  t164 := Tryz.underlying236
  a164 := Tryz.isAgg236
  z164 := Tryz.sizeOf236
  v164 := Tryz.zeroValue236
theorem joinExtra : Builder.Extra Tryz.prog joinRen where
  sizeBuilder := by kernel_rfl
  liesBuilder := by kernel_rfl
  t5 := Tryz.underlying5
  a5 := Tryz.isAgg5
  z5 := Tryz.sizeOf5
  v5 := Tryz.zeroValue5
  infoByte := by kernel_rfl
  cellsByte := by kernel_rfl
  sizeByte := by kernel_rfl
  neB5 := by decide
theorem join_flat (l : List (List UInt8)) : Lib.join l [] = l.flatten := by
  unfold Lib.join
  induction l with
  | nil => rfl
  | cons a r ih =>
    cases r with
    | nil => simp [List.intercalate]
    | cons b r => simp [List.intercalate, List.intersperse] at ih ⊢; rw [ih]
/-- a list of texts, as cells -/
def tv (l : List (List UInt8)) : List Value := l.map fun s => .string ⟨s.toArray⟩
theorem tv_len (l : List (List UInt8)) : (tv l).length = l.length := by simp [tv]
theorem join_any (A : Option Addr) (l : List (List UInt8)) (n c B : Nat) (w : World) (hr : Rd w B A (tv l)) (hB : B ≤ w.heap.size) (hn : n = l.length) (hne : 0 < n) (hc : n ≤ c) (hlen : l.flatten.length ≤ 140737488355328) (hN : l.length ≤ 140737488355328) :
    Calls Tryz.prog 173 #[.slice A n c, .string ⟨#[]⟩] w fun e w' => e = .returned (.string ⟨l.flatten.toArray⟩) ∧ Below w.heap.size w w' := by
  subst hn
  obtain ⟨g, o, rfl, hg, hcell⟩ := hr (by intro e; have := tv_len l; rw [e] at this; simp at this; omega)
  have h := Any.strings_Join joinLays joinExtra g o c (l.map fun s => ⟨s.toArray⟩) ⟨#[]⟩ w (fun j x hx => by
    refine hcell j _ ?_
    simp only [tv, List.getElem?_map, Option.map_eq_some_iff] at hx ⊢
    obtain ⟨a, ha, rfl⟩ := hx
    exact ⟨a, ha, rfl⟩) (by omega) (by simpa using hN) (by simpa using hc)
  have e1 : (l.map fun s => (⟨s.toArray⟩ : ByteArray)).map (·.data.toList) = l := by simp [Function.comp_def]
  have e2 : (⟨#[]⟩ : ByteArray).data.toList = [] := rfl
  rw [e1, e2, join_flat, List.length_map] at h
  exact h hlen
end Go.Proofs.YtdimlfjepliflaaGreatDoor
