/-
  strings.Join with nothing between.
-/
import Derived.Test.YtgednnjmcjhfmaaGreatDoorM01
import Derived.Test.YtgednnjmcjhfmaaGreatDoorProg
import Derived.Shelf.Strings.OnBuilder
namespace Go.Proofs.YtgednnjmcjhfmaaGreatDoor
open Go.RowKit
set_option maxRecDepth 100000
set_option maxHeartbeats 80000000
def joinRen : Go.Shelf.Ren := ⟨fun | 156 => 155 | 165 => 163 | 166 => 164 | 169 => 165 | 240 => 168 | 241 => 169 | 276 => 170 | 277 => 171 | n => n, fun | 0 => 0 | 3 => 3 | 4 => 4 | 5 => 5 | 9 => 9 | 20 => 20 | 31 => 157 | 37 => 85 | 70 => 202 | 72 => 204 | 75 => 207 | 76 => 208 | 80 => 60 | 127 => 147 | 164 => 212 | n => n, fun | n => n⟩
theorem joinLays : Lays.n156 Tryz.prog joinRen where
 mixed := by kernel_rfl
 f156 := Tryz.func155.trans (congrArg some (by kernel_rfl))
 f165 := Tryz.func163.trans (congrArg some (by kernel_rfl))
 f166 := Tryz.func164.trans (congrArg some (by kernel_rfl))
 f169 := Tryz.func165.trans (congrArg some (by kernel_rfl))
 f240 := Tryz.func168.trans (congrArg some (by kernel_rfl))
 f241 := Tryz.func169.trans (congrArg some (by kernel_rfl))
 f276 := Tryz.func170.trans (congrArg some (by kernel_rfl))
 f277 := Tryz.func171.trans (congrArg some (by kernel_rfl))
 t0 := Tryz.underlying0
 a0 := Tryz.isAgg0
 z0 := Tryz.sizeOf0
 v0 := Tryz.zeroValue0
 t3 := Tryz.underlying3
 a3 := Tryz.isAgg3
 z3 := Tryz.sizeOf3
 v3 := Tryz.zeroValue3
 t4 := Tryz.underlying4
 a4 := Tryz.isAgg4
 z4 := Tryz.sizeOf4
 v4 := Tryz.zeroValue4
 t9 := Tryz.underlying9
 a9 := Tryz.isAgg9
 z9 := Tryz.sizeOf9
 v9 := Tryz.zeroValue9
 t20 := Tryz.underlying20
 a20 := Tryz.isAgg20
 z20 := Tryz.sizeOf20
 v20 := Tryz.zeroValue20
 t31 := Tryz.underlying157
 a31 := Tryz.isAgg157
 z31 := Tryz.sizeOf157
 v31 := Tryz.zeroValue157
 t37 := Tryz.underlying85
 a37 := Tryz.isAgg85
 z37 := Tryz.sizeOf85
 v37 := Tryz.zeroValue85
 t70 := Tryz.underlying202
 a70 := Tryz.isAgg202
 z70 := Tryz.sizeOf202
 v70 := Tryz.zeroValue202
 t72 := Tryz.underlying204
 a72 := Tryz.isAgg204
 z72 := Tryz.sizeOf204
 v72 := Tryz.zeroValue204
 t75 := Tryz.underlying207
 a75 := Tryz.isAgg207
 z75 := Tryz.sizeOf207
 v75 := Tryz.zeroValue207
 t76 := Tryz.underlying208
 a76 := Tryz.isAgg208
 z76 := Tryz.sizeOf208
 v76 := Tryz.zeroValue208
 t127 := Tryz.underlying147
 a127 := Tryz.isAgg147
 z127 := Tryz.sizeOf147
 v127 := Tryz.zeroValue147
 t164 := Tryz.underlying212
 a164 := Tryz.isAgg212
 z164 := Tryz.sizeOf212
 v164 := Tryz.zeroValue212
theorem joinExtra : Builder.Extra Tryz.prog joinRen where
 sizeBuilder := by kernel_rfl
 liesBuilder := by kernel_rfl
 t5 := Tryz.underlying5
 a5 := Tryz.isAgg5
 z5 := Tryz.sizeOf5
 v5 := Tryz.zeroValue5
 infoByte := by kernel_rfl
 cellsByte := by kernel_rfl
 sizeByte := by kernel_rfl
 neB5 := by decide
theorem join_flat (l : List (List UInt8)) : Lib.join l [] = l.flatten := by
 unfold Lib.join
 induction l with
 | nil => rfl
 | cons a r ih =>
  cases r with
  | nil => simp [List.intercalate]
  | cons b r => simp [List.intercalate, List.intersperse] at ih ⊢; rw [ih]
/-- a list of texts, as cells -/
def tv (l : List (List UInt8)) : List Value := l.map fun s => .string ⟨s.toArray⟩
theorem tv_len (l : List (List UInt8)) : (tv l).length = l.length := by simp [tv]
theorem join_any (A : Option Addr) (l : List (List UInt8)) (n c B : Nat) (w : World) (hr : Rd w B A (tv l)) (hB : B ≤ w.heap.size) (hn : n = l.length) (hne : 0 < n) (hc : n ≤ c) (hlen : l.flatten.length ≤ 140737488355328) (hN : l.length ≤ 140737488355328) :
  Calls Tryz.prog 155 #[.slice A n c, .string ⟨#[]⟩] w fun e w' => e = .returned (.string ⟨l.flatten.toArray⟩) ∧ Below w.heap.size w w' := by
 subst hn
 obtain ⟨g, o, rfl, hg, hcell⟩ := hr (by intro e; have := tv_len l; rw [e] at this; simp at this; omega)
 have h := Any.strings_Join joinLays joinExtra g o c (l.map fun s => ⟨s.toArray⟩) ⟨#[]⟩ w (fun j x hx => by
  refine hcell j _ ?_
  simp only [tv, List.getElem?_map, Option.map_eq_some_iff] at hx ⊢
  obtain ⟨a, ha, rfl⟩ := hx
  exact ⟨a, ha, rfl⟩) (by omega) (by simpa using hN) (by simpa using hc)
 have e1 : (l.map fun s => (⟨s.toArray⟩ : ByteArray)).map (·.data.toList) = l := by simp [Function.comp_def]
 have e2 : (⟨#[]⟩ : ByteArray).data.toList = [] := rfl
 rw [e1, e2, join_flat, List.length_map] at h
 exact h hlen
end Go.Proofs.YtgednnjmcjhfmaaGreatDoor
