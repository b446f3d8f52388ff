/-
  strings.Builder's WriteString and String, by the shelf.
-/
import Derived.Test.YthlapdijnfcekaaG10
import Derived.Shelf.Strings.BuilderK
import Derived.BigQuiet
import Derived.Deep.QuietTactic
import Derived.Test.YthlapdijnfcekaaG09
namespace Go.Proofs.Ythlapdijnfcekaa
open Go.RowKit Go.Shelf
set_option maxRecDepth 100000

def gblRen : Go.Shelf.Ren := ⟨fun | 166 => 34 | 169 => 35 | 240 => 47 | 276 => 54 | n => n, fun | 0 => 0 | 3 => 3 | 4 => 4 | 5 => 5 | 9 => 9 | 20 => 20 | 37 => 61 | 70 => 60 | 72 => 63 | 75 => 65 | 80 => 68 | 127 => 84 | 164 => 90 | n => n, fun | n => n⟩
theorem gblLays : Lays.n166 Try.prog gblRen where
  mixed := by kernel_rfl
  f166 := Try.func34.trans (congrArg some (by kernel_rfl))
  f240 := Try.func47.trans (congrArg some (by kernel_rfl))
  f276 := Try.func54.trans (congrArg some (by kernel_rfl))
  t0 := Try.underlying0
  a0 := Try.isAgg0
  z0 := Try.sizeOf0
  v0 := Try.zeroValue0
  t3 := Try.underlying3
  a3 := Try.isAgg3
  z3 := Try.sizeOf3
  v3 := Try.zeroValue3
  t4 := Try.underlying4
  a4 := Try.isAgg4
  z4 := Try.sizeOf4
  v4 := Try.zeroValue4
  t9 := Try.underlying9
  a9 := Try.isAgg9
  z9 := Try.sizeOf9
  v9 := Try.zeroValue9
  t20 := Try.underlying20
  a20 := Try.isAgg20
  z20 := Try.sizeOf20
  v20 := Try.zeroValue20
  t37 := Try.underlying61
  a37 := Try.isAgg61
  z37 := Try.sizeOf61
  v37 := Try.zeroValue61
  t70 := Try.underlying60
  a70 := Try.isAgg60
  z70 := Try.sizeOf60
  v70 := Try.zeroValue60
  t72 := Try.underlying63
  a72 := Try.isAgg63
  z72 := Try.sizeOf63
  v72 := Try.zeroValue63
  t75 := Try.underlying65
  a75 := Try.isAgg65
  z75 := Try.sizeOf65
  v75 := Try.zeroValue65
  t164 := Try.underlying90
  a164 := Try.isAgg90
  z164 := Try.sizeOf90
  v164 := Try.zeroValue90
theorem gblLays9 : Lays.n169 Try.prog gblRen where
  mixed := by kernel_rfl
  f169 := Try.func35.trans (congrArg some (by kernel_rfl))
  t0 := Try.underlying0
  a0 := Try.isAgg0
  z0 := Try.sizeOf0
  v0 := Try.zeroValue0
  t3 := Try.underlying3
  a3 := Try.isAgg3
  z3 := Try.sizeOf3
  v3 := Try.zeroValue3
  t9 := Try.underlying9
  a9 := Try.isAgg9
  z9 := Try.sizeOf9
  v9 := Try.zeroValue9
  t37 := Try.underlying61
  a37 := Try.isAgg61
  z37 := Try.sizeOf61
  v37 := Try.zeroValue61
  t70 := Try.underlying60
  a70 := Try.isAgg60
  z70 := Try.sizeOf60
  v70 := Try.zeroValue60
  t72 := Try.underlying63
  a72 := Try.isAgg63
  z72 := Try.sizeOf63
  v72 := Try.zeroValue63
  t127 := Try.underlying84
  a127 := Try.isAgg84
  z127 := Try.sizeOf84
  v127 := Try.zeroValue84
theorem gblExtra : Builder.Extra Try.prog gblRen where
  sizeBuilder := by kernel_rfl
  liesBuilder := by kernel_rfl
  t5 := Try.underlying5
  a5 := Try.isAgg5
  z5 := Try.sizeOf5
  v5 := Try.zeroValue5
  infoByte := by kernel_rfl
  cellsByte := by kernel_rfl
  sizeByte := by kernel_rfl
  neB5 := by decide
/-- a builder at b that holds l -/
def Bld (b : Nat) (l : List UInt8) (w : World) : Prop := Lib.IsBuilderF 63 5 b b (Lib.byteCells l) w
/-- what lies in no row of bytes and is not b is as it was -/
def Ok8 (b : Nat) (w w' : World) : Prop := Lib.OthersKept 5 (some b) w w'
theorem Ok8.row {b : Nat} {w w' : World} (h : Ok8 b w w') {g : Nat} {e : TypeId} {cs : List Value} (hr : Row w g e cs) (hg : g ≠ b) (he : e ≠ 5) : Row w' g e cs :=
  h g _ hr (by intro q; exact hg (Option.some.inj q)) (by intro c fz q; cases q; exact he rfl)
theorem bytes_app (l : List UInt8) (s : ByteArray) : Lib.byteCells l ++ Lib.strCells s = Lib.byteCells (l ++ sb s) := by
  simp [Lib.byteCells, Lib.strCells, sb]
theorem bytes_len (l : List UInt8) : (Lib.byteCells l).length = l.length := by simp [Lib.byteCells]
theorem Bld.new (w : World) : Bld w.heap.size [] (w.alloc (.cells #[.pointer none, .slice none 0 0] 63)) :=
  .inl ⟨Nat.le_refl _, .slice none 0 0, heap_alloc_new _ _, World.ownsRowF_nil _ _ _ _, by simp [Value.ownBlock]⟩
theorem bw_any {b : Nat} {l : List UInt8} {w : World} (h : Bld b l w) (s : ByteArray) (hl : l.length + s.size ≤ 1048576) (hb : b ≤ w.heap.size) :
    Calls Try.prog 34 #[.pointer (some ⟨b, 0, none⟩), .string s] w fun e w' => e = .returned (.tuple #[.int .i64 s.size, .nilIface]) ∧ Bld b (l ++ sb s) w' ∧ Below b w w' ∧ Ok8 b w w' := by
  refine (Any.Builder_WriteString_k gblLays gblExtra b b (Lib.byteCells l) s w h (by rw [bytes_len]; omega) hb).mono ?_
  rintro e w' ⟨rfl, h1, h2, h3⟩
  rw [bytes_app] at h1
  exact ⟨rfl, .inr h1, h2, h3⟩
theorem bs_any {b : Nat} {l : List UInt8} {w : World} (h : Bld b l w) (hb : b ≤ w.heap.size) :
    Calls Try.prog 35 #[.pointer (some ⟨b, 0, none⟩)] w fun e w' => e = .returned (.string ⟨l.toArray⟩) ∧ Below b w w' := by
  refine (Any.Builder_String_any_k gblLays9 gblExtra b b l w h hb).mono ?_
  rintro e w' ⟨rfl, _, h2, _⟩
  exact ⟨rfl, h2⟩
/-- where other memory is turned -/
theorem Bld.other {b : Nat} {l : List UInt8} {w w' : World} (h : Bld b l w) {row : Option Nat} (hg : w.grownBy w' row) (hr : ∀ g, row = some g → g ≠ b ∧ ∃ (cs : Array Value) (e : TypeId), w.heap[g]? = some (.cells cs e (0, 0)) ∧ e ≠ 5) : Bld b l w' := by
  have key : ∀ p, Lib.BuilderAtF 63 5 b b p (Lib.byteCells l) w → Lib.BuilderAtF 63 5 b b p (Lib.byteCells l) w' := fun p k => by
    have hlt := k.lt
    obtain ⟨hB, v, hb, hown, hne⟩ := k
    refine ⟨hB, v, (hg.block b hlt (fun q => (hr b q.symm).1 rfl)).trans hb, hown.kept hg ?_, hne⟩
    rcases hown.2 with ⟨e0, _⟩ | ⟨g, cap, cur, fz, e0, _, hgr, _⟩
    · left
      rw [e0]
      rfl
    · right
      rw [e0]
      intro q
      have q : some g = row := q
      obtain ⟨_, cs, e, h1, h2⟩ := hr g q.symm
      rw [hgr] at h1
      simp only [Option.some.injEq, Obj.cells.injEq] at h1
      exact h2 h1.2.1.symm
  exact h.elim (fun x => .inl (key _ x)) (fun x => .inr (key _ x))
end Go.Proofs.Ythlapdijnfcekaa
/-
  The walk of package grid's Load.
-/
namespace Go.Proofs.Ythlapdijnfcekaa
open Go.RowKit
set_option maxRecDepth 10000

/-- numbers, as cells -/
def nints (l : List Nat) : List Value := l.map fun (i : Nat) => .int .i64 (i : Int)
theorem nints_len (l : List Nat) : (nints l).length = l.length := by simp [nints]
/-- six sums, as cells -/
def sixL (sm : Nat → Int) : List Value := [.int .u64 (sm 0), .int .u64 (sm 1), .int .u64 (sm 2), .int .u64 (sm 3), .int .u64 (sm 4), .int .u64 (sm 5)]
theorem sixL_get (sm : Nat → Int) {k : Nat} (h : k < 6) : (sixL sm)[k]? = some (.int .u64 (sm k)) := by
  rcases (show k = 0 ∨ k = 1 ∨ k = 2 ∨ k = 3 ∨ k = 4 ∨ k = 5 by omega) with rfl | rfl | rfl | rfl | rfl | rfl <;> rfl
theorem infoI : (Try.prog.info? 3).map (fun i => (i.zero, i.size, i.bytes)) = some (some (.int .i64 0), 1, 8) := by kernel_rfl
theorem one_newsG (w : World) (a : Value) (e : TypeId) : ∀ j u, ([a] : List Value)[j]? = some u → (w.alloc (.cells #[a] e)).cell? ((⟨w.heap.size, 0, none⟩ : Addr).add j) = some u := by
  intro j u hu
  match j, hu with
  | 0, hu =>
    simp at hu
    subst hu
    exact (Row.new w e #[a]).at_ 0 _ rfl
/-- a list of numbers in new memory -/
def Ms (w w' : World) (v : Value) (l : List Nat) : Prop := (l = [] ∧ v = .slice none 0 0) ∨ ∃ g cap, v = .slice (some ⟨g, 0, none⟩) l.length cap ∧ l.length ≤ cap ∧ w.heap.size ≤ g ∧ g < w'.heap.size ∧ ∃ o, w'.heap[g]? = some o ∧ ∀ W : World, W.heap[g]? = some o → ∀ j u, (nints l)[j]? = some u → W.cell? ⟨g, j, none⟩ = some u
/-- in the middle of Load -/
structure LdI (w wr : World) (cs : List Value) (mv : Value) (A : List UInt8) (M : List Nat) : Prop where
  below : Below w.heap.size w wr
  sums : Row wr w.heap.size 29 cs
  bld : Bld (w.heap.size + 1) A wr
  mis : wr.ownsRow (w.heap.size + 2) 3 1 mv M.length (nints M)
section
variable {w wr w' : World} {cs : List Value} {mv : Value} {A : List UInt8} {M : List Nat}
theorem LdI.lt (h : LdI w wr cs mv A M) : w.heap.size + 1 < wr.heap.size := by
  rcases h.bld with k | k <;> exact k.lt
theorem LdI.new (h : LdI w wr cs mv A M) (hb : Below wr.heap.size wr w') : LdI w w' cs mv A M := by
  have hlt := h.lt
  have hg : wr.grownBy w' none := ⟨hb.os, hb.tape, hb.output, hb.size, fun k hk _ => hb.block k hk⟩
  exact ⟨h.below.trans (hb.mono h.below.size), h.sums.below hb h.sums.lt, h.bld.other hg (fun g q => by cases q), h.mis.kept hg (Classical.em _)⟩
theorem LdI.write (h : LdI w wr cs mv A M) {A' : List UInt8} (h1 : Bld (w.heap.size + 1) A' w') (h2 : Below (w.heap.size + 1) wr w') (h3 : Ok8 (w.heap.size + 1) wr w') : LdI w w' cs mv A' M := by
  refine ⟨h.below.trans (h2.mono (by omega)), h3.row h.sums (by omega) (by decide), h1, h.mis.1, ?_⟩
  rcases h.mis.2 with hn | ⟨g, cap, cur, e0, hb, hg, r⟩
  · exact .inl hn
  · exact .inr ⟨g, cap, cur, e0, hb, h3 g _ hg (by intro q; have := Option.some.inj q; omega) (by intro c fz q; injection q with _ q2; exact absurd q2 (by decide)), r⟩
/-- one number more -/
theorem LdI.more (h : LdI w wr cs mv A M) (k : Nat) {g cap : Nat} (ho : w'.ownsRow (w.heap.size + 2) 3 1 (.slice (some ⟨g, 0, none⟩) (M.length + 1) cap) (M.length + 1) (nints M ++ [.int .i64 (k : Int)])) (hg : (wr.alloc (.cells #[.int .i64 (k : Int)] 3)).grownBy w' mv.ownBlock) : LdI w w' cs (.slice (some ⟨g, 0, none⟩) (M.length + 1) cap) A (M ++ [k]) := by
  have hlt := h.lt
  have h0 := h.new (((Below.refl wr.heap.size wr).alloc (Nat.le_refl _) (.cells #[.int .i64 (k : Int)] 3)))
  have hml := h0.mis.lt
  have hrow : ∀ x, mv.ownBlock = some x → x ≠ w.heap.size + 1 ∧ ∃ (cs : Array Value) (e : TypeId), (wr.alloc (.cells #[.int .i64 (k : Int)] 3)).heap[x]? = some (.cells cs e (0, 0)) ∧ e ≠ 5 := fun x hx => by
    rcases h0.mis.2 with ⟨e0, _⟩ | ⟨g', cap', cur, e0, hb, hgr, _⟩
    · rw [e0] at hx
      cases hx
    · rw [e0] at hx
      have hx : some g' = some x := hx
      cases hx
      exact ⟨by omega, cur, _, hgr, by decide⟩
  refine ⟨h0.below.grown hg h0.below.size (fun x hx => by have := (hml x hx).1; omega), h0.sums.grown hg (fun q => ?_), h0.bld.other hg hrow, ?_⟩
  · have := (hml _ q.symm).1
    omega
  · rw [List.length_append]
    have e : nints (M ++ [k]) = nints M ++ [.int .i64 (k : Int)] := by simp [nints]
    rw [e]
    exact ho
theorem LdI.ms (h : LdI w wr cs mv A M) : Ms w wr mv M := by
  have hlt := h.mis.lt
  have hcl := fun {g : Nat} (hg : mv.ownBlock = some g) => h.mis.cells hg
  rcases h.mis.2 with ⟨e0, e1⟩ | ⟨g, cap, cur, e0, hb, hg, hcp, _⟩
  · have e2 : M = [] := List.length_eq_zero_iff.1 (by omega)
    exact .inl ⟨e2, e0⟩
  · subst e0
    have := hlt g rfl
    refine .inr ⟨g, cap, rfl, hcp, by omega, by omega, _, hg, fun W hW j u hu => ?_⟩
    have h1 := hcl (g := g) rfl j u hu
    rw [add_lit, Nat.zero_add] at h1
    rw [← h1]
    exact World.cell?_of_block (w := wr) (a := ⟨g, j, none⟩) (hW.trans hg.symm)
end
theorem loadA_one {ch : Nat → List UInt8 → Int} {K : Nat → Option (List UInt8)} {base size : Nat} {sums : Nat → Int} {k : Nat} {b : List UInt8} {ok : Bool} (h : blockK ch (K (base + k)) k (sums k) = (b, ok)) :
    loadA ch K base size sums (k + 1) = ((loadA ch K base size sums k).1 ++ b, if ok = false ∨ b.length ≠ wantG size k then (loadA ch K base size sums k).2 ++ [k] else (loadA ch K base size sums k).2) := by
  rw [loadA, h]
theorem block_len (ch : Nat → List UInt8 → Int) (o : Option (List UInt8)) (i : Nat) (sum : Int) : (blockK ch o i sum).1.length ≤ 320 := by
  unfold blockK
  split
  · simp
  · split
    · simp
    · rename_i q
      exact Nat.le_of_not_lt fun w => q (.inl w)
theorem loadA_len (ch : Nat → List UInt8 → Int) (K : Nat → Option (List UInt8)) (base size : Nat) (sums : Nat → Int) : ∀ k, (loadA ch K base size sums k).1.length ≤ 320 * k ∧ (loadA ch K base size sums k).2.length ≤ k
  | 0 => ⟨Nat.le_refl _, Nat.le_refl _⟩
  | k + 1 => by
    obtain ⟨h1, h2⟩ := loadA_len ch K base size sums k
    have h3 := block_len ch (K (base + k)) k (sums k)
    rw [loadA]
    constructor
    · rw [List.length_append]
      omega
    · simp only
      split
      · rw [List.length_append]
        simp
        omega
      · omega
/-- what Load leaves -/
def LdC (w : World) (r : List UInt8 × List Nat) (e : Ending) (w' : World) : Prop := ∃ v, e = .returned (.tuple #[.string ⟨r.1.toArray⟩, v, .int .i64 0]) ∧ Ms w w' v r.2 ∧ Below w.heap.size w w'
set_option maxHeartbeats 4000000 in
theorem gload_any {w0 w : World} {p gs : Nat} {S : Sp} {G : List Nat} (h : Dd w0 w p gs S G) (hc : S.count ≤ 1000000) (a : Nat) (ha : a ≤ 1) {K : Nat → Option (List UInt8)} (hk : OnG S K) (hn : S.secs.length = 32) (size : Nat) (hs : size ≤ 1920) (sm : Nat → Int) :
    Calls Try.prog 13 #[.pointer (some ⟨p, 0, none⟩), .int .i64 (a : Int), .int .i64 (size : Int), .agg (sixL sm).toArray] w (LdC w (loadK chG K (20 + 6 * a) size sm)) := by
  obtain ⟨iI, hiI, hz0, hz1, hz2⟩ := info_parts infoI
  have HA := hid (fun W => isArea_yes a ha W)
  have HBk := hid (fun W => blocksOf_any size (by omega) W)
  have hm : cntG size ≤ 6 := by unfold cntG; omega
  have hcm : cntG size = (size + 319) / 320 := rfl
  have HBy : Hid (∀ W (k : Nat), k < cntG size → Calls Try.prog 33 #[.int .i64 (size : Int), .int .i64 (k : Int)] W fun e w' => e = .returned (.int .i64 (wantG size k : Int)) ∧ W = w') := hid fun W k q => bytesOf_any size k (by omega) (by omega) W
  have HBl : Hid (∀ W (k : Nat) (b : List UInt8) (ok : Bool), Below w.heap.size w W → k < 6 → blockK chG (K (20 + 6 * a + k)) k (sm k) = (b, ok) → Calls Try.prog 19 #[.pointer (some ⟨p, 0, none⟩), .int .i64 (a : Int), .int .i64 (k : Int), .int .u64 (sm k)] W fun e w' => e = .returned (.tuple #[.string ⟨b.toArray⟩, .bool ok, .int .i64 0]) ∧ Below W.heap.size W w') := hid fun W k b ok hW q e => by
    have h1 := gblock_any (h.new hW).1 hc a k ha q _ (readJ hk.cl (k := 20 + 6 * a + k) (by omega)) (sm k)
    rw [block_kc (hk.ks (20 + 6 * a + k) (by omega)), e] at h1
    exact h1
  have HLA : Hid (∀ k b ok, blockK chG (K (20 + 6 * a + k)) k (sm k) = (b, ok) → loadA chG K (20 + 6 * a) size sm (k + 1) = ((loadA chG K (20 + 6 * a) size sm k).1 ++ b, if ok = false ∨ b.length ≠ wantG size k then (loadA chG K (20 + 6 * a) size sm k).2 ++ [k] else (loadA chG K (20 + 6 * a) size sm k).2)) := hid fun k b ok e => loadA_one e
  have HLL : Hid (∀ k, (loadA chG K (20 + 6 * a) size sm k).1.length ≤ 320 * k ∧ (loadA chG K (20 + 6 * a) size sm k).2.length ≤ k) := hid (loadA_len _ _ _ _ _)
  have HLK0 : Hid ((loadA chG K (20 + 6 * a) size sm (cntG size)).2 = [] → loadK chG K (20 + 6 * a) size sm = ((loadA chG K (20 + 6 * a) size sm (cntG size)).1, [])) := hid fun q => by unfold loadK; rw [if_neg (by rw [q]; simp)]
  have HLK1 : Hid ((loadA chG K (20 + 6 * a) size sm (cntG size)).2 ≠ [] → loadK chG K (20 + 6 * a) size sm = ([], (loadA chG K (20 + 6 * a) size sm (cntG size)).2)) := hid fun q => by unfold loadK; rw [if_pos q]
  have HSM : Hid (∀ k, k < 6 → (sixL sm)[k]? = some (.int .u64 (sm k))) := hid fun k q => sixL_get sm q
  have hsl1 : ¬ (size : Int) < 0 := by omega
  have hsl2 : ¬ (1920 : Int) < (size : Int) := by omega
  have H0 : Hid (LdI w ((w.alloc (.cells (sixL sm).toArray 29)).alloc (.cells #[.pointer none, .slice none 0 0] 63)) (sixL sm) (.slice none 0 0) [] []) := hid ⟨((Below.refl _ _).alloc (Nat.le_refl _) _).alloc (by simp) _, (Row.new w 29 (sixL sm).toArray).alloc _, by have := Bld.new (w.alloc (.cells (sixL sm).toArray 29)); simpa using this, World.ownsRow_nil _ _ _ _⟩
  have HLA0 : Hid (loadA chG K (20 + 6 * a) size sm 0 = ([], [])) := hid rfl
  generalize hLK : loadK chG K (20 + 6 * a) size sm = R at *
  generalize hLA : loadA chG K (20 + 6 * a) size sm = LA at *
  generalize hSX : sixL sm = SX at *
  generalize hM : cntG size = m at *
  clear h hk hLK hLA hcm hSX hM
  go_enter Try.func13, Try.ntmps13
  go_wp2_with (first
    | (go_at_call 26; refine (HA.out _).mono ?_; rintro e w1 ⟨rfl, rfl⟩)
    | (go_at_call 23; refine (HBk.out _).mono ?_; rintro e w1 ⟨rfl, rfl⟩))
  go_loopw [12, 30] (fun mv i wr => ∃ k : Nat, k ≤ m ∧ i = .int .i64 (k : Int) ∧ LdI w wr SX mv (LA k).1 (LA k).2) (fun _ i _ => m - (intOf i).toNat)
  case atStart => exact ⟨0, Nat.zero_le _, rfl, by rw [HLA0.out]; exact H0.out⟩
  case round =>
    obtain ⟨k, hk, rfl, hld⟩ := hrel
    have HD := hid hld
    have hlt0 := hld.lt
    have hbl0 := hld.below.size
    clear hld
    by_cases hlt : k < m
    · have hli : (k : Int) < (m : Int) := by omega
      have h0k : (0 : Int) ≤ (k : Int) := by omega
      have hk6 : (k : Int) < 6 := by omega
      have hk6n : k < 6 := by omega
      have hc1 : wr.cell? ⟨w.heap.size, k, none⟩ = some (.int .u64 (sm k)) := (HD.out.sums.cell k).trans (HSM.out k (by omega))
      obtain ⟨b, ok, hbk⟩ : ∃ b ok, blockK chG (K (20 + 6 * a + k)) k (sm k) = (b, ok) := ⟨_, _, rfl⟩
      have HB := hid (HBl.out wr k b ok HD.out.below (by omega) hbk)
      have HBY := hid (fun W => HBy.out W k hlt)
      have hla := HLA.out k b ok hbk
      have HLA1 := hid hla
      have hbsz : (⟨b.toArray⟩ : ByteArray).size = b.length := by simp [ByteArray.size]
      have hbl : b.length ≤ 320 := by
        have := block_len chG (K (20 + 6 * a + k)) k (sm k)
        rw [hbk] at this
        exact this
      clear hla hbk
      have hlk := HLL.out k
      generalize hLk : LA k = L at *
      obtain ⟨A, M⟩ := L
      simp only at *
      have HONE : Hid (∀ u ∈ [Value.int .i64 (k : Int)], u.oneCell' = true) := hid (by intro u hu; simp at hu; subst hu; rfl)
      have hA := hlk.1
      have hM := hlk.2
      clear hlk hLk
      cases ok with
      | false =>
        have HE : Hid (LA (k + 1) = (A ++ b, M ++ [k])) := hid (by rw [HLA1.out, if_pos (.inl rfl)])
        clear HLA1
        go_wp2_with (first
          | (go_at_call 19; refine HB.out.mono ?_; rintro e w2 ⟨rfl, hb2⟩; have HD2 := hid (HD.out.new hb2); clear hb2)
          | (with_reducible refine wpList_append_lies _ rfl (.tmp 57) (.tmp 59) 22 rfl (w.heap.size + 2) 3 iI _ 1 8 Try.underlying22 hiI hz0 hz1 hz2 rfl (by decide) u12 M.length (nints M) rfl (HD2.out.mis.alloc _) ⟨w2.heap.size, 0, none⟩ 1 1 [.int .i64 (k : Int)] rfl rfl (one_newsG _ _ _) HONE.out (by decide) (le_maxLen (by omega)) (by omega) (by have := HD2.out.lt; simp; omega) (w2.heap.size + 1) (by simp) ?_; intro g cap w3 ho hg hat hlt3; have HD3 := hid (HD2.out.more k ho hg); clear ho hg hat hlt3)
          | (go_at_call 34; refine (bw_any HD3.out.bld ⟨b.toArray⟩ (by omega) (by have := HD3.out.lt; omega)).mono ?_; rintro e w4 ⟨rfl, h1, h2, h3⟩; rw [sb_mk] at h1; have HD4 := hid (HD3.out.write h1 h2 h3); clear h1 h2 h3))
        go_roundw
        case rel => exact ⟨k + 1, by omega, by go_num, by rw [HE.out]; exact HD4.out⟩
        case measure => simp [intOf]; omega
      | true =>
        by_cases hq : b.length = wantG size k
        · have HE : Hid (LA (k + 1) = (A ++ b, M)) := hid (by rw [HLA1.out, if_neg (fun q => q.elim (fun q => by cases q) (fun q => q hq))])
          have hq2 : (b.length : Int) = (wantG size k : Int) := by rw [hq]
          clear HLA1
          go_wp2_with (first
            | (go_at_call 19; refine HB.out.mono ?_; rintro e w2 ⟨rfl, hb2⟩; have HD2 := hid (HD.out.new hb2); clear hb2)
            | (go_at_call 33; refine (HBY.out _).mono ?_; rintro e w3 ⟨rfl, rfl⟩)
            | (go_at_call 34; refine (bw_any HD2.out.bld ⟨b.toArray⟩ (by omega) (by have := HD2.out.lt; omega)).mono ?_; rintro e w4 ⟨rfl, h1, h2, h3⟩; rw [sb_mk] at h1; have HD4 := hid (HD2.out.write h1 h2 h3); clear h1 h2 h3))
          go_roundw
          case rel => exact ⟨k + 1, by omega, by go_num, by rw [HE.out]; exact HD4.out⟩
          case measure => simp [intOf]; omega
        · have HE : Hid (LA (k + 1) = (A ++ b, M ++ [k])) := hid (by rw [HLA1.out, if_pos (.inr hq)])
          have hq2 : ((b.length : Int) != (wantG size k : Int)) = true := by simpa using (fun h => hq (by omega))
          clear HLA1
          go_wp2_with (first
            | (go_at_call 19; refine HB.out.mono ?_; rintro e w2 ⟨rfl, hb2⟩; have HD2 := hid (HD.out.new hb2); clear hb2)
            | (go_at_call 33; refine (HBY.out _).mono ?_; rintro e w3 ⟨rfl, rfl⟩)
            | (with_reducible refine wpList_append_lies _ rfl (.tmp 57) (.tmp 59) 22 rfl (w.heap.size + 2) 3 iI _ 1 8 Try.underlying22 hiI hz0 hz1 hz2 rfl (by decide) u12 M.length (nints M) rfl (HD2.out.mis.alloc _) ⟨w2.heap.size, 0, none⟩ 1 1 [.int .i64 (k : Int)] rfl rfl (one_newsG _ _ _) HONE.out (by decide) (le_maxLen (by omega)) (by omega) (by have := HD2.out.lt; simp; omega) (w2.heap.size + 1) (by simp) ?_; intro g cap w3 ho hg hat hlt3; have HD3 := hid (HD2.out.more k ho hg); clear ho hg hat hlt3)
            | (go_at_call 34; refine (bw_any HD3.out.bld ⟨b.toArray⟩ (by omega) (by have := HD3.out.lt; omega)).mono ?_; rintro e w4 ⟨rfl, h1, h2, h3⟩; rw [sb_mk] at h1; have HD4 := hid (HD3.out.write h1 h2 h3); clear h1 h2 h3))
          go_roundw
          case rel => exact ⟨k + 1, by omega, by go_num, by rw [HE.out]; exact HD4.out⟩
          case measure => simp [intOf]; omega
    · obtain rfl : k = m := by omega
      have hlk := HLL.out k
      generalize hLk : LA k = L at *
      obtain ⟨A, M⟩ := L
      simp only at *
      clear hLk HLA HLA0 HBl HBy
      by_cases hM : M = []
      · have HR := hid (HLK0.out hM)
        have hu : ∃ A0 cap, u12 = .slice A0 0 cap := by
          rcases HD.out.ms with ⟨_, e⟩ | ⟨g, cap, e, _⟩
          · exact ⟨_, _, e⟩
          · rw [hM] at e
            exact ⟨_, _, e⟩
        obtain ⟨A0, cap, rfl⟩ := hu
        clear HLK0 HLK1
        go_wp2_with (go_at_call 35; refine (bs_any HD.out.bld (by omega)).mono ?_; rintro e w2 ⟨rfl, h2⟩; have HB2 := hid (HD.out.below.trans (h2.mono (by omega))); clear h2)
        go_ret3
        exact ⟨.slice none 0 0, by rw [HR.out]; rfl, .inl ⟨by rw [HR.out], rfl⟩, HB2.out⟩
      · have HR := hid (HLK1.out hM)
        have HMS := hid HD.out.ms
        have hu : ∃ g cap, u12 = .slice (some ⟨g, 0, none⟩) M.length cap := by
          rcases HMS.out with ⟨e, _⟩ | ⟨g, cap, e, _⟩
          · exact absurd e hM
          · exact ⟨_, _, e⟩
        obtain ⟨g, cap, rfl⟩ := hu
        have hpos : (0 : Int) < (M.length : Int) := by have := List.length_pos_iff.2 hM; omega
        clear HLK0 HLK1
        go_wp2_with fail
        go_ret3
        exact ⟨_, by rw [HR.out]; rfl, by rw [HR.out]; exact HMS.out, HD.out.below⟩
end Go.Proofs.Ythlapdijnfcekaa
/-
  The walks of package grid's Sums, of the document's Count, Piece, Sums, of the laws' summed.
-/
namespace Go.Proofs.Ythlapdijnfcekaa
open Go.RowKit
set_option maxRecDepth 10000

theorem size6 : (Try.prog.info? 29).map (·.size) = some 6 := by kernel_rfl
theorem sixL_len (sm : Nat → Int) : (sixL sm).length = 6 := rfl
theorem six_one (sm : Nat → Int) : Hid ((sixL sm).toArray.all (·.oneCell') = true) := hid (by unfold sixL; simp [Value.oneCell'])
theorem six_congr {f g : Nat → Int} (h : ∀ i, i < 6 → f i = g i) : sixL f = sixL g := by
  unfold sixL
  rw [h 0 (by decide), h 1 (by decide), h 2 (by decide), h 3 (by decide), h 4 (by decide), h 5 (by decide)]
/-- the first k of the sums -/
def upK (sm : Nat → Int) (k : Nat) (i : Nat) : Int := if i < k then sm i else 0
theorem six_set (sm : Nat → Int) {k : Nat} (h : k < 6) : (sixL (upK sm k)).set k (.int .u64 (sm k)) = sixL (upK sm (k + 1)) := by
  rcases (show k = 0 ∨ k = 1 ∨ k = 2 ∨ k = 3 ∨ k = 4 ∨ k = 5 by omega) with rfl | rfl | rfl | rfl | rfl | rfl <;> rfl
theorem six_zero (sm : Nat → Int) : sixL (upK sm 0) = sixL (fun _ => 0) := rfl
theorem six_all (s : List UInt8) : sixL (upK (fun i => chG i (pieceG s i)) (cntG s.length)) = sixL (sumG chG s) := six_congr fun _ _ => rfl
set_option maxHeartbeats 4000000 in
theorem gsums_any (s : ByteArray) (hs : s.size ≤ 1920) (w : World) :
    Calls Try.prog 8 #[.string s] w (VE w (.tuple #[.agg (sixL (sumG chG (sb s))).toArray, .int .i64 0])) := by
  have HZ6 := hid size6
  have HBk := hid (fun W => blocksOf_any s.size (by omega) W)
  have hm : cntG s.size ≤ 6 := by unfold cntG; omega
  have HPc : Hid (∀ W (k : Nat), k < cntG s.size → Calls Try.prog 25 #[.string s, .int .i64 (k : Int)] W fun e w' => e = .returned (.string ⟨(pieceG (sb s) k).toArray⟩) ∧ W = w') := hid fun W k hk => piece_any s k (by omega) hk W
  have HSu : Hid (∀ W (k : Nat), k < 6 → Calls Try.prog 24 #[.int .i64 (k : Int), .string ⟨(pieceG (sb s) k).toArray⟩] W (VE W (.int .u64 (chG k (pieceG (sb s) k))))) := hid fun W k hk => by
    have hsz : (⟨(pieceG (sb s) k).toArray⟩ : ByteArray).size = (pieceG (sb s) k).length := by simp [ByteArray.size]
    have := sumOf_any k hk ⟨(pieceG (sb s) k).toArray⟩ (by rw [hsz]; exact Nat.le_trans (piece_le _ _) (by decide)) W
    rw [sb_mk] at this
    exact this
  have HAL := hid (six_all (sb s))
  rw [sb_len] at HAL
  have hsl : ¬ (1920 : Int) < (s.size : Int) := by omega
  generalize sixL (sumG chG (sb s)) = R at *
  generalize hsm : (fun i => chG i (pieceG (sb s) i)) = sm at *
  have HSM : Hid (∀ k, chG k (pieceG (sb s) k) = sm k) := hid fun k => by rw [← hsm]
  generalize pieceG (sb s) = B at *
  generalize cntG s.size = m at *
  have H0 : Hid (Row ((w.alloc (.cells (sixL (fun _ => 0)).toArray 29)).alloc (.cells (sixL (fun _ => 0)).toArray 29)) w.heap.size 29 (sixL (fun _ => 0))) := hid ((Row.new _ _ _).alloc _)
  have H1 : Hid (Row ((w.alloc (.cells (sixL (fun _ => 0)).toArray 29)).alloc (.cells (sixL (fun _ => 0)).toArray 29)) (w.heap.size + 1) 29 (sixL (fun _ => 0))) := hid (alloc2_new _ _ _)
  have HB : Hid (Below w.heap.size w ((w.alloc (.cells (sixL (fun _ => 0)).toArray 29)).alloc (.cells (sixL (fun _ => 0)).toArray 29))) := hid (((Below.refl _ _).alloc (Nat.le_refl _) _).alloc (by simp) _)
  clear hsm hs
  go_enter Try.func8, Try.ntmps8
  go_wp2_with (go_at_call 23; refine (HBk.out _).mono ?_; rintro e w1 ⟨rfl, rfl⟩)
  go_loopw [13] (fun i wr => ∃ k : Nat, k ≤ m ∧ i = .int .i64 (k : Int) ∧ Row wr w.heap.size 29 (sixL (fun _ => 0)) ∧ Row wr (w.heap.size + 1) 29 (sixL (upK sm k)) ∧ Below w.heap.size w wr) (fun i _ => m - (intOf i).toNat)
  case atStart => exact ⟨0, Nat.zero_le _, rfl, H0.out, H1.out, HB.out⟩
  case round =>
    obtain ⟨k, hk, rfl, hr0, hr1, hbe⟩ := hrel
    have HR0 := hid hr0
    have HR1 := hid hr1
    have HBE := hid hbe
    have hlt1 := hr1.lt
    clear hr0 hr1 hbe
    by_cases hlt : k < m
    · have hli : (k : Int) < (m : Int) := by omega
      have h0k : (0 : Int) ≤ (k : Int) := by omega
      have hk6 : (k : Int) < 6 := by omega
      have HP := hid (HPc.out wr k hlt)
      have HS := hid (HSu.out wr k (by omega))
      have HST := hid (six_set sm (show k < 6 by omega))
      rw [HSM.out k] at HS
      go_wp2_with (first
        | (go_at_call 25; refine HP.out.mono ?_; rintro e w1 ⟨rfl, rfl⟩)
        | (go_at_call 24; refine HS.out.mono ?_; rintro e w2 ⟨rfl, hb2⟩; have r0 := hid (HR0.out.below hb2 (by omega)); have r1 := hid (HR1.out.below hb2 hlt1); have bb := hid (HBE.out.trans (hb2.mono HBE.out.size)); clear hb2)
        | (refine wpl_store_c rfl 28 (.tmp 22) (.tmp 21) rfl (w.heap.size + 1) k (.int .u64 (sm k)) rfl rfl r1.out sizeU64 ?_ (hid (by rw [sixL_len]; omega)) (hid rfl); intro w3 hr3 hg3; rw [HST.out] at hr3; have q1 := hid hr3; have q0 := hid (r0.out.grown hg3 (by simp)); have qb := hid (bb.out.trans (below_grown hg3 (by omega) bb.out.size)); clear hr3 hg3))
      go_roundw
      case rel => exact ⟨k + 1, by omega, by go_num, q0.out, q1.out, qb.out⟩
      case measure => simp [intOf]; omega
    · obtain rfl : k = m := by omega
      have hai := hid HAL.out
      go_wp2_with (first
        | (refine wpList_load_row rfl 29 (.tmp 4) rfl (w.heap.size + 1) rfl 29 (sixL (upK sm k)).toArray (0, 0) _ HR1.out.arr Try.underlying29 rfl HZ6.out ?_)
        | (refine wpl_store_st rfl (.tmp 2) (.tmp 24) rfl (n := 6) HZ6.out w.heap.size (sixL (fun _ => 0)).toArray (sixL (upK sm k)).toArray rfl rfl HR0.out ?_ (hid rfl) (hid rfl) (six_one _); intro w3 HR3 HB3))
      exact bodyPost_ret (v := .tuple #[.agg (sixL (upK sm k)).toArray, .int .i64 0]) (results_cell1 rfl _ _ w.heap.size 29 (sixL (upK sm k)).toArray (0, 0) _ (.int .i64 0) rfl rfl HR3.arr Try.underlying29 rfl HZ6.out) rfl
        ⟨by rw [hai.out], HBE.out.trans (below_grown HB3 (Nat.le_refl _) HBE.out.size)⟩
theorem gsums_long (s : ByteArray) (hs : 1920 < s.size) (w : World) :
    Calls Try.prog 8 #[.string s] w (VE w (.tuple #[.agg (sixL (fun _ => 0)).toArray, .int .i64 5])) := by
  have HZ6 := hid size6
  have hsl : (1920 : Int) < (s.size : Int) := by omega
  have H0 : Hid (Row ((w.alloc (.cells (sixL (fun _ => 0)).toArray 29)).alloc (.cells (sixL (fun _ => 0)).toArray 29)) w.heap.size 29 (sixL (fun _ => 0))) := hid ((Row.new _ _ _).alloc _)
  have H1 : Hid (Row ((w.alloc (.cells (sixL (fun _ => 0)).toArray 29)).alloc (.cells (sixL (fun _ => 0)).toArray 29)) (w.heap.size + 1) 29 (sixL (fun _ => 0))) := hid (alloc2_new _ _ _)
  have HB : Hid (Below w.heap.size w ((w.alloc (.cells (sixL (fun _ => 0)).toArray 29)).alloc (.cells (sixL (fun _ => 0)).toArray 29))) := hid (((Below.refl _ _).alloc (Nat.le_refl _) _).alloc (by simp) _)
  go_enter Try.func8, Try.ntmps8
  go_wp2_with (first
    | (refine wpList_load_row rfl 29 (.tmp 4) rfl (w.heap.size + 1) rfl 29 (sixL (fun _ => 0)).toArray (0, 0) _ H1.out.arr Try.underlying29 rfl HZ6.out ?_)
    | (refine wpl_store_st rfl (.tmp 2) (.tmp 9) rfl (n := 6) HZ6.out w.heap.size (sixL (fun _ => 0)).toArray (sixL (fun _ => 0)).toArray rfl rfl H0.out ?_ (hid rfl) (hid rfl) (six_one _); intro w3 HR3 HB3))
  exact bodyPost_ret (v := .tuple #[.agg (sixL (fun _ => 0)).toArray, .int .i64 5]) (results_cell1 rfl _ _ w.heap.size 29 (sixL (fun _ => 0)).toArray (0, 0) _ (.int .i64 5) rfl rfl HR3.arr Try.underlying29 rfl HZ6.out) rfl
    ⟨rfl, HB.out.trans (below_grown HB3 (Nat.le_refl _) HB.out.size)⟩
end Go.Proofs.Ythlapdijnfcekaa
/-
  The walks of the document's Count, Piece, Sums, Same, of the laws' summed.
-/
namespace Go.Proofs.Ythlapdijnfcekaa
open Go.RowKit
set_option maxRecDepth 10000

theorem rcount_any (n : Nat) (h : n ≤ 1048576) (w : World) : Calls Try.prog 14 #[.int .i64 (n : Int)] w fun e w' => e = .returned (.int .i64 (cntG n : Int)) ∧ w = w' := by
  have e2 : IntKind.i64.wrap ((n : Int) + 319) = (n : Int) + 319 := w64 (by omega) (by omega)
  have e3 : ((n : Int) + 319).tdiv 320 = (cntG n : Int) := by rw [Int.tdiv_eq_ediv_of_nonneg (by omega)]; unfold cntG; omega
  have e4 : IntKind.i64.wrap (cntG n : Int) = (cntG n : Int) := w64 (by omega) (by unfold cntG; omega)
  go_enter Try.func14, Try.ntmps14
  go_wp2_with fail
  go_ret
  exact ⟨rfl, rfl⟩
theorem rpiece_any (s : ByteArray) (i : Nat) (hs : s.size ≤ 1048576) (hi : i < cntG s.size) (w : World) : Calls Try.prog 18 #[.string s, .int .i64 (i : Int)] w fun e w' => e = .returned (.string ⟨(pieceG (sb s) i).toArray⟩) ∧ w = w' := by
  have hc : cntG s.size = (s.size + 319) / 320 := rfl
  have e1 : IntKind.i64.wrap (320 * (i : Int)) = ((320 * i : Nat) : Int) := by rw [w64 (by omega) (by omega)]; omega
  have e2 : IntKind.i64.wrap (((320 * i : Nat) : Int) + 320) = ((320 * i + 320 : Nat) : Int) := by rw [w64 (by omega) (by omega)]; omega
  have HX := hid (extract_piece s i)
  by_cases hq : ((320 * i + 320 : Nat) : Int) > (s.size : Int)
  · rw [show 320 * i + min 320 (s.size - 320 * i) = s.size by omega] at HX
    go_enter Try.func18, Try.ntmps18
    go_wp2_with fail
    go_ret
    exact ⟨by rw [← HX.out]; rfl, rfl⟩
  · rw [show 320 * i + min 320 (s.size - 320 * i) = 320 * i + 320 by omega] at HX
    go_enter Try.func18, Try.ntmps18
    go_wp2_with fail
    go_ret
    exact ⟨by rw [← HX.out]; rfl, rfl⟩
set_option maxHeartbeats 4000000 in
theorem rsums_any (s : ByteArray) (hs : s.size ≤ 1920) (w : World) :
    Calls Try.prog 40 #[.string s] w (VE w (.tuple #[.agg (sixL (sumG chG (sb s))).toArray, .int .i64 0])) := by
  have HZ6 := hid size6
  have HBk := hid (fun W => rcount_any s.size (by omega) W)
  have hm : cntG s.size ≤ 6 := by unfold cntG; omega
  have HPc : Hid (∀ W (k : Nat), k < cntG s.size → Calls Try.prog 18 #[.string s, .int .i64 (k : Int)] W fun e w' => e = .returned (.string ⟨(pieceG (sb s) k).toArray⟩) ∧ W = w') := hid fun W k hk => rpiece_any s k (by omega) hk W
  have HSu : Hid (∀ W (k : Nat), k < 6 → Calls Try.prog 50 #[.int .u64 (k : Int), .string ⟨(pieceG (sb s) k).toArray⟩] W fun e w' => e = .returned (.int .u64 (chG k (pieceG (sb s) k))) ∧ W = w') := hid fun W k hk => by
    have hsz : (⟨(pieceG (sb s) k).toArray⟩ : ByteArray).size = (pieceG (sb s) k).length := by simp [ByteArray.size]
    have hpl := piece_le (sb s) k
    have h := rchain_calls (BitVec.ofNat 64 k) ⟨(pieceG (sb s) k).toArray⟩ W (by omega)
    rw [show ((BitVec.ofNat 64 k).toNat : Int) = (k : Int) by rw [BitVec.toNat_ofNat]; omega, sb_mk] at h
    exact h
  have HAL := hid (six_all (sb s))
  rw [sb_len] at HAL
  have hsl : ¬ (1920 : Int) < (s.size : Int) := by omega
  generalize sixL (sumG chG (sb s)) = R at *
  generalize hsm : (fun i => chG i (pieceG (sb s) i)) = sm at *
  have HSM : Hid (∀ k, chG k (pieceG (sb s) k) = sm k) := hid fun k => by rw [← hsm]
  generalize pieceG (sb s) = B at *
  generalize cntG s.size = m at *
  have H0 : Hid (Row ((w.alloc (.cells (sixL (fun _ => 0)).toArray 29)).alloc (.cells (sixL (fun _ => 0)).toArray 29)) w.heap.size 29 (sixL (fun _ => 0))) := hid ((Row.new _ _ _).alloc _)
  have H1 : Hid (Row ((w.alloc (.cells (sixL (fun _ => 0)).toArray 29)).alloc (.cells (sixL (fun _ => 0)).toArray 29)) (w.heap.size + 1) 29 (sixL (fun _ => 0))) := hid (alloc2_new _ _ _)
  have HB : Hid (Below w.heap.size w ((w.alloc (.cells (sixL (fun _ => 0)).toArray 29)).alloc (.cells (sixL (fun _ => 0)).toArray 29))) := hid (((Below.refl _ _).alloc (Nat.le_refl _) _).alloc (by simp) _)
  clear hsm hs
  go_enter Try.func40, Try.ntmps40
  go_wp2_with (first
    | (refine wpl_store_st rfl (.tmp 4) (.tmp 6) rfl (n := 6) HZ6.out (w.heap.size + 1) (sixL (fun _ => 0)).toArray (sixL (fun _ => 0)).toArray rfl rfl H1.out ?_ (hid rfl) (hid rfl) (six_one _); intro w0 HR0 HB0; have R1 := hid HR0; have R0 := hid (H0.out.grown HB0 (by simp)); have B0 := hid (HB.out.trans (below_grown HB0 (by omega) HB.out.size)); clear HR0 HB0)
    | (go_at_call 14; refine (HBk.out _).mono ?_; rintro e w1 ⟨rfl, rfl⟩))
  go_loopw [5] (fun i wr => ∃ k : Nat, k ≤ m ∧ i = .int .i64 (k : Int) ∧ Row wr w.heap.size 29 (sixL (fun _ => 0)) ∧ Row wr (w.heap.size + 1) 29 (sixL (upK sm k)) ∧ Below w.heap.size w wr) (fun i _ => m - (intOf i).toNat)
  case atStart => exact ⟨0, Nat.zero_le _, rfl, R0.out, R1.out, B0.out⟩
  case round =>
    obtain ⟨k, hk, rfl, hr0, hr1, hbe⟩ := hrel
    have HR0 := hid hr0
    have HR1 := hid hr1
    have HBE := hid hbe
    have hlt1 := hr1.lt
    have ek : IntKind.u64.wrap (k : Int) = (k : Int) := by rw [IntKind.wrap_u64]; omega
    clear hr0 hr1 hbe
    by_cases hlt : k < m
    · have hli : (k : Int) < (m : Int) := by omega
      have h0k : (0 : Int) ≤ (k : Int) := by omega
      have hk6 : (k : Int) < 6 := by omega
      have HP := hid (HPc.out wr k hlt)
      have HS := hid (HSu.out wr k (by omega))
      have HST := hid (six_set sm (show k < 6 by omega))
      rw [HSM.out k] at HS
      go_wp2_with (first
        | (go_at_call 14; refine (HBk.out _).mono ?_; rintro e w1 ⟨rfl, rfl⟩)
        | (go_at_call 18; refine HP.out.mono ?_; rintro e w1 ⟨rfl, rfl⟩)
        | (go_at_call 50; refine HS.out.mono ?_; rintro e w1 ⟨rfl, rfl⟩)
        | (refine wpl_store_c rfl 28 (.tmp 25) (.tmp 24) rfl (w.heap.size + 1) k (.int .u64 (sm k)) rfl rfl HR1.out sizeU64 ?_ (hid (by rw [sixL_len]; omega)) (hid rfl); intro w3 hr3 hg3; rw [HST.out] at hr3; have q1 := hid hr3; have q0 := hid (HR0.out.grown hg3 (by simp)); have qb := hid (HBE.out.trans (below_grown hg3 (by omega) HBE.out.size)); clear hr3 hg3))
      go_roundw
      case rel => exact ⟨k + 1, by omega, by go_num, q0.out, q1.out, qb.out⟩
      case measure => simp [intOf]; omega
    · obtain rfl : k = m := by omega
      have hai := hid HAL.out
      go_wp2_with (first
        | (go_at_call 14; refine (HBk.out _).mono ?_; rintro e w1 ⟨rfl, rfl⟩)
        | (refine wpList_load_row rfl 29 (.tmp 4) rfl (w.heap.size + 1) rfl 29 (sixL (upK sm k)).toArray (0, 0) _ HR1.out.arr Try.underlying29 rfl HZ6.out ?_)
        | (refine wpl_store_st rfl (.tmp 2) (.tmp 26) rfl (n := 6) HZ6.out w.heap.size (sixL (fun _ => 0)).toArray (sixL (upK sm k)).toArray rfl rfl HR0.out ?_ (hid rfl) (hid rfl) (six_one _); intro w3 HR3 HB3))
      exact bodyPost_ret (v := .tuple #[.agg (sixL (upK sm k)).toArray, .int .i64 0]) (results_cell1 rfl _ _ w.heap.size 29 (sixL (upK sm k)).toArray (0, 0) _ (.int .i64 0) rfl rfl HR3.arr Try.underlying29 rfl HZ6.out) rfl
        ⟨by rw [hai.out], HBE.out.trans (below_grown HB3 (Nat.le_refl _) HBE.out.size)⟩
set_option maxHeartbeats 1000000 in
theorem summed_any (s : ByteArray) (hs : s.size ≤ 1920) (w : World) :
    Calls Try.prog 20 #[.string s] w (VE w (.agg (sixL (sumG chG (sb s))).toArray)) := by
  have HZ6 := hid size6
  have HS := hid (fun W => rsums_any s hs W)
  generalize sumG chG (sb s) = sm at *
  have H0 : Hid (Row (w.alloc (.cells (sixL (fun _ => 0)).toArray 29)) w.heap.size 29 (sixL (fun _ => 0))) := hid (Row.new _ _ _)
  have HB : Hid (Below w.heap.size w (w.alloc (.cells (sixL (fun _ => 0)).toArray 29))) := hid ((Below.refl _ _).alloc (Nat.le_refl _) _)
  go_enter Try.func20, Try.ntmps20
  go_wp2_with (first
    | (go_at_call 40; refine (HS.out _).mono ?_; rintro e w1 ⟨rfl, hb1⟩; have R0 := hid (H0.out.below hb1 (by simp)); have B0 := hid (HB.out.trans (hb1.mono HB.out.size)); clear hb1)
    | (refine wpl_store_st rfl (.tmp 3) (.tmp 8) rfl (n := 6) HZ6.out w1.heap.size (sixL (fun _ => 0)).toArray (sixL sm).toArray rfl rfl (Row.new _ _ _) ?_ (hid rfl) (hid rfl) (six_one _); intro w2 HR2 HB2; have R2 := hid HR2; have hl := R0.out.lt; have Q0 := hid ((R0.out.alloc (.cells (sixL (fun _ => 0)).toArray 29)).grown HB2 (by intro q; have := Option.some.inj q; omega)); have BQ := hid ((B0.out.alloc B0.out.size (.cells (sixL (fun _ => 0)).toArray 29)).trans (below_grown HB2 B0.out.size (by have := B0.out.size; simp; omega))); clear HR2 HB2)
    | (refine wpList_load_row rfl 29 (.tmp 3) rfl w1.heap.size rfl 29 (sixL sm).toArray (0, 0) _ R2.out.arr Try.underlying29 rfl HZ6.out ?_)
    | (refine wpl_store_st rfl (.tmp 2) (.tmp 10) rfl (n := 6) HZ6.out w.heap.size (sixL (fun _ => 0)).toArray (sixL sm).toArray rfl rfl Q0.out ?_ (hid rfl) (hid rfl) (six_one _); intro w3 HR3 HB3))
  exact bodyPost_ret (v := .agg (sixL sm).toArray) (results_cell_row rfl _ _ w.heap.size 29 (sixL sm).toArray (0, 0) _ rfl HR3.arr Try.underlying29 rfl HZ6.out) rfl
    ⟨rfl, BQ.out.trans (below_grown HB3 (Nat.le_refl _) BQ.out.size)⟩
set_option maxHeartbeats 1000000 in
theorem gsame_any (A A' : Option Addr) (l : List Nat) (n c c' : Nat) (w : World) (hr : Rd w w.heap.size A (nints l)) (hr' : Rd w w.heap.size A' (nints l)) (hn : n = l.length) (hc : n ≤ c) (hc' : n ≤ c') (hb : n ≤ 1048576) :
    Calls Try.prog 16 #[.slice A n c, .slice A' n c'] w (VE w (.bool true)) := by
  by_cases h0 : n = 0
  · subst h0
    clear hr hr'
    go_enter Try.func16, Try.ntmps16
    go_wp2_with fail
    go_loop [5] (fun i => i = .int .i64 0) (fun _ => 0)
    case atStart => rfl
    case round =>
      obtain rfl := hrel
      go_wp2_with fail
      go_ret
      exact ⟨rfl, Below.refl _ _⟩
  have hlen := nints_len l
  obtain ⟨g, o, rfl, hg, hx⟩ := id hr (by intro e; rw [e] at hlen; simp at hlen; omega)
  obtain ⟨g', o', rfl, hg', hx'⟩ := id hr' (by intro e; rw [e] at hlen; simp at hlen; omega)
  clear hlen hr hr'
  have HX := hid hx
  have HX' := hid hx'
  have HN := hid hn
  clear hx hx' hn
  go_enter Try.func16, Try.ntmps16
  go_wp2_with fail
  go_loopw [5] (fun i wr => ∃ k : Nat, k ≤ n ∧ i = .int .i64 (k : Int) ∧ Below w.heap.size w wr) (fun i _ => n - (intOf i).toNat)
  case atStart => exact ⟨0, by omega, rfl, Below.refl _ _⟩
  case round =>
    obtain ⟨k, hk, rfl, hbe⟩ := hrel
    have HBE := hid hbe
    by_cases hlt : k < n
    · have hkl : k < l.length := by rw [← HN.out]; exact hlt
      have hy : (nints l)[k]? = some (.int .i64 (l[k] : Int)) := by simp [nints, hkl]
      have c1 : wr.cell? ⟨g, o + k, none⟩ = some (.int .i64 (l[k] : Int)) := (World.cell?_of_block (w := w) (a := ⟨g, o + k, none⟩) (hbe.block g hg)).trans (HX.out k _ hy)
      have c2 : wr.cell? ⟨g', o' + k, none⟩ = some (.int .i64 (l[k] : Int)) := (World.cell?_of_block (w := w) (a := ⟨g', o' + k, none⟩) (hbe.block g' hg')).trans (HX'.out k _ hy)
      generalize (l[k] : Int) = y at *
      have hi : (k : Int) < (n : Int) := by omega
      have h0k : (0 : Int) ≤ (k : Int) := by omega
      clear hbe hy
      go_wp2_with fail
      go_quiet (fail)
      go_wp2_with fail
      go_roundw
      case rel => exact ⟨k + 1, by omega, by go_num, HBE.out.trans ⟨rfl, rfl, rfl, Nat.le_refl _, fun _ _ => rfl⟩⟩
      case measure => simp [intOf]; omega
    · obtain rfl : k = n := by omega
      go_wp2_with fail
      go_ret
      exact ⟨rfl, HBE.out⟩
end Go.Proofs.Ythlapdijnfcekaa
/-
  The walks of the laws' text and awake.
-/
namespace Go.Proofs.Ythlapdijnfcekaa
open Go.RowKit
set_option maxRecDepth 10000

/-- the example's text -/
def exG : List UInt8 := (List.range 700).map fun i => UInt8.ofNat (1 + i / 7)
theorem exG_len : exG.length = 700 := by simp [exG]
theorem exG_get {k : Nat} (h : k < 700) : exG[k]? = some (UInt8.ofNat (1 + k / 7)) := by simp [exG, h]
theorem fill_ex {k : Nat} (h : k < 700) : (bvs (exG.take k) ++ List.replicate (700 - k) (Value.int .u8 0)).set k (.int .u8 (1 + (k : Int) / 7)) = bvs (exG.take (k + 1)) ++ List.replicate (700 - (k + 1)) (Value.int .u8 0) := by
  have hl : (bvs (exG.take k)).length = k := by rw [bvs_len, List.length_take, exG_len]; omega
  rw [List.set_append_right _ _ (by omega), hl, Nat.sub_self, show 700 - k = (700 - (k + 1)) + 1 by omega, List.replicate_succ, List.set_cons_zero, List.take_add_one, exG_get h]
  have e : (.int .u8 (1 + (k : Int) / 7) : Value) = bv (UInt8.ofNat (1 + k / 7)) := by
    unfold bv
    congr 1
    rw [UInt8.toNat_ofNat']
    omega
  rw [e]
  simp [bvs, bv]
set_option maxHeartbeats 1000000 in
theorem text_any (w : World) : Calls Try.prog 21 #[.int .i64 700, .int .u8 1] w (VE w (.string ⟨exG.toArray⟩)) := by
  obtain ⟨i0, hi, hz0, hz1, hz2⟩ := info_parts infoU8
  have b1 : Hid ((700 : Int) = ((700 : Nat) : Int)) := hid rfl
  have b2 : Hid (i0.bytes * 700 ≤ 281474976710656) := hid (by rw [hz2]; decide)
  have b3 : Hid (700 ≤ maxLen) := hid (le_maxLen (by decide))
  go_enter Try.func21, Try.ntmps21
  go_wp2_with (with_reducible refine wpl_make rfl (.tmp 7) (.tmp 7) 61 rfl 5 i0 (.int .u8 0) Try.underlying61 hi hz0 hz1 rfl .i64 .i64 700 700 700 rfl rfl ?_ b1 b1 b2 b3; intro g w1 hg hr hbe)
  have HG := hg
  clear hg
  go_loopw [6] (fun i wr => ∃ k : Nat, k ≤ 700 ∧ i = .int .i64 k ∧ Row wr g 5 (bvs (exG.take k) ++ List.replicate (700 - k) (Value.int .u8 0)) ∧ Below w.heap.size w wr) (fun i _ => 700 - (intOf i).toNat)
  case atStart => exact ⟨0, by omega, rfl, by simpa [bvs] using hr, hbe.mono (by have := HG.out; omega)⟩
  case round =>
    obtain ⟨k, hk, rfl, hr, hbe⟩ := hrel
    by_cases hlt : k < 700
    · obtain ⟨u, hu⟩ : ∃ u, (bvs (exG.take k) ++ List.replicate (700 - k) (Value.int .u8 0))[k]? = some u := ⟨_, List.getElem?_eq_getElem (by rw [List.length_append, bvs_len, List.length_take, exG_len, List.length_replicate]; omega)⟩
      have hc := hr.at_ k _ hu
      have hf := hr.frozen k
      have hst := hr.set_ k (.int .u8 (1 + (k : Int) / 7))
      rw [fill_ex hlt] at hst
      have HS := hid hst
      have HB := hid (hbe.setCell (p := ⟨g, k, none⟩) (by have := HG.out; simp; omega) (.int .u8 (1 + (k : Int) / 7)))
      have hb3 : (k : Int) < 700 := by omega
      have e1 : (k : Int).tdiv 7 = (k : Int) / 7 := Int.tdiv_eq_ediv_of_nonneg (by omega)
      have e2 : IntKind.i64.wrap ((k : Int) / 7) = (k : Int) / 7 := w64 (by omega) (by omega)
      have e3 : IntKind.u8.wrap ((k : Int) / 7) = (k : Int) / 7 := by rw [IntKind.wrap_u8]; omega
      have e4 : IntKind.u8.wrap (1 + (k : Int) / 7) = 1 + (k : Int) / 7 := by rw [IntKind.wrap_u8]; omega
      clear hst hr hbe hu
      go_wp2_with fail
      go_roundw
      case rel => exact ⟨k + 1, by omega, by go_num, HS.out, HB.out⟩
      case measure => simp [intOf]; omega
    · obtain rfl : k = 700 := by omega
      have HR : Hid (Rd wr wr.heap.size (some ⟨g, 0, none⟩) (bvs exG)) := hid (by
        have := hr.rd (B := wr.heap.size) hr.lt
        rw [List.take_of_length_le (by rw [exG_len]; exact Nat.le_refl _)] at this
        simpa using this)
      have HL : Hid (700 = exG.length) := hid exG_len.symm
      have HB := hid hbe
      clear hr hbe
      go_wp2_with (with_reducible refine wpl_str rfl (.tmp 22) 61 9 rfl 5 Try.underlying61 Try.underlying5 Try.underlying9 (some ⟨g, 0, none⟩) 700 700 rfl wr.heap.size exG ?_ HR HL)
      go_ret
      exact ⟨rfl, HB.out.trans ⟨rfl, rfl, rfl, Nat.le_refl _, fun _ _ => rfl⟩⟩
end Go.Proofs.Ythlapdijnfcekaa
/-
  The walk of the laws' awake; the laws' disk.
-/
namespace Go.Proofs.Ythlapdijnfcekaa
open Go.RowKit
set_option maxRecDepth 10000

theorem gnew_any (w : World) : Calls Try.prog 7 #[.int .i64 32] w fun e w' => ∃ p gs, e = .returned (.tuple #[.pointer (some ⟨p, 0, none⟩), .int .i64 0]) ∧ Dd w w' p gs (Sp.mk0 32) [] := (dk_new 32 w (by decide) (by decide)).mono (by
  rintro e w' ⟨p, gs, k1, k2⟩
  exact ⟨p, gs, k1, Dd.of_dk k2⟩)
theorem Ms.nil {w w' : World} {v : Value} (h : Ms w w' v []) : ∃ A cap, v = .slice A 0 cap := by
  rcases h with ⟨_, e⟩ | ⟨g, cap, e, _⟩
  · exact ⟨_, _, e⟩
  · exact ⟨_, _, e⟩
/-- a text that is written into a new disk -/
theorem first_g (s : List UInt8) (hs : s.length ≤ 1920) (a : Nat) (ha : a ≤ 1) : ∃ S', writeG (Sp.mk0 32) (pieceG s) (20 + 6 * a) (cntG s.length) = (S', 0) ∧ OnG S' (updG (fun _ => none) (pieceG s) (20 + 6 * a) (cntG s.length)) ∧ S'.secs.length = 32 ∧ S'.count = cntG s.length + 1 ∧ S'.left = 0 ∧ RotG S' (updG (fun _ => none) (pieceG s) (20 + 6 * a) (cntG s.length)) (20 + 6 * a) (cntG s.length) := by
  have hc := cnt_six hs
  have hl : (Sp.mk0 32).secs.length = 32 := by simp [Sp.mk0]
  rcases write_cl (B := pieceG s) (m := cntG s.length) (begin_g 32) (base := 20 + 6 * a) (by omega) (fun i _ => Nat.le_trans (piece_le s i) (by decide)) with ⟨S', e, h, h1, h2, h3, _, h5⟩ | ⟨S', _, _, hne, _⟩
  · refine ⟨S', e, h, by omega, ?_, ?_, ⟨h, fun i hi => ?_⟩⟩
    · rw [h2]
      show 0 + cntG s.length + 1 = _
      omega
    · rw [h3]
      show 0 - cntG s.length - 1 = 0
      omega
    · rw [upd_in _ _ hi]
      exact h5 i hi
  · exact absurd rfl hne
theorem ex_sum : (chG 2 (pieceG exG 2) != 0) = true := by decide +kernel
set_option maxHeartbeats 4000000 in
theorem awakeG_any (w : World) : Calls Try.prog 6 #[] w (VE w (.bool true)) := by
  have HZ6 := hid size6
  have HN := hid (fun W => gnew_any W)
  have HT := hid (fun W => text_any W)
  obtain ⟨S1, e1, h1, hn1, hc1, _, _⟩ := first_g exG (by rw [exG_len]; decide) 1 (Nat.le_refl _)
  have hcn : cntG exG.length = 3 := by rw [exG_len]; rfl
  have hsz : (⟨exG.toArray⟩ : ByteArray).size = 700 := by simp [ByteArray.size, exG_len]
  have HW : Hid (∀ w0 W p gs, Dd w0 W p gs (Sp.mk0 32) [] → Calls Try.prog 9 #[.pointer (some ⟨p, 0, none⟩), .int .i64 1, .string ⟨exG.toArray⟩] W (DC w0 W p gs S1 [] (.int .i64 0))) := hid fun w0 W p gs hW => by
    have := gwrite_any hW (by simp [Sp.mk0]) 1 (Nat.le_refl _) ⟨exG.toArray⟩ (by omega)
    rw [sb_mk, hsz, ← exG_len, e1] at this
    exact this
  have HS : Hid (∀ W, Calls Try.prog 8 #[.string ⟨exG.toArray⟩] W (VE W (.tuple #[.agg (sixL (sumG chG exG)).toArray, .int .i64 0]))) := hid fun W => by
    have := gsums_any ⟨exG.toArray⟩ (by omega) W
    rw [sb_mk] at this
    exact this
  have HLd : Hid (∀ w0 W p gs, Dd w0 W p gs S1 [] → Calls Try.prog 13 #[.pointer (some ⟨p, 0, none⟩), .int .i64 1, .int .i64 700, .agg (sixL (sumG chG exG)).toArray] W fun e w' => ∃ A cap, e = .returned (.tuple #[.string ⟨exG.toArray⟩, .slice A 0 cap, .int .i64 0]) ∧ Below W.heap.size W w') := hid fun w0 W p gs hW => by
    have := gload_any hW (by rw [hc1, hcn]; decide) 1 (Nat.le_refl _) h1 hn1 700 (by decide) (sumG chG exG)
    have e2 : loadK chG (updG (fun _ => none) (pieceG exG) (20 + 6 * 1) (cntG exG.length)) (20 + 6 * 1) 700 (sumG chG exG) = (exG, []) := by
      have := load_all (ch := chG) (K := updG (fun _ => none) (pieceG exG) (20 + 6 * 1) (cntG exG.length)) (base := 20 + 6 * 1) (s := exG) (fun i hi => upd_in _ _ hi)
      rw [exG_len] at this ⊢
      exact this
    rw [e2] at this
    refine this.mono ?_
    rintro e w' ⟨v, rfl, hm, hb⟩
    obtain ⟨A, cap, rfl⟩ := hm.nil
    exact ⟨A, cap, rfl, hb⟩
  have HST : Hid (∀ w0 W p gs, Dd w0 W p gs S1 [] → Calls Try.prog 22 #[.pointer (some ⟨p, 0, none⟩)] W fun e w' => e = .returned (.int .i64 4) ∧ W = w') := hid fun w0 W p gs hW => by
    have := dd_steps hW
    rw [hc1, hcn] at this
    exact this
  have HC2 : Hid ((sixL (sumG chG exG))[2]? = some (.int .u64 (chG 2 (pieceG exG 2)))) := hid (by
    rw [sixL_get _ (by decide)]
    unfold sumG
    rw [if_pos (by rw [hcn]; decide)])
  have HC3 : Hid ((sixL (sumG chG exG))[3]? = some (.int .u64 0)) := hid (by
    rw [sixL_get _ (by decide)]
    unfold sumG
    rw [if_neg (by rw [hcn]; decide)])
  have hx := ex_sum
  generalize chG 2 (pieceG exG 2) = x2 at *
  generalize hsm : sumG chG exG = sm at *
  generalize (⟨exG.toArray⟩ : ByteArray) = T at *
  have H32 : Sp.mk0 32 = Sp.mk0 32 := rfl
  generalize Sp.mk0 32 = S0 at *
  have HX := hid hx
  clear hsm e1 h1 hn1 hc1 hcn hsz H32 hx
  go_enter Try.func6, Try.ntmps6
  have hx := HX.out
  go_wp2_with (first
    | (go_at_call 7; refine (HN.out _).mono ?_; rintro e w1 ⟨p, gs, rfl, hd⟩; have H1 := hid hd; have B1 := hid hd.below; clear hd)
    | (go_at_call 21; refine (HT.out _).mono ?_; rintro e w2 ⟨rfl, hb2⟩; have H2 := hid (H1.out.new hb2).1; clear hb2)
    | (go_at_call 9; refine (HW.out _ _ _ _ H2.out).mono ?_; rintro e w3 ⟨rfl, h3, _⟩; have H3 := hid h3; clear h3)
    | (go_at_call 8; refine (HS.out _).mono ?_; rintro e w4 ⟨rfl, hb4⟩; have H4 := hid (H3.out.new hb4).1; clear hb4)
    | (refine wpl_store_st rfl (.tmp 5) (.tmp 23) rfl (n := 6) HZ6.out w4.heap.size (sixL (fun _ => 0)).toArray (sixL sm).toArray rfl rfl (Row.new _ _ _) ?_ (hid rfl) (hid rfl) (six_one _); intro w5 HR5 HB5; have R5 := hid HR5; have hb5 := ((Below.refl w4.heap.size w4).alloc (Nat.le_refl _) (.cells (sixL (fun _ => 0)).toArray 29)).trans (below_grown HB5 (Nat.le_refl _) (by simp)); have H5 := hid (H4.out.new hb5).1; clear HR5 HB5 hb5)
    | (refine wpList_load_row rfl 29 (.tmp 5) rfl w4.heap.size rfl 29 (sixL sm).toArray (0, 0) _ R5.out.arr Try.underlying29 rfl HZ6.out ?_)
    | (go_at_call 13; refine (HLd.out _ _ _ _ H5.out).mono ?_; rintro e w6 ⟨A6, cap6, rfl, hb6⟩; have R6 := hid (R5.out.below hb6 R5.out.lt); have H6 := hid (H5.out.new hb6).1; clear hb6; have c2 := R6.out.at_ 2 _ HC2.out; have c3 := R6.out.at_ 3 _ HC3.out)
    | (go_at_call 22; refine (HST.out _ _ _ _ H6.out).mono ?_; rintro e w7 ⟨rfl, rfl⟩))
  go_ret
  exact ⟨rfl, H6.out.below⟩
end Go.Proofs.Ythlapdijnfcekaa
/-
  The walk of GridKeeps.
-/
namespace Go.Proofs.Ythlapdijnfcekaa
open Go.RowKit
set_option maxRecDepth 10000

theorem and_leG (n m : Int) (k : Nat) (hm : (BitVec.ofInt 64 m).toNat ≤ k) (hk : k ≤ 1000) : ∃ a : Nat, bits .and .i64 n m = (a : Int) ∧ a ≤ k := by
  have h1 : ((BitVec.ofInt 64 n) &&& (BitVec.ofInt 64 m)).toNat ≤ k := by
    rw [BitVec.toNat_and]
    exact Nat.le_trans Nat.and_le_right hm
  refine ⟨((BitVec.ofInt 64 n) &&& (BitVec.ofInt 64 m)).toNat, ?_, h1⟩
  show IntKind.i64.wrap (((BitVec.ofInt 64 n) &&& (BitVec.ofInt 64 m)).toNat : Int) = _
  rw [IntKind.wrap_i64]
  omega
theorem dd_startG {w0 w : World} {p gs : Nat} {S S' : Sp} {G : List Nat} (h : Dd w0 w p gs S G) (hc : S.count ≤ 1048576) (picks : List Int) (A : Option Addr) (l c D : Nat) (W0 : World) (hb0 : Below D W0 w0) (hD : D ≤ w0.heap.size) (hl : l = picks.length) (hrd : Rd W0 D A (ints picks)) (hp : ∀ x ∈ picks, x ≤ 9223372036854775807) (hpn : picks.length ≤ 9223372036854775807) {x : Int} (hr : S.start picks = (S', x)) :
    Calls Try.prog 12 #[.pointer (some ⟨p, 0, none⟩), .slice A l c] w (DC w0 w p gs S' G (.int .i64 x)) :=
  dd_start h hc picks A l c hl ((hrd.below hb0 (Nat.le_refl _)).more hD) hp hpn hr
/-- what was written is loaded, whatever is written beside it, wherever the power goes in that -/
theorem keeps_gl {ch : Nat → List UInt8 → Int} {S : Sp} {K : Nat → Option (List UInt8)} {s o : List UInt8} {base base' : Nat} (h : OnG S K) (hs : ∀ i, i < cntG s.length → K (base + i) = some (pieceG s i)) (ho : base' + cntG o.length ≤ S.secs.length) (hd : base + cntG s.length ≤ base' ∨ base' + cntG o.length ≤ base) :
    (∃ S' K', writeG S (pieceG o) base' (cntG o.length) = (S', 0) ∧ OnG S' K' ∧ loadK ch K' base s.length (sumG ch s) = (s, []) ∧ S'.secs.length = S.secs.length) ∨
    (∃ S', writeG S (pieceG o) base' (cntG o.length) = (S', 6) ∧ S'.on = false ∧ ∀ picks, ∃ S'' K', S'.start picks = (S'', 0) ∧ OnG S'' K' ∧ loadK ch K' base s.length (sumG ch s) = (s, []) ∧ S''.secs.length = S.secs.length) := by
  rcases write_cl (B := pieceG o) h ho (fun i _ => Nat.le_trans (piece_le o i) (by decide)) with ⟨S', e, h', hn, _⟩ | ⟨S', e, off, _, hp⟩
  · refine .inl ⟨S', _, e, h', load_all fun i hi => ?_, hn⟩
    unfold updG
    rw [if_neg (by omega)]
    exact hs i hi
  · refine .inr ⟨S', e, off, fun picks => ?_⟩
    obtain ⟨S'', K', e2, h2, hm, hn⟩ := hp picks
    refine ⟨S'', K', e2, h2, load_all fun i hi => ?_, hn⟩
    rcases hm (base + i) with q | ⟨q1, q2, _⟩
    · rw [q]
      exact hs i hi
    · omega
set_option maxHeartbeats 8000000 in
theorem keeps_lawG (s o : ByteArray) (ar fu : Int) (hfu : -9223372036854775808 ≤ fu ∧ fu ≤ 9223372036854775807) (A : Option Addr) (l cap : Nat) (picks : List Int) (w : World) (hl : l = picks.length) (hr : Rd w w.heap.size A (ints picks)) (hp : ∀ y ∈ picks, y ≤ 9223372036854775807) (hpn : l ≤ 9223372036854775807) :
    Calls Try.prog 3 #[.string s, .string o, .int .i64 ar, .int .i64 fu, .slice A l cap] w (VE w (.bool true)) := by
  subst hl
  have HZ6 := hid size6
  have HN := hid (fun W => gnew_any W)
  have HAW := hid (fun W => awakeG_any W)
  obtain ⟨a, ha, ha1⟩ := and_leG ar 1 1 (by decide) (by decide)
  by_cases hs : 2500 < s.size
  · have hsi : (2500 : Int) < (s.size : Int) := by omega
    clear hr hp
    go_enter Try.func3, Try.ntmps3
    go_wp2_with (first
      | (go_at_call 6; refine (HAW.out _).mono ?_; rintro e wa ⟨rfl, hba⟩; have BA := hid hba; clear hba)
      | (go_at_call 7; refine (HN.out _).mono ?_; rintro e w1 ⟨p, gs, rfl, hd⟩; have BB := hid (BA.out.trans (hd.below.mono BA.out.size)); clear hd))
    go_ret
    exact ⟨rfl, BB.out⟩
  have hsi : ¬ (2500 : Int) < (s.size : Int) := by omega
  by_cases ho : 2500 < o.size
  · have hoi : (2500 : Int) < (o.size : Int) := by omega
    clear hr hp
    go_enter Try.func3, Try.ntmps3
    go_wp2_with (first
      | (go_at_call 6; refine (HAW.out _).mono ?_; rintro e wa ⟨rfl, hba⟩; have BA := hid hba; clear hba)
      | (go_at_call 7; refine (HN.out _).mono ?_; rintro e w1 ⟨p, gs, rfl, hd⟩; have BB := hid (BA.out.trans (hd.below.mono BA.out.size)); clear hd))
    go_ret
    exact ⟨rfl, BB.out⟩
  have hoi : ¬ (2500 : Int) < (o.size : Int) := by omega
  by_cases hs9 : 1920 < s.size
  · have hs9i : (1920 : Int) < (s.size : Int) := by omega
    have HS := hid (fun W => gsums_long s hs9 W)
    have HWL : Hid (∀ w0 W p gs, Dd w0 W p gs (Sp.mk0 32) [] → Calls Try.prog 9 #[.pointer (some ⟨p, 0, none⟩), .int .i64 (a : Int), .string s] W (DC w0 W p gs (Sp.mk0 32) [] (.int .i64 5))) := hid fun w0 W p gs hW => gwrite_long hW a ha1 s hs9
    generalize Sp.mk0 32 = S0 at *
    clear hr hp
    go_enter Try.func3, Try.ntmps3
    go_wp2_with (first
      | (go_at_call 6; refine (HAW.out _).mono ?_; rintro e wa ⟨rfl, hba⟩; have BA := hid hba; clear hba)
      | (go_at_call 7; refine (HN.out _).mono ?_; rintro e w1 ⟨p, gs, rfl, hd⟩; have H1 := hid hd; clear hd)
      | (go_at_call 8; refine (HS.out _).mono ?_; rintro e w2 ⟨rfl, hb2⟩; have H2 := hid (H1.out.new hb2).1; clear hb2)
      | (refine wpl_store_st rfl (.tmp 13) (.tmp 39) rfl (n := 6) HZ6.out w2.heap.size (sixL (fun _ => 0)).toArray (sixL (fun _ => 0)).toArray rfl rfl (Row.new _ _ _) ?_ (hid rfl) (hid rfl) (six_one _); intro w5 HR5 HB5; have hb5 := ((Below.refl w2.heap.size w2).alloc (Nat.le_refl _) (.cells (sixL (fun _ => 0)).toArray 29)).trans (below_grown HB5 (Nat.le_refl _) (by simp)); have H5 := hid (H2.out.new hb5).1; clear HR5 HB5 hb5)
      | (go_at_call 9; refine (HWL.out _ _ _ _ H5.out).mono ?_; rintro e w6 ⟨rfl, h6, _⟩; have H6 := hid h6; clear h6))
    go_ret
    exact ⟨rfl, BA.out.trans (H6.out.below.mono BA.out.size)⟩
  have hs9i : ¬ (1920 : Int) < (s.size : Int) := by omega
  have HS := hid (fun W => gsums_any s (by omega) W)
  have hm6 := cnt_six (s := sb s) (by rw [sb_len]; omega)
  have hbase : a = 0 ∨ a = 1 := by omega
  obtain ⟨b, hb1, hab⟩ : ∃ b : Nat, b ≤ 1 ∧ a + b = 1 := ⟨1 - a, by omega, by omega⟩
  have hbi : IntKind.i64.wrap (1 - (a : Int)) = (b : Int) := by rw [w64 (by omega) (by omega)]; omega
  obtain ⟨S1, e1, h1, hn1, hc1, _, _⟩ := first_g (sb s) (by rw [sb_len]; omega) a ha1
  have HW1 : Hid (∀ (w0 W : World) (p gs : Nat) (G : List Nat), Dd w0 W p gs (Sp.mk0 32) G → Calls Try.prog 9 #[.pointer (some ⟨p, 0, none⟩), .int .i64 (a : Int), .string s] W (DC w0 W p gs S1 G (.int .i64 0))) := hid fun w0 W p gs G hW => by
    have h2 := gwrite_any hW (by simp [Sp.mk0]) a ha1 s (by omega)
    rw [← sb_len, e1] at h2
    exact h2
  have hk1 : ∀ i, i < cntG (sb s).length → updG (fun _ => none) (pieceG (sb s)) (20 + 6 * a) (cntG (sb s).length) (20 + 6 * a + i) = some (pieceG (sb s) i) := fun i hi => upd_in _ _ hi
  generalize updG (fun _ => none) (pieceG (sb s)) (20 + 6 * a) (cntG (sb s).length) = K1 at *
  obtain ⟨S2, e2, h2, hs2, _⟩ := fuse_g h1 fu
  have hc2 : S2.count = S1.count := by
    have := congrArg (fun r => r.1.count) e2
    rw [← this]
    unfold Sp.fuse
    split <;> rfl
  have HF : Hid (∀ (w0 W : World) (p gs : Nat) (G : List Nat), Dd w0 W p gs S1 G → Calls Try.prog 10 #[.pointer (some ⟨p, 0, none⟩), .int .i64 fu] W (DC w0 W p gs S2 G (.int .i64 0))) := hid fun w0 W p gs G hW => dd_fuse hW fu hfu.2 e2
  have hn2 : S2.secs.length = 32 := by rw [hs2, hn1]
  have hon2 : S2.on = true := h2.cl.on
  by_cases ho9 : 1920 < o.size
  · have HW2 : Hid (∀ (w0 W : World) (p gs : Nat) (G : List Nat), Dd w0 W p gs S2 G → Calls Try.prog 9 #[.pointer (some ⟨p, 0, none⟩), .int .i64 (b : Int), .string o] W (DC w0 W p gs S2 G (.int .i64 5))) := hid fun w0 W p gs G hW => gwrite_long hW b hb1 o ho9
    have HON : Hid (∀ (w0 W : World) (p gs : Nat) (G : List Nat), Dd w0 W p gs S2 G → Calls Try.prog 11 #[.pointer (some ⟨p, 0, none⟩)] W fun e w' => e = .returned (.bool true) ∧ W = w') := hid fun w0 W p gs G hW => by
      have := dd_on hW
      rw [hon2] at this
      exact this
    have HL : Hid (∀ (w0 W : World) (p gs : Nat) (G : List Nat), Dd w0 W p gs S2 G → Calls Try.prog 13 #[.pointer (some ⟨p, 0, none⟩), .int .i64 (a : Int), .int .i64 (s.size : Int), .agg (sixL (sumG chG (sb s))).toArray] W fun e w' => ∃ A cap, e = .returned (.tuple #[.string s, .slice A 0 cap, .int .i64 0]) ∧ Below W.heap.size W w') := hid fun w0 W p gs G hW => by
      have h1 := gload_any hW (by omega) a ha1 h2 hn2 s.size (by omega) (sumG chG (sb s))
      have e1 : loadK chG K1 (20 + 6 * a) s.size (sumG chG (sb s)) = (sb s, []) := by rw [← sb_len]; exact load_all hk1
      rw [e1] at h1
      refine h1.mono ?_
      rintro e w' ⟨v, rfl, hm, hb⟩
      obtain ⟨A, cap, rfl⟩ := hm.nil
      rw [mk_sb]
      exact ⟨A, cap, rfl, hb⟩
    generalize sumG chG (sb s) = sm at *
    generalize Sp.mk0 32 = S0 at *
    clear hr hp
    clear e1 h1 hn1 hc1 hk1 e2 h2 hs2 hc2 hn2 hon2 hm6 hbase hab
    go_enter Try.func3, Try.ntmps3
    go_wp2_with (first
      | (go_at_call 6; refine (HAW.out _).mono ?_; rintro e wa ⟨rfl, hba⟩; have BA := hid hba; clear hba)
      | (go_at_call 7; refine (HN.out _).mono ?_; rintro e w1 ⟨p, gs, rfl, hd⟩; have H1 := hid hd; clear hd)
      | (go_at_call 8; refine (HS.out _).mono ?_; rintro e w2 ⟨rfl, hb2⟩; have H2 := hid (H1.out.new hb2).1; clear hb2)
      | (refine wpl_store_st rfl (.tmp 13) (.tmp 39) rfl (n := 6) HZ6.out w2.heap.size (sixL (fun _ => 0)).toArray (sixL sm).toArray rfl rfl (Row.new _ _ _) ?_ (hid rfl) (hid rfl) (six_one _); intro w5 HR5 HB5; have R5 := hid HR5; have hb5 := ((Below.refl w2.heap.size w2).alloc (Nat.le_refl _) (.cells (sixL (fun _ => 0)).toArray 29)).trans (below_grown HB5 (Nat.le_refl _) (by simp)); have H5 := hid (H2.out.add hb5 (Nat.le_refl _) HR5.lt); clear HR5 HB5 hb5)
      | (go_at_call_of 9 (Value.int IntKind.i64 (a : Int)); refine (HW1.out _ _ _ _ _ H5.out).mono ?_; rintro e w6 ⟨rfl, h6, k6⟩; have H6 := hid h6; have R6 := hid (k6.row R5.out (by simp)); clear h6 k6)
      | (go_at_call 10; refine (HF.out _ _ _ _ _ H6.out).mono ?_; rintro e w7 ⟨rfl, h7, k7⟩; have H7 := hid h7; have R7 := hid (k7.row R6.out (by simp)); clear h7 k7)
      | (go_at_call_of 9 (Value.int IntKind.i64 (b : Int)); refine (HW2.out _ _ _ _ _ H7.out).mono ?_; rintro e w8 ⟨rfl, h8, k8⟩; have H8 := hid h8; have R8 := hid (k8.row R7.out (by simp)); clear h8 k8)
      | (go_at_call 11; refine (HON.out _ _ _ _ _ H8.out).mono ?_; rintro e w9 ⟨rfl, rfl⟩)
      | (refine wpList_load_row rfl 29 (.tmp 13) rfl w2.heap.size rfl 29 (sixL sm).toArray (0, 0) _ R8.out.arr Try.underlying29 rfl HZ6.out ?_)
      | (go_at_call 13; refine (HL.out _ _ _ _ _ H8.out).mono ?_; rintro e w10 ⟨A6, cap6, rfl, hb10⟩; have HB := hid (BA.out.trans ((H8.out.below.trans (hb10.mono H8.out.size)).mono BA.out.size)); clear hb10))
    go_ret
    exact ⟨rfl, HB.out⟩
  have hmo := cnt_six (s := sb o) (by rw [sb_len]; omega)
  have hcw := writeG_count S2 (pieceG (sb o)) (20 + 6 * b) (cntG (sb o).length)
  rcases keeps_gl (ch := chG) (o := sb o) (base' := 20 + 6 * b) h2 hk1 (by omega) (by omega) with ⟨S3, K3, e3, h3, hl3, hn3⟩ | ⟨S3, e3, off3, hp3⟩
  · rw [e3] at hcw
    have HW2 : Hid (∀ (w0 W : World) (p gs : Nat) (G : List Nat), Dd w0 W p gs S2 G → Calls Try.prog 9 #[.pointer (some ⟨p, 0, none⟩), .int .i64 (b : Int), .string o] W (DC w0 W p gs S3 G (.int .i64 0))) := hid fun w0 W p gs G hW => by
      have h4 := gwrite_any hW (by omega) b hb1 o (by omega)
      rw [← sb_len, e3] at h4
      exact h4
    have hon3 : S3.on = true := h3.cl.on
    have HON : Hid (∀ (w0 W : World) (p gs : Nat) (G : List Nat), Dd w0 W p gs S3 G → Calls Try.prog 11 #[.pointer (some ⟨p, 0, none⟩)] W fun e w' => e = .returned (.bool true) ∧ W = w') := hid fun w0 W p gs G hW => by
      have := dd_on hW
      rw [hon3] at this
      exact this
    have HL : Hid (∀ (w0 W : World) (p gs : Nat) (G : List Nat), Dd w0 W p gs S3 G → Calls Try.prog 13 #[.pointer (some ⟨p, 0, none⟩), .int .i64 (a : Int), .int .i64 (s.size : Int), .agg (sixL (sumG chG (sb s))).toArray] W fun e w' => ∃ A cap, e = .returned (.tuple #[.string s, .slice A 0 cap, .int .i64 0]) ∧ Below W.heap.size W w') := hid fun w0 W p gs G hW => by
      have h1 := gload_any hW (by simp only at hcw; omega) a ha1 h3 (by rw [hn3, hn2]) s.size (by omega) (sumG chG (sb s))
      have e1 : loadK chG K3 (20 + 6 * a) s.size (sumG chG (sb s)) = (sb s, []) := by rw [← sb_len]; exact hl3
      rw [e1] at h1
      refine h1.mono ?_
      rintro e w' ⟨v, rfl, hm, hb⟩
      obtain ⟨A, cap, rfl⟩ := hm.nil
      rw [mk_sb]
      exact ⟨A, cap, rfl, hb⟩
    generalize sumG chG (sb s) = sm at *
    generalize Sp.mk0 32 = S0 at *
    clear hr hp
    clear e1 h1 hn1 hc1 hk1 e2 h2 hs2 hc2 hn2 hon2 hm6 hbase hab hmo hcw e3 h3 hl3 hn3 hon3
    go_enter Try.func3, Try.ntmps3
    go_wp2_with (first
      | (go_at_call 6; refine (HAW.out _).mono ?_; rintro e wa ⟨rfl, hba⟩; have BA := hid hba; clear hba)
      | (go_at_call 7; refine (HN.out _).mono ?_; rintro e w1 ⟨p, gs, rfl, hd⟩; have H1 := hid hd; clear hd)
      | (go_at_call 8; refine (HS.out _).mono ?_; rintro e w2 ⟨rfl, hb2⟩; have H2 := hid (H1.out.new hb2).1; clear hb2)
      | (refine wpl_store_st rfl (.tmp 13) (.tmp 39) rfl (n := 6) HZ6.out w2.heap.size (sixL (fun _ => 0)).toArray (sixL sm).toArray rfl rfl (Row.new _ _ _) ?_ (hid rfl) (hid rfl) (six_one _); intro w5 HR5 HB5; have R5 := hid HR5; have hb5 := ((Below.refl w2.heap.size w2).alloc (Nat.le_refl _) (.cells (sixL (fun _ => 0)).toArray 29)).trans (below_grown HB5 (Nat.le_refl _) (by simp)); have H5 := hid (H2.out.add hb5 (Nat.le_refl _) HR5.lt); clear HR5 HB5 hb5)
      | (go_at_call_of 9 (Value.int IntKind.i64 (a : Int)); refine (HW1.out _ _ _ _ _ H5.out).mono ?_; rintro e w6 ⟨rfl, h6, k6⟩; have H6 := hid h6; have R6 := hid (k6.row R5.out (by simp)); clear h6 k6)
      | (go_at_call 10; refine (HF.out _ _ _ _ _ H6.out).mono ?_; rintro e w7 ⟨rfl, h7, k7⟩; have H7 := hid h7; have R7 := hid (k7.row R6.out (by simp)); clear h7 k7)
      | (go_at_call_of 9 (Value.int IntKind.i64 (b : Int)); refine (HW2.out _ _ _ _ _ H7.out).mono ?_; rintro e w8 ⟨rfl, h8, k8⟩; have H8 := hid h8; have R8 := hid (k8.row R7.out (by simp)); clear h8 k8)
      | (go_at_call 11; refine (HON.out _ _ _ _ _ H8.out).mono ?_; rintro e w9 ⟨rfl, rfl⟩)
      | (refine wpList_load_row rfl 29 (.tmp 13) rfl w2.heap.size rfl 29 (sixL sm).toArray (0, 0) _ R8.out.arr Try.underlying29 rfl HZ6.out ?_)
      | (go_at_call 13; refine (HL.out _ _ _ _ _ H8.out).mono ?_; rintro e w10 ⟨A6, cap6, rfl, hb10⟩; have HB := hid (BA.out.trans ((H8.out.below.trans (hb10.mono H8.out.size)).mono BA.out.size)); clear hb10))
    go_ret
    exact ⟨rfl, HB.out⟩
  · rw [e3] at hcw
    obtain ⟨S4, K4, e4, h4, hl4, hn4⟩ := hp3 picks
    have hc4 : S4.count = S3.count := by
      have := congrArg (fun r => r.1.count) e4
      rw [← this]
      unfold Sp.start
      split <;> rfl
    have HW2 : Hid (∀ (w0 W : World) (p gs : Nat) (G : List Nat), Dd w0 W p gs S2 G → Calls Try.prog 9 #[.pointer (some ⟨p, 0, none⟩), .int .i64 (b : Int), .string o] W (DC w0 W p gs S3 G (.int .i64 6))) := hid fun w0 W p gs G hW => by
      have h4 := gwrite_any hW (by omega) b hb1 o (by omega)
      rw [← sb_len, e3] at h4
      exact h4
    have HON : Hid (∀ (w0 W : World) (p gs : Nat) (G : List Nat), Dd w0 W p gs S3 G → Calls Try.prog 11 #[.pointer (some ⟨p, 0, none⟩)] W fun e w' => e = .returned (.bool false) ∧ W = w') := hid fun w0 W p gs G hW => by
      have := dd_on hW
      rw [off3] at this
      exact this
    have HST : Hid (∀ (w0 : World), Below w.heap.size w w0 → ∀ (W : World) (p gs : Nat) (G : List Nat), Dd w0 W p gs S3 G → Calls Try.prog 12 #[.pointer (some ⟨p, 0, none⟩), .slice A picks.length cap] W (DC w0 W p gs S4 G (.int .i64 0))) := hid fun w0 hb0 W p gs G hW => dd_startG hW (by simp only at hcw; omega) picks A picks.length cap w.heap.size w hb0 hb0.size rfl hr hp (by omega) e4
    have HL : Hid (∀ (w0 W : World) (p gs : Nat) (G : List Nat), Dd w0 W p gs S4 G → Calls Try.prog 13 #[.pointer (some ⟨p, 0, none⟩), .int .i64 (a : Int), .int .i64 (s.size : Int), .agg (sixL (sumG chG (sb s))).toArray] W fun e w' => ∃ A cap, e = .returned (.tuple #[.string s, .slice A 0 cap, .int .i64 0]) ∧ Below W.heap.size W w') := hid fun w0 W p gs G hW => by
      have h1 := gload_any hW (by simp only at hcw; omega) a ha1 h4 (by rw [hn4, hn2]) s.size (by omega) (sumG chG (sb s))
      have e1 : loadK chG K4 (20 + 6 * a) s.size (sumG chG (sb s)) = (sb s, []) := by rw [← sb_len]; exact hl4
      rw [e1] at h1
      refine h1.mono ?_
      rintro e w' ⟨v, rfl, hm, hb⟩
      obtain ⟨A, cap, rfl⟩ := hm.nil
      rw [mk_sb]
      exact ⟨A, cap, rfl, hb⟩
    generalize sumG chG (sb s) = sm at *
    generalize Sp.mk0 32 = S0 at *
    clear hr hp
    clear e1 h1 hn1 hc1 hk1 e2 h2 hs2 hc2 hn2 hon2 hm6 hbase hab hmo hcw e3 off3 hp3 e4 h4 hl4 hn4 hc4
    go_enter Try.func3, Try.ntmps3
    go_wp2_with (first
      | (go_at_call 6; refine (HAW.out _).mono ?_; rintro e wa ⟨rfl, hba⟩; have BA := hid hba; clear hba)
      | (go_at_call 7; refine (HN.out _).mono ?_; rintro e w1 ⟨p, gs, rfl, hd⟩; have H1 := hid hd; clear hd)
      | (go_at_call 8; refine (HS.out _).mono ?_; rintro e w2 ⟨rfl, hb2⟩; have H2 := hid (H1.out.new hb2).1; clear hb2)
      | (refine wpl_store_st rfl (.tmp 13) (.tmp 39) rfl (n := 6) HZ6.out w2.heap.size (sixL (fun _ => 0)).toArray (sixL sm).toArray rfl rfl (Row.new _ _ _) ?_ (hid rfl) (hid rfl) (six_one _); intro w5 HR5 HB5; have R5 := hid HR5; have hb5 := ((Below.refl w2.heap.size w2).alloc (Nat.le_refl _) (.cells (sixL (fun _ => 0)).toArray 29)).trans (below_grown HB5 (Nat.le_refl _) (by simp)); have H5 := hid (H2.out.add hb5 (Nat.le_refl _) HR5.lt); clear HR5 HB5 hb5)
      | (go_at_call_of 9 (Value.int IntKind.i64 (a : Int)); refine (HW1.out _ _ _ _ _ H5.out).mono ?_; rintro e w6 ⟨rfl, h6, k6⟩; have H6 := hid h6; have R6 := hid (k6.row R5.out (by simp)); clear h6 k6)
      | (go_at_call 10; refine (HF.out _ _ _ _ _ H6.out).mono ?_; rintro e w7 ⟨rfl, h7, k7⟩; have H7 := hid h7; have R7 := hid (k7.row R6.out (by simp)); clear h7 k7)
      | (go_at_call_of 9 (Value.int IntKind.i64 (b : Int)); refine (HW2.out _ _ _ _ _ H7.out).mono ?_; rintro e w8 ⟨rfl, h8, k8⟩; have H8 := hid h8; have R8 := hid (k8.row R7.out (by simp)); clear h8 k8)
      | (go_at_call 11; refine (HON.out _ _ _ _ _ H8.out).mono ?_; rintro e w9 ⟨rfl, rfl⟩)
      | (go_at_call 12; refine (HST.out wa BA.out _ _ _ _ H8.out).mono ?_; rintro e w9 ⟨rfl, h9, k9⟩; have H9 := hid h9; have R9 := hid (k9.row R8.out (by simp)); clear h9 k9)
      | (refine wpList_load_row rfl 29 (.tmp 13) rfl w2.heap.size rfl 29 (sixL sm).toArray (0, 0) _ R9.out.arr Try.underlying29 rfl HZ6.out ?_)
      | (go_at_call 13; refine (HL.out _ _ _ _ _ H9.out).mono ?_; rintro e w10 ⟨A6, cap6, rfl, hb10⟩; have HB := hid (BA.out.trans ((H9.out.below.trans (hb10.mono H9.out.size)).mono BA.out.size)); clear hb10))
    go_ret
    exact ⟨rfl, HB.out⟩
end Go.Proofs.Ythlapdijnfcekaa
/-
  What GridMisses says, in plain words.
-/
namespace Go.Proofs.Ythlapdijnfcekaa
open Go.RowKit
set_option maxRecDepth 10000

theorem rot_count (S : Sp) (i a m : Int) : (S.rot i a m).1.count = S.count := by
  unfold Sp.rot
  split
  · rfl
  · split
    · rfl
    · split <;> rfl
/-- a text that was written, some blocks of which have rotted -/
structure MiG (s : List UInt8) (base : Nat) (S : Sp) (K : Nat → Option (List UInt8)) : Prop where
  rot : RotG S K base (cntG s.length)
  n : S.secs.length = 32
  cnt : S.count ≤ 10
  z : S.left = 0
  ks : ∀ i, i < cntG s.length → K (base + i) = some (pieceG s i) ∨ K (base + i) = none
theorem mi_rot {s : List UInt8} {base : Nat} {S : Sp} {K : Nat → Option (List UInt8)} (h : MiG s base S K) {k : Nat} (hk : k < cntG s.length) (a b : Int) :
    (∃ x, S.rot ((base + k : Nat) : Int) a b = (S, x) ∧ x ≠ 0) ∨ (∃ S', S.rot ((base + k : Nat) : Int) a b = (S', 0) ∧ MiG s base S' (updJ K (base + k) none)) := by
  rcases rot_g h.rot hk a b with h1 | ⟨S', e, hr, hl, hz⟩
  · exact .inl h1
  · refine .inr ⟨S', e, hr, by rw [hl]; exact h.n, ?_, by rw [hz]; exact h.z, fun i hi => ?_⟩
    · have := rot_count S ((base + k : Nat) : Int) a b
      rw [e] at this
      have this : S'.count = S.count := this
      rw [this]
      exact h.cnt
    · unfold updJ
      by_cases q : base + i = base + k
      · rw [if_pos q]
        exact .inr rfl
      · rw [if_neg q]
        exact h.ks i hi
/-- which blocks are missing -/
def misG (K : Nat → Option (List UInt8)) (base m : Nat) : List Nat := (List.range m).filter fun i => decide (K (base + i) = none)
/-- as the law notes it -/
def badB (K : Nat → Option (List UInt8)) (base m k : Nat) : Bool := decide (k < m ∧ K (base + k) = none)
def badsG (K : Nat → Option (List UInt8)) (base m : Nat) : List Value := (List.range 6).map fun k => .bool (badB K base m k)
theorem bads_len (K : Nat → Option (List UInt8)) (base m : Nat) : (badsG K base m).length = 6 := by simp [badsG]
theorem bads_get (K : Nat → Option (List UInt8)) (base m : Nat) {k : Nat} (h : k < 6) : (badsG K base m)[k]? = some (.bool (badB K base m k)) := by simp [badsG, h]
theorem bads_set (K : Nat → Option (List UInt8)) (base m : Nat) {k : Nat} (h : k < 6) (hm : k < m) : (badsG K base m).set k (.bool true) = badsG (updJ K (base + k) none) base m := by
  apply List.ext_getElem?
  intro i
  rw [List.getElem?_set, bads_len]
  by_cases hi : i < 6
  · rw [bads_get _ _ _ hi, bads_get _ _ _ hi]
    by_cases e : k = i
    · subst e
      rw [if_pos rfl, if_pos h]
      have : badB (updJ K (base + k) none) base m k = true := by
        unfold badB updJ
        simp [hm]
      rw [this]
    · rw [if_neg e]
      have : badB (updJ K (base + k) none) base m i = badB K base m i := by
        unfold badB updJ
        rw [if_neg (by omega)]
      rw [this]
  · rw [List.getElem?_eq_none (by rw [bads_len]; omega), List.getElem?_eq_none (by rw [bads_len]; omega)]
    rw [if_neg (by omega)]
theorem bads_first (K : Nat → Option (List UInt8)) (base m : Nat) (h : ∀ i, i < m → K (base + i) ≠ none) : badsG K base m = List.replicate 6 (.bool false) := by
  have e : ∀ k, badB K base m k = false := fun k => by
    unfold badB
    exact decide_eq_false fun ⟨q1, q2⟩ => h k q1 q2
  unfold badsG
  simp only [e]
  rfl
/-- what the law wants, behind j blocks -/
def wantL (K : Nat → Option (List UInt8)) (base m j : Nat) : List Nat := (List.range j).filter fun k => badB K base m k
theorem wantL_succ (K : Nat → Option (List UInt8)) (base m j : Nat) : wantL K base m (j + 1) = if badB K base m j = true then wantL K base m j ++ [j] else wantL K base m j := by
  unfold wantL
  rw [List.range_succ, List.filter_append]
  by_cases h : badB K base m j = true
  · rw [if_pos h]
    simp [h]
  · rw [if_neg h]
    simp [h]
theorem wantL_len (K : Nat → Option (List UInt8)) (base m j : Nat) : (wantL K base m j).length ≤ j := by
  unfold wantL
  refine Nat.le_trans (List.length_filter_le _ _) ?_
  simp
theorem wantL_all (K : Nat → Option (List UInt8)) (base m : Nat) : ∀ d, wantL K base m (m + d) = misG K base m
  | 0 => by
    unfold wantL misG
    refine List.filter_congr fun k hk => ?_
    have hk2 : k < m := List.mem_range.1 hk
    unfold badB
    simp [hk2]
  | d + 1 => by
    rw [← Nat.add_assoc, wantL_succ, if_neg ?_, wantL_all K base m d]
    unfold badB
    rw [decide_eq_false (fun q => by have := q.1; omega)]
    simp
theorem mi_load {s : List UInt8} {base : Nat} {S : Sp} {K : Nat → Option (List UInt8)} (h : MiG s base S K) : loadK chG K base s.length (sumG chG s) = if misG K base (cntG s.length) = [] then (s, []) else ([], misG K base (cntG s.length)) := by
  obtain ⟨h1, h2⟩ := load_miss (ch := chG) h.ks (cntG s.length) (Nat.le_refl _)
  unfold loadK
  have e : (loadA chG K base s.length (sumG chG s) (cntG s.length)).2 = misG K base (cntG s.length) := h1
  rw [e]
  by_cases q : misG K base (cntG s.length) = []
  · rw [if_pos q, if_neg (by simpa using q), h2 fun i hi => ?_, take_cnt]
    intro w
    have : i ∈ misG K base (cntG s.length) := List.mem_filter.2 ⟨List.mem_range.2 hi, by simp [w]⟩
    rw [q] at this
    cases this
  · rw [if_neg q, if_pos q]
/-- blocks put anew -/
def putK (K : Nat → Option (List UInt8)) (s : List UInt8) (base : Nat) (l : List Nat) : Nat → Option (List UInt8) := l.foldl (fun K i => updJ K (base + i) (some (pieceG s i))) K
theorem putK_snoc (K : Nat → Option (List UInt8)) (s : List UInt8) (base : Nat) (l : List Nat) (i : Nat) : putK K s base (l ++ [i]) = updJ (putK K s base l) (base + i) (some (pieceG s i)) := by
  unfold putK
  rw [List.foldl_append]
  rfl
theorem putK_at (s : List UInt8) (base i : Nat) : ∀ (l : List Nat) (K : Nat → Option (List UInt8)), putK K s base l (base + i) = some (pieceG s i) ∨ (i ∉ l ∧ putK K s base l (base + i) = K (base + i))
  | [], _ => .inr ⟨by simp, rfl⟩
  | x :: l, K => by
    have e : putK K s base (x :: l) = putK (updJ K (base + x) (some (pieceG s x))) s base l := rfl
    rw [e]
    rcases putK_at s base i l (updJ K (base + x) (some (pieceG s x))) with h | ⟨h1, h2⟩
    · exact .inl h
    · rw [h2]
      unfold updJ
      by_cases q : base + i = base + x
      · rw [if_pos q]
        left
        rw [show i = x by omega]
      · rw [if_neg q]
        exact .inr ⟨by simp only [List.mem_cons, not_or]; exact ⟨by omega, h1⟩, rfl⟩
/-- in the middle of the putting -/
structure PuG (s : List UInt8) (base : Nat) (K : Nat → Option (List UInt8)) (n : Nat) (S : Sp) : Prop where
  on : OnG S (putK K s base ((misG K base (cntG s.length)).take n))
  len : S.secs.length = 32
  cnt : S.count ≤ 10 + 2 * n
  z : S.left = 0
theorem pu_first {s : List UInt8} {base : Nat} {S : Sp} {K : Nat → Option (List UInt8)} (h : MiG s base S K) : PuG s base K 0 S := ⟨h.rot.on, h.n, h.cnt, h.z⟩
theorem mis_lt {K : Nat → Option (List UInt8)} {base m n : Nat} (h : n < (misG K base m).length) : (misG K base m)[n] < m := by
  have := List.getElem_mem h
  exact List.mem_range.1 (List.mem_filter.1 this).1
theorem pu_put {s : List UInt8} {base n : Nat} {S : Sp} {K : Nat → Option (List UInt8)} (h : PuG s base K n S) (hn : n < (misG K base (cntG s.length)).length) (hb : base + cntG s.length ≤ 32) :
    ∃ S', writeG S (fun _ => pieceG s (misG K base (cntG s.length))[n]) (base + (misG K base (cntG s.length))[n]) 1 = (S', 0) ∧ PuG s base K (n + 1) S' := by
  have hlt := mis_lt hn
  obtain ⟨S', e, h1, h2, h3⟩ := put_g h.on h.z (base := base) (i := (misG K base (cntG s.length))[n]) (by rw [h.len]; omega) (piece_le s (misG K base (cntG s.length))[n])
  refine ⟨S', e, ?_, by rw [h2]; exact h.len, ?_, h3⟩
  · have et : (misG K base (cntG s.length)).take (n + 1) = (misG K base (cntG s.length)).take n ++ [(misG K base (cntG s.length))[n]] := by
      rw [List.take_add_one, List.getElem?_eq_getElem hn]
      rfl
    rw [et, putK_snoc]
    exact h1
  · have := writeG_count S (fun _ => pieceG s (misG K base (cntG s.length))[n]) (base + (misG K base (cntG s.length))[n]) 1
    rw [e] at this
    have h4 := h.cnt
    have this : S'.count ≤ S.count + 1 + 1 := this
    omega
theorem pu_load {s : List UInt8} {base : Nat} {S S0 : Sp} {K : Nat → Option (List UInt8)} (h0 : MiG s base S0 K) (h : PuG s base K (misG K base (cntG s.length)).length S) : ∃ K', OnG S K' ∧ loadK chG K' base s.length (sumG chG s) = (s, []) := by
  refine ⟨_, h.on, load_all fun i hi => ?_⟩
  rw [List.take_length]
  rcases putK_at s base i (misG K base (cntG s.length)) K with q | ⟨q1, q2⟩
  · exact q
  · rw [q2]
    rcases h0.ks i hi with w | w
    · exact w
    · exact absurd (List.mem_filter.2 ⟨List.mem_range.2 hi, by simp [w]⟩) q1
end Go.Proofs.Ythlapdijnfcekaa
