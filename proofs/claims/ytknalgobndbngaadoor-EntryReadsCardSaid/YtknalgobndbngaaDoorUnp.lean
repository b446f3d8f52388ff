/-
  The walk of Unpack's region that reads the header.
-/
import Derived.Test.YtknalgobndbngaaDoorPack
import Derived.Test.YtknalgobndbngaaDoorTakeh
import Derived.Test.YtknalgobndbngaaDoorShelf
import Derived.Deep.RegionHeld
import Derived.Deep.CutRange
import Derived.Deep.DeepCutAuto
namespace Go.Proofs.YtknalgobndbngaaDoor
open Go.RowKit
set_option maxRecDepth 10000

/-- a header, a text and an error's number -/
def HE (w : World) (r : Hd × List UInt8 × Int) (e : Ending) (w' : World) : Prop := e = .returned (.tuple #[r.1.val, .string ⟨r.2.1.toArray⟩, .int .i64 r.2.2]) ∧ Below w.heap.size w w'

theorem hcells_one (h : Hd) : h.cells.all (·.oneCell') = true := by simp [Hd.cells, Value.oneCell']
theorem hcells_size (h : Hd) : (Tryd.prog.info? 43).map (·.size) = some h.cells.size := by
  show _ = some 12
  kernel_rfl

theorem str_ne {a b : ByteArray} (h : a ≠ b) : (a.toList == b.toList) = false := by
  rw [beq_eq_false_iff_ne, ByteArray.toList_eq, ByteArray.toList_eq]
  intro e
  apply h
  rcases a with ⟨a⟩
  rcases b with ⟨b⟩
  simp only [Array.toList_inj] at e
  rw [e]
theorem mk_ne' {a : List UInt8} {b : ByteArray} (h : a ≠ sb b) : (⟨a.toArray⟩ : ByteArray) ≠ b := by
  intro e
  apply h
  rw [← e, sb_mk]

theorem Row.range {w : World} {g : Nat} {e : TypeId} {cs : List Value} (h : Row w g e cs) : w.rangeAt g 0 cs := fun j v hv => by
  rw [Nat.zero_add, h.cell]
  exact hv

theorem Row.arr {w : World} {g : Nat} {e : TypeId} {cs : Array Value} (h : Row w g e cs.toList) : w.heap[g]? = some (.cells cs e (0, 0)) := by simpa [Row] using h

theorem store_head {o : Oper} {a : Act} {w : World} {K : Act → World → Prop} {Q : Exit → Act → World → Prop} (x y : Operand) (ho : o.op = .store 43 x y) (g : Nat) (h : Hd) (hx : a.eval x = .pointer (some ⟨g, 0, none⟩)) (hy : a.eval y = h.val)
    (hrow : Row w g 43 hd0.cells.toList) (hK : ∀ w', Row w' g 43 h.cells.toList → w.grownBy w' (some g) → K (a.put o.dst undef) w') : o.wp Tryd.prog a w K Q :=
  wp_store_row 43 x y ho g h.cells hx hy 43 hd0.cells hrow (hcells_size h) rfl (hcells_one h) (hK _ (setRow_heap _ g hd0.cells h.cells 43 (0, 0) hrow) (grownBy_setRow w g _))

theorem wpl_store_head {ops : Array Oper} {rest : List Oper} {o : Oper} {a : Act} {w : World} {Q : Exit → Act → World → Prop} (hgd : o.guard = none) (x y : Operand) (ho : o.op = .store 43 x y) (g : Nat) (h : Hd) (hx : a.eval x = .pointer (some ⟨g, 0, none⟩)) (hy : a.eval y = h.val)
    (hrow : Row w g 43 hd0.cells.toList) (hK : ∀ w', Row w' g 43 h.cells.toList → w.grownBy w' (some g) → wpList Tryd.prog ops Q rest (a.put o.dst undef) w') : wpList Tryd.prog ops Q (o :: rest) a w :=
  wpList_plain hgd fun _ hK' => store_head x y ho g h hx hy hrow (fun w' h1 h2 => hK' _ _ (hK w' h1 h2))

theorem results_cell2 {P : Program} {fn : Func} {p t u : Tmp} {ty : TypeId} (h : fn.results = #[.cell p ty, .tmp t, .tmp u]) (tmps : Array Value) (w : World) (g : Nat) (e : TypeId) (cs : Array Value) (fr : Nat × Nat) (d : TypeDesc) (x y : Value)
    (hx : tmps.getD t undef = x) (hy : tmps.getD u undef = y) (hp : tmps.getD p undef = .pointer (some ⟨g, 0, none⟩)) (hg : w.heap[g]? = some (.cells cs e fr))
    (hu : P.underlying ty = some d) (hd : (match d with | .struct _ | .array _ _ => true | _ => false) = true) (hi : (P.info? ty).map (·.size) = some cs.size) :
    (results fn tmps).run P w = .ok (.tuple #[.agg cs, x, y]) w := by
  subst hx hy
  have hp' : tmps[p]?.getD undef = .pointer (some ⟨g, 0, none⟩) := by simpa using hp
  simp [results, h, hp', asAddr, run_loadVar_row w g e ty cs fr d hg hu hd hi]

set_option maxHeartbeats 1000000 in
theorem unp_try (s : ByteArray) (w : World) (hf : Fd w) (h128 : 128 ≤ s.size) (hbig : s.size ≤ 281474976710656) : Calls Tryd.prog 25 #[.string s] w (HE w (unpackS (sb s))) := by
  have hI : ¬ ((s.size : Int) < 128) := by omega
  have hI2 : (128 : Int) ≤ (s.size : Int) := by omega
  have HF := hid hf
  have HBIG : Hid ((s.extract 128 s.size).size ≤ 281474976710656) := hid (by rw [ByteArray.size_extract]; omega)
  clear hf
  have hts : (s.extract 0 128).size = 128 := by simp; omega
  have HT := hid (fun W hW => takeh_any (s.extract 0 128) hts W hW)
  have HH := hid (fun W => header_any (takeN (sb (s.extract 0 128))) (takeN_len _) W)
  have hres : unpackS (sb s) = if packS (hdOf (takeN (sb (s.extract 0 128)))) (sb (s.extract 128 s.size)) = (sb s, 0) then (hdOf (takeN (sb (s.extract 0 128))), sb (s.extract 128 s.size), 0) else (hd0, [], 4) := by
    have e1 : (sb s).take 128 = sb (s.extract 0 128) := by simp [sb]
    have e3 : (s.extract 128 s.size).data.toList = (s.data.toList.drop 128).take (s.size - 128) := by simp
    have e2 : (sb s).drop 128 = sb (s.extract 128 s.size) := by
      rw [sb, sb, e3, List.take_of_length_le]
      rw [List.length_drop, Array.length_toList]
      exact Nat.le_refl _
    unfold unpackS
    rw [if_neg (by rw [sb_len]; omega), e1, e2]
  generalize unpackS (sb s) = r at *
  clear hts
  generalize takeN (sb (s.extract 0 128)) = L at *
  generalize hdOf L = h at *
  have HPK := hid (fun W hW => pack_any h (s.extract 128 s.size) W hW)
  generalize packS h (sb (s.extract 128 s.size)) = P at *
  have HSZ : Hid ((s.extract 128 s.size).size = s.size - 128) := hid (by rw [ByteArray.size_extract]; omega)
  have HRES := hid hres
  clear hres
  go_enter Tryd.func25, Tryd.ntmps25
  go_wp2_with fail
  generalize hW0 : w.alloc _ = W0
  have hb0 : Below w.heap.size w W0 := by rw [← hW0]; exact (Below.refl _ _).alloc (Nat.le_refl _) _
  have hr0 : Row W0 w.heap.size 43 hd0.cells.toList := by rw [← hW0]; exact Row.new _ _ _
  have HB0 := hid hb0
  have HR0 := hid hr0
  have HF0 := hid (HF.out.below hb0 HF.out.1)
  clear hb0 hr0 hW0
  go_cut [5, 6] (fun p r wx => ∃ g, p = .pointer (some ⟨g, 0, none⟩) ∧ r = .string (s.extract 128 s.size) ∧ Row wx g 43 h.cells.toList ∧ W0.heap.size ≤ g ∧ Below W0.heap.size W0 wx)
  case first =>
    refine wp_region_held_drew (S := fun _ => True) (by kernel_rfl) trivial (fun hH => ?_)
    refine wpAnyH_take (i := 0) (v := .string s) rfl (by kernel_rfl) (by kernel_rfl) (by kernel_rfl) (fun _ _ _ h => h) (Or.inl ⟨by rfl, fun w' hw' => by clear hw'; go_simp⟩) hH ?_
    simp only [Act.put]
    refine wpAnyH_take (i := 1) (v := .string (s.extract 0 128)) rfl (by kernel_rfl) (by kernel_rfl) (by kernel_rfl) (fun _ _ _ h => h) (Or.inl ⟨by rfl, fun w' hw' => by clear hw'; go_simp⟩) hH ?_
    simp only [Act.put]
    refine wpAnyH_take (i := 4) (v := .string s) rfl (by kernel_rfl) (by kernel_rfl) (by kernel_rfl) (fun _ _ _ h => h) (Or.inl ⟨by rfl, fun w' hw' => by clear hw'; go_simp⟩) hH ?_
    simp only [Act.put]
    refine wpAnyH_take (i := 5) (v := .string (s.extract 128 s.size)) rfl (by kernel_rfl) (by kernel_rfl) (by kernel_rfl) (fun _ _ _ h => h) (Or.inl ⟨by rfl, fun w' hw' => by clear hw'; go_simp⟩) hH ?_
    simp only [Act.put]
    refine wpAnyH_ready (rs := [2, 6]) (by kernel_rfl) (by simp) ?_
    refine AllReadyH.cons rfl (fun K hK => ?_) (AllReadyH.cons rfl (fun K hK => ?_) AllReadyH.nil)
    · go_simp
      go_at_call 39
      refine (HT.out _ (show Fd (World.drew _) from HF0.out)).mono ?_
      rintro e1 w1 ⟨rfl, hb1x⟩
      have hb1 : Below W0.heap.size W0 w1 := ((Below.refl W0.heap.size W0).drew).trans hb1x
      go_wp2_with fail
      refine hK.out _ _ trivial (fun hH => ?_)
      clear hK K
      try simp only [Act.put]
      refine wpAnyH_ready (rs := [3, 6]) (by kernel_rfl) (by simp) ?_
      refine AllReadyH.cons rfl (fun K hK => ?_) (AllReadyH.cons rfl (fun K hK => ?_) AllReadyH.nil)
      · go_simp
        go_at_call 38
        refine (HH.out _).mono ?_
        rintro e2 w2 ⟨rfl, hb2⟩
        go_wp2_with fail
        refine hK.out _ _ trivial (fun hH => ?_)
        clear hK K
        try simp only [Act.put]
        refine wpAnyH_ready (rs := [6]) (by kernel_rfl) (by simp) ?_
        refine AllReadyH.cons rfl (fun K hK => ?_) AllReadyH.nil
        go_simp
        refine hK.out _ _ trivial (fun hH => ?_)
        clear hK K
        try simp only [Act.put]
        have hrow : Row (w2.alloc _) w2.heap.size 43 hd0.cells.toList := Row.new w2 43 hd0.cells
        refine wpAnyH_ready (rs := [7]) (by kernel_rfl) (by simp) ?_
        refine AllReadyH.cons rfl (fun K hK => ?_) AllReadyH.nil
        rw [if_pos (by rfl)]
        refine store_head (.tmp 5) (.tmp 16) rfl w2.heap.size h rfl rfl hrow (fun w5 hr5 hg5 => ?_)
        simp only [Act.put]
        refine hK.out _ _ trivial (fun hH => ?_)
        clear hK K
        refine wpAnyH_ready (rs := [8]) (by kernel_rfl) (by simp) ?_
        refine AllReadyH.cons rfl (fun K hK => ?_) AllReadyH.nil
        go_simp
        refine hK.out _ _ trivial (fun hH => ?_)
        clear hK K
        refine wpAnyH_done (by kernel_rfl) ?_ _
        try simp only [Act.put]
        go_wp2_with fail
        go_meet
        case rel => exact ⟨_, rfl, rfl, hr5, Nat.le_trans hb1.size hb2.size, ((hb1.trans (hb2.mono hb1.size)).alloc (Nat.le_trans hb1.size hb2.size) _).trans (below_grown hg5 (Nat.le_trans hb1.size hb2.size) (by have := Nat.le_trans hb1.size hb2.size; simp at this ⊢; omega))⟩
      · go_simp
        refine hK.out _ _ trivial (fun hH => ?_)
        clear hK K
        try simp only [Act.put]
        refine wpAnyH_ready (rs := [3]) (by kernel_rfl) (by simp) ?_
        refine AllReadyH.cons rfl (fun K hK => ?_) AllReadyH.nil
        go_simp
        go_at_call 38
        refine (HH.out _).mono ?_
        rintro e2 w2 ⟨rfl, hb2⟩
        go_wp2_with fail
        refine hK.out _ _ trivial (fun hH => ?_)
        clear hK K
        try simp only [Act.put]
        have hrow : Row w2 w1.heap.size 43 hd0.cells.toList := (Row.new w1 43 hd0.cells).below hb2 (by simp)
        refine wpAnyH_ready (rs := [7]) (by kernel_rfl) (by simp) ?_
        refine AllReadyH.cons rfl (fun K hK => ?_) AllReadyH.nil
        rw [if_pos (by rfl)]
        refine store_head (.tmp 5) (.tmp 16) rfl w1.heap.size h rfl rfl hrow (fun w5 hr5 hg5 => ?_)
        simp only [Act.put]
        refine hK.out _ _ trivial (fun hH => ?_)
        clear hK K
        refine wpAnyH_ready (rs := [8]) (by kernel_rfl) (by simp) ?_
        refine AllReadyH.cons rfl (fun K hK => ?_) AllReadyH.nil
        go_simp
        refine hK.out _ _ trivial (fun hH => ?_)
        clear hK K
        refine wpAnyH_done (by kernel_rfl) ?_ _
        try simp only [Act.put]
        go_wp2_with fail
        go_meet
        case rel => exact ⟨_, rfl, rfl, hr5, hb1.size, ((hb1.alloc hb1.size _).trans (hb2.mono (by have := hb1.size; simp at this ⊢; omega))).trans (below_grown hg5 hb1.size (by have := hb1.size; have := hb2.size; simp at *; omega))⟩
    · go_simp
      refine hK.out _ _ trivial (fun hH => ?_)
      clear hK K
      try simp only [Act.put]
      refine wpAnyH_ready (rs := [2]) (by kernel_rfl) (by simp) ?_
      refine AllReadyH.cons rfl (fun K hK => ?_) AllReadyH.nil
      go_simp
      go_at_call 39
      refine (HT.out _ (show Fd (World.drew _) from HF0.out.below (((Below.refl W0.heap.size W0).alloc (Nat.le_refl _) _).drew) HF0.out.1)).mono ?_
      rintro e1 w1 ⟨rfl, hb1x⟩
      have hb1 : Below (W0.heap.size + 1) (W0.alloc (.cells hd0.cells 43)) w1 := ((Below.refl _ _).drew).trans (hb1x.mono (by simp))
      go_wp2_with fail
      refine hK.out _ _ trivial (fun hH => ?_)
      clear hK K
      try simp only [Act.put]
      refine wpAnyH_ready (rs := [3]) (by kernel_rfl) (by simp) ?_
      refine AllReadyH.cons rfl (fun K hK => ?_) AllReadyH.nil
      go_simp
      go_at_call 38
      refine (HH.out _).mono ?_
      rintro e2 w2 ⟨rfl, hb2⟩
      go_wp2_with fail
      refine hK.out _ _ trivial (fun hH => ?_)
      clear hK K
      try simp only [Act.put]
      have hrow : Row w2 W0.heap.size 43 hd0.cells.toList := ((Row.new W0 43 hd0.cells).below hb1 (by simp)).below hb2 (by have := hb1.size; simp at this; omega)
      refine wpAnyH_ready (rs := [7]) (by kernel_rfl) (by simp) ?_
      refine AllReadyH.cons rfl (fun K hK => ?_) AllReadyH.nil
      rw [if_pos (by rfl)]
      refine store_head (.tmp 5) (.tmp 16) rfl W0.heap.size h rfl rfl hrow (fun w5 hr5 hg5 => ?_)
      simp only [Act.put]
      refine hK.out _ _ trivial (fun hH => ?_)
      clear hK K
      refine wpAnyH_ready (rs := [8]) (by kernel_rfl) (by simp) ?_
      refine AllReadyH.cons rfl (fun K hK => ?_) AllReadyH.nil
      go_simp
      refine hK.out _ _ trivial (fun hH => ?_)
      clear hK K
      refine wpAnyH_done (by kernel_rfl) ?_ _
      try simp only [Act.put]
      go_wp2_with fail
      go_meet
      case rel => exact ⟨_, rfl, rfl, hr5, Nat.le_refl _, (((Below.refl W0.heap.size W0).alloc (Nat.le_refl _) _).trans (hb1.mono (by simp))).trans (hb2.mono (by have := hb1.size; simp at this; omega)) |>.trans (below_grown hg5 (Nat.le_refl _) (by have := hb1.size; have := hb2.size; simp at *; omega))⟩
  case rest =>
    obtain ⟨g, rfl, rfl, hr, hg, hb⟩ := hcut
    obtain ⟨p1, p2⟩ := P
    have hFc := HF0.out.below hb HF0.out.1
    have hrc := HR0.out.below hb HR0.out.lt
    have HFC := hid hFc
    have HRC := hid hrc
    have HB := hid hb
    have HPK2 : Hid (∀ W : World, Fd W → Calls Tryd.prog 20 #[.agg h.cells, .string (s.extract 128 s.size)] W (SN W (p1, p2))) := hid HPK.out
    have HSZ2 := hid (hcells_size h)
    have HRA := hid hr.arr
    have HR := hid hr
    have HLT : Hid (w.heap.size < wc.heap.size) := hid hrc.lt
    obtain ⟨T, hT⟩ : ∃ T : ByteArray, T = ⟨p1.toArray⟩ := ⟨_, rfl⟩
    have HPK3 : Hid (∀ W : World, Fd W → Calls Tryd.prog 20 #[.agg h.cells, .string (s.extract 128 s.size)] W (fun e W' => e = .returned (.tuple #[.string T, .int .i64 p2]) ∧ Below W.heap.size W W')) := hid (by
      rw [hT]
      exact HPK2.out)
    clear HPK HPK2 hr hFc hrc hb
    by_cases h2 : p2 = 0
    · by_cases h1 : p1 = sb s
      · subst h2 h1
        rw [mk_sb] at hT
        subst hT
        have HRES2 : Hid (r = (h, sb (T.extract 128 T.size), 0)) := hid (by rw [HRES.out, if_pos rfl])
        clear HRES
        have HV : Hid (Value.agg h.cells = h.val) := hid rfl
        obtain ⟨cs, hcs⟩ : ∃ cs : List Value, cs.toArray = h.cells := ⟨h.cells.toList, by simp⟩
        rw [← hcs] at HPK3 HSZ2 HRA HV
        have hcl : cs = h.cells.toList := by rw [← hcs]
        rw [← hcl] at HR
        clear hcl hcs
        have heq : (T.toList == T.toList) = true := by simp
        go_wp2_with (first
          | (refine wpList_load_row rfl 43 (.tmp 5) rfl g rfl 43 cs.toArray (0, 0) _ HRA.out Tryd.underlying43 rfl HSZ2.out ?_)
          | (go_at_call 20; refine (HPK3.out _ HFC.out).mono ?_; rintro e w3 ⟨rfl, hb3⟩))
        have hsz2 := HSZ2.out
        refine wp_region_held_drew (S := fun w' => w'.rangeAt g 0 cs) (by kernel_rfl) (HR.out.below hb3 (HR.out.lt)).range (fun hH => ?_)
        refine wpAnyH_take (i := 0) (v := .agg cs.toArray) rfl (by kernel_rfl) (by kernel_rfl) (by kernel_rfl) (fun _ _ _ h => h) (yieldsIf_load_mid (by rfl) 43 (.tmp 5) rfl g 0 rfl _ _ (fun _ hw => hw) Tryd.underlying43 rfl (by simpa using hsz2)) hH ?_
        simp only [Act.put]
        refine wpAnyH_take (i := 1) (v := .string (T.extract 128 T.size)) rfl (by kernel_rfl) (by kernel_rfl) (by kernel_rfl) (fun _ _ _ h => h) (Or.inl ⟨by rfl, fun w' hw' => by clear hw'; go_simp⟩) hH ?_
        simp only [Act.put]
        refine wpAnyH_ready (rs := [2]) (by kernel_rfl) (by simp) ?_
        refine AllReadyH.cons rfl (fun K hK => ?_) AllReadyH.nil
        clear hH
        go_simp
        go_at_call 30
        refine (clone_any _ _ HBIG.out).mono ?_
        rintro e4 w4 ⟨rfl, hb4x⟩
        have hb4 : Below w3.heap.size w3 w4 := ((Below.refl _ _).drew).trans hb4x
        have hr4 := (HR.out.below hb3 HR.out.lt).below hb4 (Nat.lt_of_lt_of_le HR.out.lt hb3.size)
        go_wp2_with fail
        refine hK.out _ _ hr4.range (fun hH => ?_)
        clear hK K hH
        try simp only [Act.put]
        refine wpAnyH_ready (rs := [3]) (by kernel_rfl) (by simp) ?_
        refine AllReadyH.cons rfl (fun K hK => ?_) AllReadyH.nil
        rw [if_pos (by rfl)]
        refine store_head (.tmp 2) (.tmp 33) rfl w.heap.size h rfl HV.out ((HRC.out.below hb3 HLT.out).below hb4 (Nat.lt_of_lt_of_le HLT.out hb3.size)) (fun w5 hr5 hg5 => ?_)
        simp only [Act.put]
        refine hK.out _ _ (hr4.grown hg5 (by simp only [ne_eq, Option.some.injEq]; have := HR0.out.lt; have := HB0.out; omega)).range (fun hH => ?_)
        clear hK K
        refine wpAnyH_ready (rs := [4]) (by kernel_rfl) (by simp) ?_
        refine AllReadyH.cons rfl (fun K hK => ?_) AllReadyH.nil
        go_simp
        refine hK.out _ _ hH (fun hH => ?_)
        clear hK K
        try simp only [Act.put]
        refine wpAnyH_ready (rs := [5]) (by kernel_rfl) (by simp) ?_
        refine AllReadyH.cons rfl (fun K hK => ?_) AllReadyH.nil
        go_simp
        refine hK.out _ _ hH (fun hH => ?_)
        clear hK K hH
        try simp only [Act.put]
        refine wpAnyH_done (by kernel_rfl) ?_ _
        go_wp2_with fail
        refine bodyPost_ret (v := .tuple #[h.val, .string (T.extract 128 T.size), .int .i64 0]) (results_cell2 rfl _ _ w.heap.size 43 h.cells (0, 0) _ _ _ rfl rfl rfl hr5.arr Tryd.underlying43 rfl (hcells_size h)) rfl ?_
        rw [HRES2.out]
        exact ⟨by rw [mk_sb], (((HB0.out.trans (HB.out.mono HB0.out.size)).trans (hb3.mono (Nat.le_trans HB0.out.size HB.out.size))).trans (hb4.mono (Nat.le_trans HB0.out.size (Nat.le_trans HB.out.size hb3.size)))).trans (below_grown hg5 (Nat.le_refl _) (Nat.le_trans HB0.out.size (Nat.le_trans HB.out.size (Nat.le_trans hb3.size hb4.size))))⟩
      · subst h2
        have HRES2 : Hid (r = (hd0, [], 4)) := hid (by rw [HRES.out, if_neg (fun e => h1 (Prod.mk.inj e).1)])
        generalize h.cells = C at HPK3 HSZ2 HRA HR
        have hn1 : (T.toList == s.toList) = false := str_ne (by rw [hT]; exact mk_ne' h1)
        clear h1 HRES hT
        go_wp2_with (first
          | (refine wpList_load_row rfl 43 (.tmp 5) rfl g rfl 43 C (0, 0) _ HRA.out Tryd.underlying43 rfl HSZ2.out ?_)
          | (go_at_call 20; refine (HPK3.out _ HFC.out).mono ?_; rintro e w3 ⟨rfl, hb3⟩)
          | (refine wpl_store_head rfl (.tmp 2) (.tmp 32) rfl w.heap.size hd0 rfl rfl (HRC.out.below hb3 HLT.out) ?_; intro w5 hr5 hg5))
        refine bodyPost_ret (v := .tuple #[hd0.val, .string ⟨#[]⟩, .int .i64 4]) (results_cell2 rfl _ _ w.heap.size 43 hd0.cells (0, 0) _ _ _ rfl rfl rfl hr5.arr Tryd.underlying43 rfl (hcells_size hd0)) rfl ?_
        rw [HRES2.out]
        exact ⟨rfl, ((HB0.out.trans (HB.out.mono HB0.out.size)).trans (hb3.mono (Nat.le_trans HB0.out.size HB.out.size))).trans (below_grown hg5 (Nat.le_refl _) (Nat.le_trans HB0.out.size (Nat.le_trans HB.out.size hb3.size)))⟩
    · have HRES2 : Hid (r = (hd0, [], 4)) := hid (by rw [HRES.out, if_neg (fun e => h2 (Prod.mk.inj e).2)])
      generalize h.cells = C at HPK3 HSZ2 HRA HR
      have hn1 : (p2 != 0) = true := by simpa using h2
      have hn2 : (p2 == 0) = false := by simpa using h2
      clear HRES hT
      go_wp2_with (first
        | (refine wpList_load_row rfl 43 (.tmp 5) rfl g rfl 43 C (0, 0) _ HRA.out Tryd.underlying43 rfl HSZ2.out ?_)
        | (go_at_call 20; refine (HPK3.out _ HFC.out).mono ?_; rintro e w3 ⟨rfl, hb3⟩)
        | (refine wpl_store_head rfl (.tmp 2) (.tmp 32) rfl w.heap.size hd0 rfl rfl (HRC.out.below hb3 HLT.out) ?_; intro w5 hr5 hg5))
      refine bodyPost_ret (v := .tuple #[hd0.val, .string ⟨#[]⟩, .int .i64 4]) (results_cell2 rfl _ _ w.heap.size 43 hd0.cells (0, 0) _ _ _ rfl rfl rfl hr5.arr Tryd.underlying43 rfl (hcells_size hd0)) rfl ?_
      rw [HRES2.out]
      exact ⟨rfl, ((HB0.out.trans (HB.out.mono HB0.out.size)).trans (hb3.mono (Nat.le_trans HB0.out.size HB.out.size))).trans (below_grown hg5 (Nat.le_refl _) (Nat.le_trans HB0.out.size (Nat.le_trans HB.out.size hb3.size)))⟩
end Go.Proofs.YtknalgobndbngaaDoor
