/-
  The walk of Unpack's region that reads the header.
-/
import Derived.Test.YtcildaeiogdfdaaGreatDoorZ07
import Derived.Test.YtcildaeiogdfdaaGreatDoorZ05
import Derived.Test.YtcildaeiogdfdaaGreatDoorZ06
import Derived.Deep.RegionHeld
import Derived.Deep.CutRange
import Derived.Deep.DeepCutAuto
import Derived.Laws.StructEq
import Derived.BigFrame
import Derived.Laws.IdiomCopy
import Derived.BigRegion
namespace Go.Proofs.YtcildaeiogdfdaaGreatDoor
open Go.RowKit
set_option maxRecDepth 10000

/-- a header, a text and an error's number -/
def HE (w : World) (r : Hd × List UInt8 × Int) (e : Ending) (w' : World) : Prop := e = .returned (.tuple #[r.1.val, .string ⟨r.2.1.toArray⟩, .int .i64 r.2.2]) ∧ Below w.heap.size w w'
theorem hcells_one (h : Hd) : h.cells.all (·.oneCell') = true := by simp [Hd.cells, Value.oneCell']
theorem hcells_size (h : Hd) : (Tryz.prog.info? 42).map (·.size) = some h.cells.size := by
  show _ = some 12
  kernel_rfl
theorem Row.range {w : World} {g : Nat} {e : TypeId} {cs : List Value} (h : Row w g e cs) : w.rangeAt g 0 cs := fun j v hv => by
  rw [Nat.zero_add, h.cell]
  exact hv
theorem Row.arr {w : World} {g : Nat} {e : TypeId} {cs : Array Value} (h : Row w g e cs.toList) : w.heap[g]? = some (.cells cs e (0, 0)) := by simpa [Row] using h
theorem store_head {o : Oper} {a : Act} {w : World} {K : Act → World → Prop} {Q : Exit → Act → World → Prop} (x y : Operand) (ho : o.op = .store 42 x y) (g : Nat) (h : Hd) (hx : a.eval x = .pointer (some ⟨g, 0, none⟩)) (hy : a.eval y = h.val)
    (hrow : Row w g 42 hd0.cells.toList) (hK : ∀ w', Row w' g 42 h.cells.toList → w.grownBy w' (some g) → K (a.put o.dst undef) w') : o.wp Tryz.prog a w K Q :=
  wp_store_row 42 x y ho g h.cells hx hy 42 hd0.cells hrow (hcells_size h) rfl (hcells_one h) (hK _ (setRow_heap _ g hd0.cells h.cells 42 (0, 0) hrow) (grownBy_setRow w g _))
theorem wpl_store_head {ops : Array Oper} {rest : List Oper} {o : Oper} {a : Act} {w : World} {Q : Exit → Act → World → Prop} (hgd : o.guard = none) (x y : Operand) (ho : o.op = .store 42 x y) (g : Nat) (h : Hd) (hx : a.eval x = .pointer (some ⟨g, 0, none⟩)) (hy : a.eval y = h.val)
    (hrow : Row w g 42 hd0.cells.toList) (hK : ∀ w', Row w' g 42 h.cells.toList → w.grownBy w' (some g) → wpList Tryz.prog ops Q rest (a.put o.dst undef) w') : wpList Tryz.prog ops Q (o :: rest) a w :=
  wpList_plain hgd fun _ hK' => store_head x y ho g h hx hy hrow (fun w' h1 h2 => hK' _ _ (hK w' h1 h2))
theorem results_cell2 {P : Program} {fn : Func} {p t u : Tmp} {ty : TypeId} (h : fn.results = #[.cell p ty, .tmp t, .tmp u]) (tmps : Array Value) (w : World) (g : Nat) (e : TypeId) (cs : Array Value) (fr : Nat × Nat) (d : TypeDesc) (x y : Value)
    (hx : tmps.getD t undef = x) (hy : tmps.getD u undef = y) (hp : tmps.getD p undef = .pointer (some ⟨g, 0, none⟩)) (hg : w.heap[g]? = some (.cells cs e fr))
    (hu : P.underlying ty = some d) (hd : (match d with | .struct _ | .array _ _ => true | _ => false) = true) (hi : (P.info? ty).map (·.size) = some cs.size) :
    (results fn tmps).run P w = .ok (.tuple #[.agg cs, x, y]) w := by
  subst hx hy
  have hp' : tmps[p]?.getD undef = .pointer (some ⟨g, 0, none⟩) := by simpa using hp
  simp [results, h, hp', asAddr, run_loadVar_row w g e ty cs fr d hg hu hd hi]
set_option maxHeartbeats 1000000 in
theorem unp_try (s : ByteArray) (w : World) (hf : Fd w) (h128 : 128 ≤ s.size) (hbig : s.size ≤ 281474976710656) : Calls Tryz.prog 10 #[.string s] w (HE w (unpackS (sb s))) := by
  have hI : ¬ ((s.size : Int) < 128) := by omega
  have hI2 : (128 : Int) ≤ (s.size : Int) := by omega
  have HF := hid hf
  have HBIG : Hid ((s.extract 128 s.size).size ≤ 281474976710656) := hid (by rw [ByteArray.size_extract]; omega)
  clear hf
  have hts : (s.extract 0 128).size = 128 := by simp; omega
  have HT := hid (fun W hW => takeh_any (s.extract 0 128) hts W hW)
  have HH := hid (fun W => header_any (takeN (sb (s.extract 0 128))) (takeN_len _) W)
  have hres : unpackS (sb s) = if packS (hdOf (takeN (sb (s.extract 0 128)))) (sb (s.extract 128 s.size)) = (sb s, 0) then (hdOf (takeN (sb (s.extract 0 128))), sb (s.extract 128 s.size), 0) else (hd0, [], 4) := by
    have e1 : (sb s).take 128 = sb (s.extract 0 128) := by simp [sb]
    have e3 : (s.extract 128 s.size).data.toList = (s.data.toList.drop 128).take (s.size - 128) := by simp
    have e2 : (sb s).drop 128 = sb (s.extract 128 s.size) := by
      rw [sb, sb, e3, List.take_of_length_le]
      rw [List.length_drop, Array.length_toList]
      exact Nat.le_refl _
    unfold unpackS
    rw [if_neg (by rw [sb_len]; omega), e1, e2]
  generalize unpackS (sb s) = r at *
  clear hts
  generalize takeN (sb (s.extract 0 128)) = L at *
  generalize hdOf L = h at *
  have HPK := hid (fun W hW => pack_any h (s.extract 128 s.size) W hW)
  generalize packS h (sb (s.extract 128 s.size)) = P at *
  have HSZ : Hid ((s.extract 128 s.size).size = s.size - 128) := hid (by rw [ByteArray.size_extract]; omega)
  have HRES := hid hres
  clear hres
  go_enter Tryz.func10, Tryz.ntmps10
  go_wp2_with fail
  generalize hW0 : w.alloc _ = W0
  have hb0 : Below w.heap.size w W0 := by rw [← hW0]; exact (Below.refl _ _).alloc (Nat.le_refl _) _
  have hr0 : Row W0 w.heap.size 42 hd0.cells.toList := by rw [← hW0]; exact Row.new _ _ _
  have HB0 := hid hb0
  have HR0 := hid hr0
  have HF0 := hid (HF.out.below hb0 HF.out.1)
  clear hb0 hr0 hW0
  go_cut [5, 6] (fun p r wx => ∃ g, p = .pointer (some ⟨g, 0, none⟩) ∧ r = .string (s.extract 128 s.size) ∧ Row wx g 42 h.cells.toList ∧ W0.heap.size ≤ g ∧ Below W0.heap.size W0 wx)
  case first =>
    refine wp_region_held_drew (S := fun _ => True) (by kernel_rfl) trivial (fun hH => ?_)
    refine wpAnyH_take (i := 0) (v := .string s) rfl (by kernel_rfl) (by kernel_rfl) (by kernel_rfl) (fun _ _ _ h => h) (Or.inl ⟨by rfl, fun w' hw' => by clear hw'; go_simp⟩) hH ?_
    simp only [Act.put]
    refine wpAnyH_take (i := 1) (v := .string (s.extract 0 128)) rfl (by kernel_rfl) (by kernel_rfl) (by kernel_rfl) (fun _ _ _ h => h) (Or.inl ⟨by rfl, fun w' hw' => by clear hw'; go_simp⟩) hH ?_
    simp only [Act.put]
    refine wpAnyH_take (i := 4) (v := .string s) rfl (by kernel_rfl) (by kernel_rfl) (by kernel_rfl) (fun _ _ _ h => h) (Or.inl ⟨by rfl, fun w' hw' => by clear hw'; go_simp⟩) hH ?_
    simp only [Act.put]
    refine wpAnyH_take (i := 5) (v := .string (s.extract 128 s.size)) rfl (by kernel_rfl) (by kernel_rfl) (by kernel_rfl) (fun _ _ _ h => h) (Or.inl ⟨by rfl, fun w' hw' => by clear hw'; go_simp⟩) hH ?_
    simp only [Act.put]
    refine wpAnyH_ready (rs := [2, 6]) (by kernel_rfl) (by simp) ?_
    refine AllReadyH.cons rfl (fun K hK => ?_) (AllReadyH.cons rfl (fun K hK => ?_) AllReadyH.nil)
    · go_simp
      go_at_call 27
      refine (HT.out _ (show Fd (World.drew _) from HF0.out)).mono ?_
      rintro e1 w1 ⟨rfl, hb1x⟩
      have hb1 : Below W0.heap.size W0 w1 := ((Below.refl W0.heap.size W0).drew).trans hb1x
      go_wp2_with fail
      refine hK.out _ _ trivial (fun hH => ?_)
      clear hK K
      try simp only [Act.put]
      refine wpAnyH_ready (rs := [3, 6]) (by kernel_rfl) (by simp) ?_
      refine AllReadyH.cons rfl (fun K hK => ?_) (AllReadyH.cons rfl (fun K hK => ?_) AllReadyH.nil)
      · go_simp
        go_at_call 26
        refine (HH.out _).mono ?_
        rintro e2 w2 ⟨rfl, hb2⟩
        go_wp2_with fail
        refine hK.out _ _ trivial (fun hH => ?_)
        clear hK K
        try simp only [Act.put]
        refine wpAnyH_ready (rs := [6]) (by kernel_rfl) (by simp) ?_
        refine AllReadyH.cons rfl (fun K hK => ?_) AllReadyH.nil
        go_simp
        refine hK.out _ _ trivial (fun hH => ?_)
        clear hK K
        try simp only [Act.put]
        have hrow : Row (w2.alloc _) w2.heap.size 42 hd0.cells.toList := Row.new w2 42 hd0.cells
        refine wpAnyH_ready (rs := [7]) (by kernel_rfl) (by simp) ?_
        refine AllReadyH.cons rfl (fun K hK => ?_) AllReadyH.nil
        rw [if_pos (by rfl)]
        refine store_head (.tmp 5) (.tmp 16) rfl w2.heap.size h rfl rfl hrow (fun w5 hr5 hg5 => ?_)
        simp only [Act.put]
        refine hK.out _ _ trivial (fun hH => ?_)
        clear hK K
        refine wpAnyH_ready (rs := [8]) (by kernel_rfl) (by simp) ?_
        refine AllReadyH.cons rfl (fun K hK => ?_) AllReadyH.nil
        go_simp
        refine hK.out _ _ trivial (fun hH => ?_)
        clear hK K
        refine wpAnyH_done (by kernel_rfl) ?_ _
        try simp only [Act.put]
        go_wp2_with fail
        go_meet
        case rel => exact ⟨_, rfl, rfl, hr5, Nat.le_trans hb1.size hb2.size, ((hb1.trans (hb2.mono hb1.size)).alloc (Nat.le_trans hb1.size hb2.size) _).trans (below_grown hg5 (Nat.le_trans hb1.size hb2.size) (by have := Nat.le_trans hb1.size hb2.size; simp at this ⊢; omega))⟩
      · go_simp
        refine hK.out _ _ trivial (fun hH => ?_)
        clear hK K
        try simp only [Act.put]
        refine wpAnyH_ready (rs := [3]) (by kernel_rfl) (by simp) ?_
        refine AllReadyH.cons rfl (fun K hK => ?_) AllReadyH.nil
        go_simp
        go_at_call 26
        refine (HH.out _).mono ?_
        rintro e2 w2 ⟨rfl, hb2⟩
        go_wp2_with fail
        refine hK.out _ _ trivial (fun hH => ?_)
        clear hK K
        try simp only [Act.put]
        have hrow : Row w2 w1.heap.size 42 hd0.cells.toList := (Row.new w1 42 hd0.cells).below hb2 (by simp)
        refine wpAnyH_ready (rs := [7]) (by kernel_rfl) (by simp) ?_
        refine AllReadyH.cons rfl (fun K hK => ?_) AllReadyH.nil
        rw [if_pos (by rfl)]
        refine store_head (.tmp 5) (.tmp 16) rfl w1.heap.size h rfl rfl hrow (fun w5 hr5 hg5 => ?_)
        simp only [Act.put]
        refine hK.out _ _ trivial (fun hH => ?_)
        clear hK K
        refine wpAnyH_ready (rs := [8]) (by kernel_rfl) (by simp) ?_
        refine AllReadyH.cons rfl (fun K hK => ?_) AllReadyH.nil
        go_simp
        refine hK.out _ _ trivial (fun hH => ?_)
        clear hK K
        refine wpAnyH_done (by kernel_rfl) ?_ _
        try simp only [Act.put]
        go_wp2_with fail
        go_meet
        case rel => exact ⟨_, rfl, rfl, hr5, hb1.size, ((hb1.alloc hb1.size _).trans (hb2.mono (by have := hb1.size; simp at this ⊢; omega))).trans (below_grown hg5 hb1.size (by have := hb1.size; have := hb2.size; simp at *; omega))⟩
    · go_simp
      refine hK.out _ _ trivial (fun hH => ?_)
      clear hK K
      try simp only [Act.put]
      refine wpAnyH_ready (rs := [2]) (by kernel_rfl) (by simp) ?_
      refine AllReadyH.cons rfl (fun K hK => ?_) AllReadyH.nil
      go_simp
      go_at_call 27
      refine (HT.out _ (show Fd (World.drew _) from HF0.out.below (((Below.refl W0.heap.size W0).alloc (Nat.le_refl _) _).drew) HF0.out.1)).mono ?_
      rintro e1 w1 ⟨rfl, hb1x⟩
      have hb1 : Below (W0.heap.size + 1) (W0.alloc (.cells hd0.cells 42)) w1 := ((Below.refl _ _).drew).trans (hb1x.mono (by simp))
      go_wp2_with fail
      refine hK.out _ _ trivial (fun hH => ?_)
      clear hK K
      try simp only [Act.put]
      refine wpAnyH_ready (rs := [3]) (by kernel_rfl) (by simp) ?_
      refine AllReadyH.cons rfl (fun K hK => ?_) AllReadyH.nil
      go_simp
      go_at_call 26
      refine (HH.out _).mono ?_
      rintro e2 w2 ⟨rfl, hb2⟩
      go_wp2_with fail
      refine hK.out _ _ trivial (fun hH => ?_)
      clear hK K
      try simp only [Act.put]
      have hrow : Row w2 W0.heap.size 42 hd0.cells.toList := ((Row.new W0 42 hd0.cells).below hb1 (by simp)).below hb2 (by have := hb1.size; simp at this; omega)
      refine wpAnyH_ready (rs := [7]) (by kernel_rfl) (by simp) ?_
      refine AllReadyH.cons rfl (fun K hK => ?_) AllReadyH.nil
      rw [if_pos (by rfl)]
      refine store_head (.tmp 5) (.tmp 16) rfl W0.heap.size h rfl rfl hrow (fun w5 hr5 hg5 => ?_)
      simp only [Act.put]
      refine hK.out _ _ trivial (fun hH => ?_)
      clear hK K
      refine wpAnyH_ready (rs := [8]) (by kernel_rfl) (by simp) ?_
      refine AllReadyH.cons rfl (fun K hK => ?_) AllReadyH.nil
      go_simp
      refine hK.out _ _ trivial (fun hH => ?_)
      clear hK K
      refine wpAnyH_done (by kernel_rfl) ?_ _
      try simp only [Act.put]
      go_wp2_with fail
      go_meet
      case rel => exact ⟨_, rfl, rfl, hr5, Nat.le_refl _, (((Below.refl W0.heap.size W0).alloc (Nat.le_refl _) _).trans (hb1.mono (by simp))).trans (hb2.mono (by have := hb1.size; simp at this; omega)) |>.trans (below_grown hg5 (Nat.le_refl _) (by have := hb1.size; have := hb2.size; simp at *; omega))⟩
  case rest =>
    obtain ⟨g, rfl, rfl, hr, hg, hb⟩ := hcut
    obtain ⟨p1, p2⟩ := P
    have hFc := HF0.out.below hb HF0.out.1
    have hrc := HR0.out.below hb HR0.out.lt
    have HFC := hid hFc
    have HRC := hid hrc
    have HB := hid hb
    have HPK2 : Hid (∀ W : World, Fd W → Calls Tryz.prog 20 #[.agg h.cells, .string (s.extract 128 s.size)] W (SN W (p1, p2))) := hid HPK.out
    have HSZ2 := hid (hcells_size h)
    have HRA := hid hr.arr
    have HR := hid hr
    have HLT : Hid (w.heap.size < wc.heap.size) := hid hrc.lt
    obtain ⟨T, hT⟩ : ∃ T : ByteArray, T = ⟨p1.toArray⟩ := ⟨_, rfl⟩
    have HPK3 : Hid (∀ W : World, Fd W → Calls Tryz.prog 20 #[.agg h.cells, .string (s.extract 128 s.size)] W (fun e W' => e = .returned (.tuple #[.string T, .int .i64 p2]) ∧ Below W.heap.size W W')) := hid (by
      rw [hT]
      exact HPK2.out)
    clear HPK HPK2 hr hFc hrc hb
    by_cases h2 : p2 = 0
    · by_cases h1 : p1 = sb s
      · subst h2 h1
        rw [mk_sb] at hT
        subst hT
        have HRES2 : Hid (r = (h, sb (T.extract 128 T.size), 0)) := hid (by rw [HRES.out, if_pos rfl])
        clear HRES
        have HV : Hid (Value.agg h.cells = h.val) := hid rfl
        obtain ⟨cs, hcs⟩ : ∃ cs : List Value, cs.toArray = h.cells := ⟨h.cells.toList, by simp⟩
        rw [← hcs] at HPK3 HSZ2 HRA HV
        have hcl : cs = h.cells.toList := by rw [← hcs]
        rw [← hcl] at HR
        clear hcl hcs
        have heq : (T.toList == T.toList) = true := by simp
        go_wp2_with (first
          | (refine wpList_load_row rfl 42 (.tmp 5) rfl g rfl 42 cs.toArray (0, 0) _ HRA.out Tryz.underlying42 rfl HSZ2.out ?_)
          | (go_at_call 20; refine (HPK3.out _ HFC.out).mono ?_; rintro e w3 ⟨rfl, hb3⟩))
        have hsz2 := HSZ2.out
        refine wp_region_held_drew (S := fun w' => w'.rangeAt g 0 cs) (by kernel_rfl) (HR.out.below hb3 (HR.out.lt)).range (fun hH => ?_)
        refine wpAnyH_take (i := 0) (v := .agg cs.toArray) rfl (by kernel_rfl) (by kernel_rfl) (by kernel_rfl) (fun _ _ _ h => h) (yieldsIf_load_mid (by rfl) 42 (.tmp 5) rfl g 0 rfl _ _ (fun _ hw => hw) Tryz.underlying42 rfl (by simpa using hsz2)) hH ?_
        simp only [Act.put]
        refine wpAnyH_take (i := 1) (v := .string (T.extract 128 T.size)) rfl (by kernel_rfl) (by kernel_rfl) (by kernel_rfl) (fun _ _ _ h => h) (Or.inl ⟨by rfl, fun w' hw' => by clear hw'; go_simp⟩) hH ?_
        simp only [Act.put]
        refine wpAnyH_ready (rs := [2]) (by kernel_rfl) (by simp) ?_
        refine AllReadyH.cons rfl (fun K hK => ?_) AllReadyH.nil
        clear hH
        go_simp
        go_at_call 28
        refine (clone_any _ _ HBIG.out).mono ?_
        rintro e4 w4 ⟨rfl, hb4x⟩
        have hb4 : Below w3.heap.size w3 w4 := ((Below.refl _ _).drew).trans hb4x
        have hr4 := (HR.out.below hb3 HR.out.lt).below hb4 (Nat.lt_of_lt_of_le HR.out.lt hb3.size)
        go_wp2_with fail
        refine hK.out _ _ hr4.range (fun hH => ?_)
        clear hK K hH
        try simp only [Act.put]
        refine wpAnyH_ready (rs := [3]) (by kernel_rfl) (by simp) ?_
        refine AllReadyH.cons rfl (fun K hK => ?_) AllReadyH.nil
        rw [if_pos (by rfl)]
        refine store_head (.tmp 2) (.tmp 33) rfl w.heap.size h rfl HV.out ((HRC.out.below hb3 HLT.out).below hb4 (Nat.lt_of_lt_of_le HLT.out hb3.size)) (fun w5 hr5 hg5 => ?_)
        simp only [Act.put]
        refine hK.out _ _ (hr4.grown hg5 (by simp only [ne_eq, Option.some.injEq]; have := HR0.out.lt; have := HB0.out; omega)).range (fun hH => ?_)
        clear hK K
        refine wpAnyH_ready (rs := [4]) (by kernel_rfl) (by simp) ?_
        refine AllReadyH.cons rfl (fun K hK => ?_) AllReadyH.nil
        go_simp
        refine hK.out _ _ hH (fun hH => ?_)
        clear hK K
        try simp only [Act.put]
        refine wpAnyH_ready (rs := [5]) (by kernel_rfl) (by simp) ?_
        refine AllReadyH.cons rfl (fun K hK => ?_) AllReadyH.nil
        go_simp
        refine hK.out _ _ hH (fun hH => ?_)
        clear hK K hH
        try simp only [Act.put]
        refine wpAnyH_done (by kernel_rfl) ?_ _
        go_wp2_with fail
        refine bodyPost_ret (v := .tuple #[h.val, .string (T.extract 128 T.size), .int .i64 0]) (results_cell2 rfl _ _ w.heap.size 42 h.cells (0, 0) _ _ _ rfl rfl rfl hr5.arr Tryz.underlying42 rfl (hcells_size h)) rfl ?_
        rw [HRES2.out]
        exact ⟨by rw [mk_sb], (((HB0.out.trans (HB.out.mono HB0.out.size)).trans (hb3.mono (Nat.le_trans HB0.out.size HB.out.size))).trans (hb4.mono (Nat.le_trans HB0.out.size (Nat.le_trans HB.out.size hb3.size)))).trans (below_grown hg5 (Nat.le_refl _) (Nat.le_trans HB0.out.size (Nat.le_trans HB.out.size (Nat.le_trans hb3.size hb4.size))))⟩
      · subst h2
        have HRES2 : Hid (r = (hd0, [], 4)) := hid (by rw [HRES.out, if_neg (fun e => h1 (Prod.mk.inj e).1)])
        generalize h.cells = C at HPK3 HSZ2 HRA HR
        have hn1 : (T.toList == s.toList) = false := str_ne (by rw [hT]; exact mk_ne' h1)
        clear h1 HRES hT
        go_wp2_with (first
          | (refine wpList_load_row rfl 42 (.tmp 5) rfl g rfl 42 C (0, 0) _ HRA.out Tryz.underlying42 rfl HSZ2.out ?_)
          | (go_at_call 20; refine (HPK3.out _ HFC.out).mono ?_; rintro e w3 ⟨rfl, hb3⟩)
          | (refine wpl_store_head rfl (.tmp 2) (.tmp 32) rfl w.heap.size hd0 rfl rfl (HRC.out.below hb3 HLT.out) ?_; intro w5 hr5 hg5))
        refine bodyPost_ret (v := .tuple #[hd0.val, .string ⟨#[]⟩, .int .i64 4]) (results_cell2 rfl _ _ w.heap.size 42 hd0.cells (0, 0) _ _ _ rfl rfl rfl hr5.arr Tryz.underlying42 rfl (hcells_size hd0)) rfl ?_
        rw [HRES2.out]
        exact ⟨rfl, ((HB0.out.trans (HB.out.mono HB0.out.size)).trans (hb3.mono (Nat.le_trans HB0.out.size HB.out.size))).trans (below_grown hg5 (Nat.le_refl _) (Nat.le_trans HB0.out.size (Nat.le_trans HB.out.size hb3.size)))⟩
    · have HRES2 : Hid (r = (hd0, [], 4)) := hid (by rw [HRES.out, if_neg (fun e => h2 (Prod.mk.inj e).2)])
      generalize h.cells = C at HPK3 HSZ2 HRA HR
      have hn1 : (p2 != 0) = true := by simpa using h2
      have hn2 : (p2 == 0) = false := by simpa using h2
      clear HRES hT
      go_wp2_with (first
        | (refine wpList_load_row rfl 42 (.tmp 5) rfl g rfl 42 C (0, 0) _ HRA.out Tryz.underlying42 rfl HSZ2.out ?_)
        | (go_at_call 20; refine (HPK3.out _ HFC.out).mono ?_; rintro e w3 ⟨rfl, hb3⟩)
        | (refine wpl_store_head rfl (.tmp 2) (.tmp 32) rfl w.heap.size hd0 rfl rfl (HRC.out.below hb3 HLT.out) ?_; intro w5 hr5 hg5))
      refine bodyPost_ret (v := .tuple #[hd0.val, .string ⟨#[]⟩, .int .i64 4]) (results_cell2 rfl _ _ w.heap.size 42 hd0.cells (0, 0) _ _ _ rfl rfl rfl hr5.arr Tryz.underlying42 rfl (hcells_size hd0)) rfl ?_
      rw [HRES2.out]
      exact ⟨rfl, ((HB0.out.trans (HB.out.mono HB0.out.size)).trans (hb3.mono (Nat.le_trans HB0.out.size HB.out.size))).trans (below_grown hg5 (Nat.le_refl _) (Nat.le_trans HB0.out.size (Nat.le_trans HB.out.size hb3.size)))⟩
end Go.Proofs.YtcildaeiogdfdaaGreatDoor
/-
  The walk of package head's Unpack, whole.
-/
namespace Go.Proofs.YtcildaeiogdfdaaGreatDoor
open Go.RowKit
set_option maxRecDepth 10000

set_option maxHeartbeats 1000000 in
theorem unp_short (s : ByteArray) (w : World) (h : (s.size : Int) < 128) : Calls Tryz.prog 10 #[.string s] w (HE w (hd0, [], 4)) := by
  go_enter Tryz.func10, Tryz.ntmps10
  go_wp2_with fail
  refine bodyPost_ret (v := .tuple #[hd0.val, .string ⟨#[]⟩, .int .i64 4]) (results_cell2 rfl _ _ w.heap.size 42 hd0.cells (0, 0) _ _ _ rfl rfl rfl (heap_alloc_new _ _) Tryz.underlying42 rfl (hcells_size hd0)) rfl ?_
  exact ⟨rfl, (Below.refl _ _).alloc (Nat.le_refl _) _⟩
theorem unp_any (s : ByteArray) (w : World) (hf : Fd w) (hbig : s.size ≤ 281474976710656) : Calls Tryz.prog 10 #[.string s] w (HE w (unpackS (sb s))) := by
  by_cases h : s.size < 128
  · have e : unpackS (sb s) = (hd0, [], 4) := by
      unfold unpackS
      rw [if_pos (by rw [sb_len]; exact h)]
    rw [e]
    exact unp_short s w (by omega)
  · exact unp_try s w hf (by omega) hbig
end Go.Proofs.YtcildaeiogdfdaaGreatDoor
/-
  Small words that the texts of this seat share: structs held against each other, loaded, stored, told.
-/
namespace Go.Proofs.YtcildaeiogdfdaaGreatDoor
open Go.RowKit
set_option maxRecDepth 10000

theorem eqF_int {P : Program} {W : World} (d : Nat) (xs ys : Array Value) (f : Field) (fs : List Field) (k : IntKind) (a b : Int) (hn : f.name ≠ "_") (hx : (part f.type xs f.offset).run P W = .ok (.int k a) W) (hy : (part f.type ys f.offset).run P W = .ok (.int k b) W) (ht : P.underlying f.type = some (.int k)) :
    (Op.eqFields (d + 1) xs ys (f :: fs)).run P W = if a = b then (Op.eqFields (d + 1) xs ys fs).run P W else .ok false W := by
  simp only [Op.eqFields, if_pos hn, Sem.run_bind, hx, hy, Result.andThen_ok, run_equalIn_int W d f.type k k a b ht]
  by_cases h : a = b
  · subst h
    simp
  · simp [h]
theorem eqF_nil {P : Program} {W : World} (d : Nat) (xs ys : Array Value) : (Op.eqFields d xs ys []).run P W = .ok true W := by simp [Op.eqFields]
theorem part_int {P : Program} {W : World} (t : TypeId) (xs : Array Value) (i : Nat) (v : Value) (ik : IntKind) (ht : P.underlying t = some (.int ik)) (hs : (P.info? t).map (·.size) = some 1) (hv : xs[i]? = some v) : (part t xs i).run P W = .ok v W := by
  obtain ⟨j, hj, hjs⟩ := Option.map_eq_some_iff.1 hs
  simp [part, isAgg, run_underlying ht, sizeOf, typeInfo, hj, hjs, hv]
theorem sizeInt : (Tryz.prog.info? 3).map (·.size) = some 1 := by kernel_rfl
theorem sizeU64 : (Tryz.prog.info? 23).map (·.size) = some 1 := by kernel_rfl
theorem headFields : (Tryz.prog.fieldsOf 42).toList = [{ name := "Kind", type := 3, offset := 0, embedded := false, tag := "", pkgPath := "", byteOffset := 0 }, { name := "From", type := 3, offset := 1, embedded := false, tag := "", pkgPath := "", byteOffset := 8 }, { name := "Operation", type := 3, offset := 2, embedded := false, tag := "", pkgPath := "", byteOffset := 16 }, { name := "View", type := 3, offset := 3, embedded := false, tag := "", pkgPath := "", byteOffset := 24 }, { name := "Op", type := 3, offset := 4, embedded := false, tag := "", pkgPath := "", byteOffset := 32 }, { name := "Commit", type := 3, offset := 5, embedded := false, tag := "", pkgPath := "", byteOffset := 40 }, { name := "Client", type := 3, offset := 6, embedded := false, tag := "", pkgPath := "", byteOffset := 48 }, { name := "Session", type := 3, offset := 7, embedded := false, tag := "", pkgPath := "", byteOffset := 56 }, { name := "Request", type := 3, offset := 8, embedded := false, tag := "", pkgPath := "", byteOffset := 64 }, { name := "A", type := 3, offset := 9, embedded := false, tag := "", pkgPath := "", byteOffset := 72 }, { name := "B", type := 3, offset := 10, embedded := false, tag := "", pkgPath := "", byteOffset := 80 }, { name := "Parent", type := 23, offset := 11, embedded := false, tag := "", pkgPath := "", byteOffset := 88 }] := by kernel_rfl
set_option maxHeartbeats 1000000 in
theorem eql_head (h g : Hd) (W : World) : (Op.equalIn 10000 42 (.agg h.cells) (.agg g.cells)).run Tryz.prog W = .ok (decide (h = g)) W := by
  rw [run_equalIn_struct W 9999 42 h.cells g.cells (by kernel_rfl) (by kernel_rfl), headFields]
  have x0 : h.cells[0]? = some (.int .i64 (h.kind : Int)) := rfl
  have y0 : g.cells[0]? = some (.int .i64 (g.kind : Int)) := rfl
  have x1 : h.cells[1]? = some (.int .i64 (h.frm : Int)) := rfl
  have y1 : g.cells[1]? = some (.int .i64 (g.frm : Int)) := rfl
  have x2 : h.cells[2]? = some (.int .i64 (h.oper : Int)) := rfl
  have y2 : g.cells[2]? = some (.int .i64 (g.oper : Int)) := rfl
  have x3 : h.cells[3]? = some (.int .i64 (h.view : Int)) := rfl
  have y3 : g.cells[3]? = some (.int .i64 (g.view : Int)) := rfl
  have x4 : h.cells[4]? = some (.int .i64 (h.opn : Int)) := rfl
  have y4 : g.cells[4]? = some (.int .i64 (g.opn : Int)) := rfl
  have x5 : h.cells[5]? = some (.int .i64 (h.commit : Int)) := rfl
  have y5 : g.cells[5]? = some (.int .i64 (g.commit : Int)) := rfl
  have x6 : h.cells[6]? = some (.int .i64 (h.client : Int)) := rfl
  have y6 : g.cells[6]? = some (.int .i64 (g.client : Int)) := rfl
  have x7 : h.cells[7]? = some (.int .i64 (h.session : Int)) := rfl
  have y7 : g.cells[7]? = some (.int .i64 (g.session : Int)) := rfl
  have x8 : h.cells[8]? = some (.int .i64 (h.request : Int)) := rfl
  have y8 : g.cells[8]? = some (.int .i64 (g.request : Int)) := rfl
  have x9 : h.cells[9]? = some (.int .i64 (h.a : Int)) := rfl
  have y9 : g.cells[9]? = some (.int .i64 (g.a : Int)) := rfl
  have x10 : h.cells[10]? = some (.int .i64 (h.b : Int)) := rfl
  have y10 : g.cells[10]? = some (.int .i64 (g.b : Int)) := rfl
  have x11 : h.cells[11]? = some (.int .u64 (h.parent : Int)) := rfl
  have y11 : g.cells[11]? = some (.int .u64 (g.parent : Int)) := rfl
  generalize h.cells = X at *
  generalize g.cells = Y at *
  rw [eqF_int (P := Tryz.prog) (W := W) 9998 X Y { name := "Kind", type := 3, offset := 0, embedded := false, tag := "", pkgPath := "", byteOffset := 0 } _ .i64 (h.kind : Int) (g.kind : Int) (by simp) (part_int 3 X 0 _ .i64 Tryz.underlying3 sizeInt x0) (part_int 3 Y 0 _ .i64 Tryz.underlying3 sizeInt y0) Tryz.underlying3]
  rw [eqF_int (P := Tryz.prog) (W := W) 9998 X Y { name := "From", type := 3, offset := 1, embedded := false, tag := "", pkgPath := "", byteOffset := 8 } _ .i64 (h.frm : Int) (g.frm : Int) (by simp) (part_int 3 X 1 _ .i64 Tryz.underlying3 sizeInt x1) (part_int 3 Y 1 _ .i64 Tryz.underlying3 sizeInt y1) Tryz.underlying3]
  rw [eqF_int (P := Tryz.prog) (W := W) 9998 X Y { name := "Operation", type := 3, offset := 2, embedded := false, tag := "", pkgPath := "", byteOffset := 16 } _ .i64 (h.oper : Int) (g.oper : Int) (by simp) (part_int 3 X 2 _ .i64 Tryz.underlying3 sizeInt x2) (part_int 3 Y 2 _ .i64 Tryz.underlying3 sizeInt y2) Tryz.underlying3]
  rw [eqF_int (P := Tryz.prog) (W := W) 9998 X Y { name := "View", type := 3, offset := 3, embedded := false, tag := "", pkgPath := "", byteOffset := 24 } _ .i64 (h.view : Int) (g.view : Int) (by simp) (part_int 3 X 3 _ .i64 Tryz.underlying3 sizeInt x3) (part_int 3 Y 3 _ .i64 Tryz.underlying3 sizeInt y3) Tryz.underlying3]
  rw [eqF_int (P := Tryz.prog) (W := W) 9998 X Y { name := "Op", type := 3, offset := 4, embedded := false, tag := "", pkgPath := "", byteOffset := 32 } _ .i64 (h.opn : Int) (g.opn : Int) (by simp) (part_int 3 X 4 _ .i64 Tryz.underlying3 sizeInt x4) (part_int 3 Y 4 _ .i64 Tryz.underlying3 sizeInt y4) Tryz.underlying3]
  rw [eqF_int (P := Tryz.prog) (W := W) 9998 X Y { name := "Commit", type := 3, offset := 5, embedded := false, tag := "", pkgPath := "", byteOffset := 40 } _ .i64 (h.commit : Int) (g.commit : Int) (by simp) (part_int 3 X 5 _ .i64 Tryz.underlying3 sizeInt x5) (part_int 3 Y 5 _ .i64 Tryz.underlying3 sizeInt y5) Tryz.underlying3]
  rw [eqF_int (P := Tryz.prog) (W := W) 9998 X Y { name := "Client", type := 3, offset := 6, embedded := false, tag := "", pkgPath := "", byteOffset := 48 } _ .i64 (h.client : Int) (g.client : Int) (by simp) (part_int 3 X 6 _ .i64 Tryz.underlying3 sizeInt x6) (part_int 3 Y 6 _ .i64 Tryz.underlying3 sizeInt y6) Tryz.underlying3]
  rw [eqF_int (P := Tryz.prog) (W := W) 9998 X Y { name := "Session", type := 3, offset := 7, embedded := false, tag := "", pkgPath := "", byteOffset := 56 } _ .i64 (h.session : Int) (g.session : Int) (by simp) (part_int 3 X 7 _ .i64 Tryz.underlying3 sizeInt x7) (part_int 3 Y 7 _ .i64 Tryz.underlying3 sizeInt y7) Tryz.underlying3]
  rw [eqF_int (P := Tryz.prog) (W := W) 9998 X Y { name := "Request", type := 3, offset := 8, embedded := false, tag := "", pkgPath := "", byteOffset := 64 } _ .i64 (h.request : Int) (g.request : Int) (by simp) (part_int 3 X 8 _ .i64 Tryz.underlying3 sizeInt x8) (part_int 3 Y 8 _ .i64 Tryz.underlying3 sizeInt y8) Tryz.underlying3]
  rw [eqF_int (P := Tryz.prog) (W := W) 9998 X Y { name := "A", type := 3, offset := 9, embedded := false, tag := "", pkgPath := "", byteOffset := 72 } _ .i64 (h.a : Int) (g.a : Int) (by simp) (part_int 3 X 9 _ .i64 Tryz.underlying3 sizeInt x9) (part_int 3 Y 9 _ .i64 Tryz.underlying3 sizeInt y9) Tryz.underlying3]
  rw [eqF_int (P := Tryz.prog) (W := W) 9998 X Y { name := "B", type := 3, offset := 10, embedded := false, tag := "", pkgPath := "", byteOffset := 80 } _ .i64 (h.b : Int) (g.b : Int) (by simp) (part_int 3 X 10 _ .i64 Tryz.underlying3 sizeInt x10) (part_int 3 Y 10 _ .i64 Tryz.underlying3 sizeInt y10) Tryz.underlying3]
  rw [eqF_int (P := Tryz.prog) (W := W) 9998 X Y { name := "Parent", type := 23, offset := 11, embedded := false, tag := "", pkgPath := "", byteOffset := 88 } _ .u64 (h.parent : Int) (g.parent : Int) (by simp) (part_int 23 X 11 _ .u64 Tryz.underlying23 sizeU64 x11) (part_int 23 Y 11 _ .u64 Tryz.underlying23 sizeU64 y11) Tryz.underlying23]
  rw [eqF_nil]
  clear x0 y0 x1 y1 x2 y2 x3 y3 x4 y4 x5 y5 x6 y6 x7 y7 x8 y8 x9 y9 x10 y10 x11 y11
  obtain ⟨kind1, frm1, oper1, view1, opn1, commit1, client1, session1, request1, a1, b1, parent1⟩ := h
  obtain ⟨kind2, frm2, oper2, view2, opn2, commit2, client2, session2, request2, a2, b2, parent2⟩ := g
  have hp : (parent1 = parent2) = ((parent1 : Int) = (parent2 : Int)) := by rw [Int.natCast_inj]
  simp only [Hd.mk.injEq, hp]
  by_cases c0 : kind1 = kind2
  case neg => simp [c0]
  by_cases c1 : frm1 = frm2
  case neg => simp [c1]
  by_cases c2 : oper1 = oper2
  case neg => simp [c2]
  by_cases c3 : view1 = view2
  case neg => simp [c3]
  by_cases c4 : opn1 = opn2
  case neg => simp [c4]
  by_cases c5 : commit1 = commit2
  case neg => simp [c5]
  by_cases c6 : client1 = client2
  case neg => simp [c6]
  by_cases c7 : session1 = session2
  case neg => simp [c7]
  by_cases c8 : request1 = request2
  case neg => simp [c8]
  by_cases c9 : a1 = a2
  case neg => simp [c9]
  by_cases c10 : b1 = b2
  case neg => simp [c10]
  by_cases c11 : (parent1 : Int) = (parent2 : Int)
  case neg => simp [c11]
  simp [*]
theorem part_str {P : Program} {W : World} (t : TypeId) (xs : Array Value) (i : Nat) (v : Value) (ht : P.underlying t = some .string) (hs : (P.info? t).map (·.size) = some 1) (hv : xs[i]? = some v) : (part t xs i).run P W = .ok v W := by
  obtain ⟨j, hj, hjs⟩ := Option.map_eq_some_iff.1 hs
  simp [part, isAgg, run_underlying ht, sizeOf, typeInfo, hj, hjs, hv]
theorem sizeStr : (Tryz.prog.info? 9).map (·.size) = some 1 := by kernel_rfl
theorem eqF_strs {P : Program} {W : World} (d : Nat) (xs ys : Array Value) (f : Field) (fs : List Field) (a b : ByteArray) (hn : f.name ≠ "_") (hx : (part f.type xs f.offset).run P W = .ok (.string a) W) (hy : (part f.type ys f.offset).run P W = .ok (.string b) W) (ht : P.underlying f.type = some .string) :
    (Op.eqFields (d + 1) xs ys (f :: fs)).run P W = if a = b then (Op.eqFields (d + 1) xs ys fs).run P W else .ok false W := by
  simp only [Op.eqFields, if_pos hn, Sem.run_bind, hx, hy, Result.andThen_ok, run_equalIn_string W d f.type a b ht]
  by_cases h : a = b
  · subst h
    simp
  · have h2 := str_ne h
    simp [h, h2]
theorem Row.at_ {w : World} {g : Nat} {e : TypeId} {cs : List Value} (h : Row w g e cs) (i : Nat) (u : Value) (hu : cs[i]? = some u) : w.cell? ⟨g, i, none⟩ = some u := (h.cell i).trans hu
/-- a load under a guard that says yes -/
theorem wpl_load_want {P : Program} {ops : Array Oper} {rest : List Oper} {o : Oper} {a : Act} {w : World} {Q : Exit → Act → World → Prop} (hw : Region.wanted o (yielded ops a.tmps) = true) (ty : TypeId) (x : Operand) (ho : o.op = .load ty x)
    (g : Nat) (hx : a.eval x = .pointer (some ⟨g, 0, none⟩)) (t : TypeId) (cs : Array Value) (fr : Nat × Nat) (d : TypeDesc) (hg : w.heap[g]? = some (.cells cs t fr))
    (hu : P.underlying ty = some d) (hd : (match d with | .struct _ | .array _ _ => true | _ => false) = true) (hi : (P.info? ty).map (·.size) = some cs.size)
    (h : wpList P ops Q rest (a.put o.dst (.agg cs)) w) : wpList P ops Q (o :: rest) a w :=
  BigFrame.wpList_want hw fun _ hK => wp_load_row ty x ho g hx t cs fr d hg hu hd hi (hK _ _ h)
/-- a store of a struct -/
theorem wpl_store_st {P : Program} {ops : Array Oper} {rest : List Oper} {o : Oper} {a : Act} {w : World} {Q : Exit → Act → World → Prop} (hgd : o.guard = none) {T : TypeId} (x y : Operand) (ho : o.op = .store T x y) {n : Nat} (hn : (P.info? T).map (·.size) = some n)
    (g : Nat) (cs0 cs : Array Value) (hx : a.eval x = .pointer (some ⟨g, 0, none⟩)) (hy : a.eval y = .agg cs) (hrow : Row w g T cs0.toList)
    (hK : ∀ w', Row w' g T cs.toList → w.grownBy w' (some g) → wpList P ops Q rest (a.put o.dst undef) w')
    (h0 : Hid (cs0.size = n)) (h1 : Hid (cs.size = n)) (hone : Hid (cs.all (·.oneCell') = true)) : wpList P ops Q (o :: rest) a w :=
  wpList_plain hgd fun _ hK' => wp_store_row T x y ho g cs hx hy T cs0 hrow.arr (by rw [hn, h1.out]) (by simp [h0.out, h1.out]) (by simpa using hone.out)
    (hK' _ _ (hK _ (by
      have := setRow_heap w g cs0 cs T (0, 0) hrow.arr
      simpa [Row] using this) (grownBy_setRow w g _)))
/-- a store of one cell -/
theorem wpl_store_c {P : Program} {ops : Array Oper} {rest : List Oper} {o : Oper} {a : Act} {w : World} {Q : Exit → Act → World → Prop} (hgd : o.guard = none) (T : TypeId) (x y : Operand) (ho : o.op = .store T x y)
    (g i : Nat) (v : Value) (hx : a.eval x = .pointer (some ⟨g, i, none⟩)) (hy : a.eval y = v) {E : TypeId} {xs : List Value} (hrow : Row w g E xs) (hs : (P.info? T).map (·.size) = some 1)
    (hK : ∀ w', Row w' g E (xs.set i v) → w.grownBy w' (some g) → wpList P ops Q rest (a.put o.dst undef) w')
    (hi : Hid (i < xs.length)) (hone : Hid (v.oneCell' = true)) : wpList P ops Q (o :: rest) a w :=
  wpList_plain hgd fun _ hK' => by
    have h1 := run_storeCells_cells (P := P) g i [v] 0 w (fun j hj => by
      have : j = 0 := by simpa using hj
      subst this
      show (w.cell? ⟨g, i, none⟩).isSome = true
      rw [hrow.cell, List.getElem?_eq_getElem hi.out]; rfl) (fun j hj => hrow.frozen _) (fun u hu => by rw [List.mem_singleton.1 hu]; exact hone.out)
    have hc : v.cells = #[v] := by
      have := hone.out
      cases v <;> first | rfl | cases this
    have hrun : (storeVar T ⟨g, i, none⟩ v).run P w = .ok () (w.setCell ⟨g, i, none⟩ v) := by
      obtain ⟨j, hj, hjs⟩ := Option.map_eq_some_iff.1 hs
      simp only [Nat.add_zero] at h1
      simp [storeVar, sizeOf, typeInfo, hj, hjs, hc, h1]
      rfl
    unfold Oper.wp execOp
    simp only [ho, hx, hy, Instr.storeAt, Instr.sureAddr, Sem.run_bind, Sem.run_pure, Result.andThen_ok, hrun]
    exact hK' _ _ (hK _ (hrow.set_ i v) ⟨rfl, rfl, rfl, by simp, fun k _ hr => heap_setCell_other w ⟨g, i, none⟩ k v (by intro e; exact hr (by rw [e]))⟩)
theorem results_cell1 {P : Program} {fn : Func} {p u : Tmp} {ty : TypeId} (h : fn.results = #[.cell p ty, .tmp u]) (tmps : Array Value) (w : World) (g : Nat) (e : TypeId) (cs : Array Value) (fr : Nat × Nat) (d : TypeDesc) (y : Value)
    (hy : tmps.getD u undef = y) (hp : tmps.getD p undef = .pointer (some ⟨g, 0, none⟩)) (hg : w.heap[g]? = some (.cells cs e fr))
    (hu : P.underlying ty = some d) (hd : (match d with | .struct _ | .array _ _ => true | _ => false) = true) (hi : (P.info? ty).map (·.size) = some cs.size) :
    (results fn tmps).run P w = .ok (.tuple #[.agg cs, y]) w := by
  subst hy
  have hp' : tmps[p]?.getD undef = .pointer (some ⟨g, 0, none⟩) := by simpa using hp
  simp [results, h, hp', asAddr, run_loadVar_row w g e ty cs fr d hg hu hd hi]
end Go.Proofs.YtcildaeiogdfdaaGreatDoor
/-
  Entries and marks in plain words and in memory; an entry that may be.
-/
namespace Go.Proofs.YtcildaeiogdfdaaGreatDoor
open Go.RowKit
set_option maxRecDepth 10000

/-- an entry -/
structure En where
  view : Int
  opn : Int
  under : Int
  parent : Nat
  client : Int
  session : Int
  request : Int
  oper : Int
  body : ByteArray
def En.cells (e : En) : Array Value := #[.int .i64 e.view, .int .i64 e.opn, .int .i64 e.under, .int .u64 (e.parent : Int), .int .i64 e.client, .int .i64 e.session, .int .i64 e.request, .int .i64 e.oper, .string e.body]
def En.val (e : En) : Value := .agg e.cells
def en0 : En := ⟨0, 0, 0, 0, 0, 0, 0, 0, ⟨#[]⟩⟩
/-- an entry of the machine's -/
def En.fits (e : En) : Prop := (In64 e.view ∧ In64 e.opn ∧ In64 e.under ∧ In64 e.client) ∧ (In64 e.session ∧ In64 e.request ∧ In64 e.oper) ∧ e.parent < 18446744073709551616
/-- a mark -/
structure Mk where
  opn : Int
  view : Int
  sum : Nat
deriving DecidableEq
def Mk.cells (m : Mk) : Array Value := #[.int .i64 m.opn, .int .i64 m.view, .int .u64 (m.sum : Int)]
def Mk.val (m : Mk) : Value := .agg m.cells
def mk0 : Mk := ⟨0, 0, 0⟩
def Mk.fits (m : Mk) : Prop := In64 m.opn ∧ In64 m.view ∧ m.sum < 18446744073709551616
theorem ecells_one (e : En) : e.cells.all (·.oneCell') = true := by simp [En.cells, Value.oneCell']
theorem ecells_size (e : En) : (Tryz.prog.info? 28).map (·.size) = some e.cells.size := by
  show _ = some 9
  kernel_rfl
theorem esize : (Tryz.prog.info? 28).map (·.size) = some 9 := by kernel_rfl
theorem msize : (Tryz.prog.info? 25).map (·.size) = some 3 := by kernel_rfl
/-! ### held against each other -/
theorem entryFields : (Tryz.prog.fieldsOf 28).toList = [{ name := "View", type := 3, offset := 0, embedded := false, tag := "", pkgPath := "", byteOffset := 0 }, { name := "Op", type := 3, offset := 1, embedded := false, tag := "", pkgPath := "", byteOffset := 8 }, { name := "Under", type := 3, offset := 2, embedded := false, tag := "", pkgPath := "", byteOffset := 16 }, { name := "Parent", type := 23, offset := 3, embedded := false, tag := "", pkgPath := "", byteOffset := 24 }, { name := "Client", type := 3, offset := 4, embedded := false, tag := "", pkgPath := "", byteOffset := 32 }, { name := "Session", type := 3, offset := 5, embedded := false, tag := "", pkgPath := "", byteOffset := 40 }, { name := "Request", type := 3, offset := 6, embedded := false, tag := "", pkgPath := "", byteOffset := 48 }, { name := "Operation", type := 3, offset := 7, embedded := false, tag := "", pkgPath := "", byteOffset := 56 }, { name := "Body", type := 9, offset := 8, embedded := false, tag := "", pkgPath := "", byteOffset := 64 }] := by kernel_rfl
theorem markFields : (Tryz.prog.fieldsOf 25).toList = [{ name := "Op", type := 3, offset := 0, embedded := false, tag := "", pkgPath := "", byteOffset := 0 }, { name := "View", type := 3, offset := 1, embedded := false, tag := "", pkgPath := "", byteOffset := 8 }, { name := "Sum", type := 23, offset := 2, embedded := false, tag := "", pkgPath := "", byteOffset := 16 }] := by kernel_rfl
theorem eqMk (x y : Mk) (W : World) : (Op.equalIn 10000 25 (.agg x.cells) (.agg y.cells)).run Tryz.prog W = .ok (decide (x = y)) W := by
  rw [run_equalIn_struct W 9999 25 x.cells y.cells (by kernel_rfl) (by kernel_rfl), markFields]
  have x0 : x.cells[0]? = some (.int .i64 x.opn) := rfl
  have x1 : x.cells[1]? = some (.int .i64 x.view) := rfl
  have x2 : x.cells[2]? = some (.int .u64 (x.sum : Int)) := rfl
  have y0 : y.cells[0]? = some (.int .i64 y.opn) := rfl
  have y1 : y.cells[1]? = some (.int .i64 y.view) := rfl
  have y2 : y.cells[2]? = some (.int .u64 (y.sum : Int)) := rfl
  generalize x.cells = X at *
  generalize y.cells = Y at *
  rw [eqF_int (P := Tryz.prog) (W := W) 9998 X Y { name := "Op", type := 3, offset := 0, embedded := false, tag := "", pkgPath := "", byteOffset := 0 } _ .i64 x.opn y.opn (by simp) (part_int 3 X 0 _ .i64 Tryz.underlying3 sizeInt x0) (part_int 3 Y 0 _ .i64 Tryz.underlying3 sizeInt y0) Tryz.underlying3]
  rw [eqF_int (P := Tryz.prog) (W := W) 9998 X Y { name := "View", type := 3, offset := 1, embedded := false, tag := "", pkgPath := "", byteOffset := 8 } _ .i64 x.view y.view (by simp) (part_int 3 X 1 _ .i64 Tryz.underlying3 sizeInt x1) (part_int 3 Y 1 _ .i64 Tryz.underlying3 sizeInt y1) Tryz.underlying3]
  rw [eqF_int (P := Tryz.prog) (W := W) 9998 X Y { name := "Sum", type := 23, offset := 2, embedded := false, tag := "", pkgPath := "", byteOffset := 16 } _ .u64 (x.sum : Int) (y.sum : Int) (by simp) (part_int 23 X 2 _ .u64 Tryz.underlying23 sizeU64 x2) (part_int 23 Y 2 _ .u64 Tryz.underlying23 sizeU64 y2) Tryz.underlying23]
  rw [eqF_nil]
  obtain ⟨o1, v1, s1⟩ := x
  obtain ⟨o2, v2, s2⟩ := y
  simp only [Mk.mk.injEq]
  by_cases c0 : o1 = o2
  case neg => simp [c0]
  by_cases c1 : v1 = v2
  case neg => simp [c1]
  by_cases c2 : (s1 : Int) = (s2 : Int)
  case neg => simp [c2]; omega
  simp [*]
  omega
theorem egEn : Tryz.prog.eqGuardType Tryz.prog.depth 28 = false := by kernel_rfl
theorem egMk : Tryz.prog.eqGuardType Tryz.prog.depth 25 = false := by kernel_rfl
section
variable {ops : Array Oper} {rest : List Oper} {o : Oper} {a : Act} {w : World} {Q : Exit → Act → World → Prop}
theorem wpl_eqm (hw : Region.wanted o (yielded ops a.tmps) = true) (s t : Mk) (b : Bool) (x y : Operand) (ty : TypeId) (ho : o.op = .binOp .eql 25 x y ty)
    (hx : a.eval x = .agg s.cells) (hy : a.eval y = .agg t.cells) (hb : Hid (decide (s = t) = b)) (h : wpList Tryz.prog ops Q rest (a.put o.dst (.bool b)) w) : wpList Tryz.prog ops Q (o :: rest) a w := by
  refine BigFrame.wpList_want hw fun K hK => ?_
  have hEQ := eqMk s t w
  have hEG := egMk
  rw [hb.out] at hEQ
  generalize s.cells = Z at *
  generalize t.cells = Y at *
  unfold Oper.wp execOp
  simp [ho, hx, hy, eqGuard, hEG, binOp, Op.equal, Op.maxDepth, hEQ, Result.andThen]
  exact hK _ _ h
end

/-! ### an entry that may be -/
/-- its numbers and its body are within their bounds -/
def Rt (e : En) : Prop := (1 ≤ e.opn ∧ e.opn ≤ 72057594037927935) ∧ (1 ≤ e.client ∧ e.client ≤ 72057594037927935) ∧ (0 ≤ e.view ∧ e.view ≤ 72057594037927935) ∧ (0 ≤ e.under ∧ e.under ≤ 72057594037927935) ∧
  (0 ≤ e.session ∧ e.session ≤ 72057594037927935) ∧ (0 ≤ e.request ∧ e.request ≤ 72057594037927935) ∧ (1 ≤ e.oper ∧ e.oper ≤ 255) ∧ e.under ≤ e.view ∧ (e.body.size : Int) ≤ 200
instance (e : En) : Decidable (Rt e) := by unfold Rt; infer_instance
/-- what Follows answers -/
def Fol (m : Mk) (e : En) : Prop := Rt e ∧ e.opn - 1 = m.opn ∧ e.under = m.view ∧ e.parent = m.sum
instance (m : Mk) (e : En) : Decidable (Fol m e) := by unfold Fol; infer_instance
/-- ints as values -/
def ivs (l : List Int) : List Value := l.map fun n => .int .i64 n
/-- all within -/
def wi (lo hi : Int) (l : List Int) : Bool := l.all fun n => decide (lo ≤ n ∧ n ≤ hi)
theorem wi_snoc (lo hi : Int) (l : List Int) (k : Nat) (h : k < l.length) (ht : wi lo hi (l.take k) = true) (hk : lo ≤ l[k] ∧ l[k] ≤ hi) : wi lo hi (l.take (k + 1)) = true := by
  rw [List.take_succ_eq_append_getElem h]
  unfold wi at ht ⊢
  rw [List.all_append, ht]
  simp [hk]
theorem wi_not (lo hi : Int) (l : List Int) (k : Nat) (h : k < l.length) (hk : ¬ (lo ≤ l[k] ∧ l[k] ≤ hi)) : wi lo hi l = false := by
  rw [← Bool.not_eq_true]
  intro e
  have := List.all_eq_true.1 e l[k] (List.getElem_mem h)
  exact hk (by simpa using this)
end Go.Proofs.YtcildaeiogdfdaaGreatDoor
/-
  The walks of package entry's within, Right.
-/
namespace Go.Proofs.YtcildaeiogdfdaaGreatDoor
open Go.RowKit
set_option maxRecDepth 10000

theorem ivs_len (l : List Int) : (ivs l).length = l.length := by simp [ivs]
set_option maxHeartbeats 1000000 in
theorem within_any (lo hi : Int) (A : Option Addr) (c B : Nat) (l : List Int) (w : World) (hr : Rd w B A (ivs l)) (hl : l.length ≤ 1000) (hpos : 0 < l.length) (hc : l.length ≤ c) :
    Calls Tryz.prog 79 #[.int .i64 lo, .int .i64 hi, .slice A l.length c] w fun e w' => e = .returned (.bool (wi lo hi l)) ∧ w = w' := by
  obtain ⟨g, o, rfl, -, hcell⟩ := hr (by intro e; have := ivs_len l; rw [e] at this; simp at this; omega)
  have HC : Hid (∀ k, (h : k < l.length) → w.cell? ⟨g, o + k, none⟩ = some (.int .i64 l[k])) := hid fun k h => hcell k _ (by simp [ivs, h])
  obtain ⟨n, hn⟩ : ∃ n, n = l.length := ⟨_, rfl⟩
  rw [← hn] at hl hpos hc ⊢
  have HN := hid hn
  clear hr hcell hn
  go_enter Tryz.func79, Tryz.ntmps79
  go_wp2_with fail
  go_loop [11] (fun i => ∃ k : Nat, k ≤ n ∧ i = .int .i64 k ∧ Hid (wi lo hi (l.take k) = true)) (fun i => n - (intOf i).toNat)
  case atStart => exact ⟨0, by omega, rfl, hid rfl⟩
  case round =>
    obtain ⟨k, hk, rfl, hpast⟩ := hrel
    by_cases hlt : k < n
    · have hkl : k < l.length := by rw [← HN.out]; exact hlt
      have hce := HC.out k hkl
      have HS := hid (wi_snoc lo hi l k hkl hpast.out)
      have HX := hid (wi_not lo hi l k hkl)
      generalize l[k] = x at hce HS HX
      by_cases h1 : x < lo
      · go_wp2_with fail
        go_ret
        rw [HX.out (by omega)]
        exact ⟨rfl, rfl⟩
      · by_cases h2 : hi < x
        · go_wp2_with fail
          go_ret
          rw [HX.out (by omega)]
          exact ⟨rfl, rfl⟩
        · go_wp2_with fail
          go_round
          case rel => exact ⟨k + 1, by omega, by go_num, hid (HS.out (by omega))⟩
          case measure => simp [intOf]; omega
    · obtain rfl : k = n := by omega
      go_wp2_with fail
      go_ret
      have hy := hpast.out
      rw [List.take_of_length_le (by rw [HN.out]; exact Nat.le_refl _)] at hy
      rw [hy]
      exact ⟨rfl, rfl⟩
/-- over a list that was just laid -/
theorem wiA (lo hi : Int) (l : List Int) (cs : Array Value) (n : Nat) (hl : l.length ≤ 1000) (hpos : 0 < l.length) (hcs : cs.toList = ivs l) (hn : l.length = n) (W : World) (g : Nat) (hg : g = W.heap.size) :
    Calls Tryz.prog 79 #[.int .i64 lo, .int .i64 hi, .slice (some ⟨g, 0, none⟩) n n] (W.alloc (.cells cs 3)) fun e w' => e = .returned (.bool (wi lo hi l)) ∧ (W.alloc (.cells cs 3)) = w' := by
  subst hg hn
  have := Row.new W 3 cs
  rw [hcs] at this
  exact within_any lo hi _ _ (W.heap.size + 1) l _ (this.rd (by omega)) hl hpos (Nat.le_refl _)
theorem rt_iff (e : En) : Rt e ↔ (wi 1 72057594037927935 [e.opn, e.client] = true ∧ wi 0 72057594037927935 [e.view, e.under, e.session, e.request] = true ∧ wi 1 255 [e.oper] = true ∧ e.under ≤ e.view ∧ (e.body.size : Int) ≤ 200) := by
  unfold Rt wi
  simp
  constructor
  · rintro ⟨⟨a1, a2⟩, ⟨b1, b2⟩, ⟨c1, c2⟩, ⟨d1, d2⟩, ⟨e1, e2⟩, ⟨f1, f2⟩, ⟨g1, g2⟩, h1, h2⟩
    exact ⟨⟨⟨a1, a2⟩, b1, b2⟩, ⟨⟨c1, c2⟩, ⟨d1, d2⟩, ⟨e1, e2⟩, f1, f2⟩, ⟨g1, g2⟩, h1, h2⟩
  · rintro ⟨⟨⟨a1, a2⟩, b1, b2⟩, ⟨⟨c1, c2⟩, ⟨d1, d2⟩, ⟨e1, e2⟩, f1, f2⟩, ⟨g1, g2⟩, h1, h2⟩
    exact ⟨⟨a1, a2⟩, ⟨b1, b2⟩, ⟨c1, c2⟩, ⟨d1, d2⟩, ⟨e1, e2⟩, ⟨f1, f2⟩, ⟨g1, g2⟩, h1, h2⟩
set_option maxHeartbeats 2000000 in
theorem eright_any (e : En) (w : World) : Calls Tryz.prog 48 #[e.val] w (VE w (.bool (decide (Rt e)))) := by
  have hb : decide (Rt e) = (wi 1 72057594037927935 [e.opn, e.client] && wi 0 72057594037927935 [e.view, e.under, e.session, e.request] && wi 1 255 [e.oper] && decide (e.under ≤ e.view) && decide ((e.body.size : Int) ≤ 200)) := by
    rw [Bool.eq_iff_iff, decide_eq_true_iff, rt_iff e]
    simp only [Bool.and_eq_true, decide_eq_true_eq, and_assoc]
  rw [hb]
  clear hb
  have HW1 := hid (wiA 1 72057594037927935 [e.opn, e.client] #[.int .i64 e.opn, .int .i64 e.client] 2 (by simp) (by simp) rfl rfl)
  have HW2 := hid (wiA 0 72057594037927935 [e.view, e.under, e.session, e.request] #[.int .i64 e.view, .int .i64 e.under, .int .i64 e.session, .int .i64 e.request] 4 (by simp) (by simp) rfl rfl)
  have HW3 := hid (wiA 1 255 [e.oper] #[.int .i64 e.oper] 1 (by simp) (by simp) rfl rfl)
  generalize wi 1 72057594037927935 [e.opn, e.client] = b1 at *
  generalize wi 0 72057594037927935 [e.view, e.under, e.session, e.request] = b2 at *
  generalize wi 1 255 [e.oper] = b3 at *
  obtain ⟨view, opn, under, parent, client, session, request, oper, body⟩ := e
  show Calls Tryz.prog 48 #[.agg #[.int .i64 view, .int .i64 opn, .int .i64 under, .int .u64 (parent : Int), .int .i64 client, .int .i64 session, .int .i64 request, .int .i64 oper, .string body]] w (VE w (.bool (b1 && b2 && b3 && decide (under ≤ view) && decide ((body.size : Int) ≤ 200))))
  go_enter Tryz.func48, Tryz.ntmps48
  go_wp2_with (first
    | (go_at_call 79; refine (HW1.out _ _ (by simp)).mono ?_; rintro e w' ⟨rfl, rfl⟩; clear HW1)
    | (go_at_call 79; refine (HW2.out _ _ (by simp)).mono ?_; rintro e w' ⟨rfl, rfl⟩; clear HW2)
    | (go_at_call 79; refine (HW3.out _ _ (by simp)).mono ?_; rintro e w' ⟨rfl, rfl⟩; clear HW3))
  all_goals (go_ret; refine ⟨by simp [*] <;> omega, ?_⟩; repeat' first | exact Below.refl _ _ | refine Below.alloc ?_ (by simp <;> omega) _)
end Go.Proofs.YtcildaeiogdfdaaGreatDoor
/-
  The walks of package entry's headOf, entryOf.
-/
namespace Go.Proofs.YtcildaeiogdfdaaGreatDoor
open Go.RowKit
set_option maxRecDepth 10000

/-- an entry's header; an entry of a header and a body -/
def hof (e : En) : Hd := ⟨255, 0, e.oper, e.view, e.opn, 0, e.client, e.session, e.request, e.under, 0, e.parent⟩
def eof (h : Hd) (b : ByteArray) : En := ⟨h.view, h.opn, h.a, h.parent, h.client, h.session, h.request, h.oper, b⟩
set_option maxHeartbeats 1000000 in
theorem hof_any (e : En) (w : World) : Calls Tryz.prog 84 #[e.val] w (VE w (hof e).val) := by
  obtain ⟨view, opn, under, parent, client, session, request, oper, body⟩ := e
  show Calls Tryz.prog 84 #[.agg #[.int .i64 view, .int .i64 opn, .int .i64 under, .int .u64 (parent : Int), .int .i64 client, .int .i64 session, .int .i64 request, .int .i64 oper, .string body]] w (VE w (.agg #[.int .i64 255, .int .i64 0, .int .i64 oper, .int .i64 view, .int .i64 opn, .int .i64 0, .int .i64 client, .int .i64 session, .int .i64 request, .int .i64 under, .int .i64 0, .int .u64 (parent : Int)]))
  go_enter Tryz.func84, Tryz.ntmps84
  go_wp2_with fail
  refine bodyPost_ret (v := .agg #[.int .i64 255, .int .i64 0, .int .i64 oper, .int .i64 view, .int .i64 opn, .int .i64 0, .int .i64 client, .int .i64 session, .int .i64 request, .int .i64 under, .int .i64 0, .int .u64 (parent : Int)])
    (results_cell_row rfl _ _ (w.heap.size + 1) 42 _ (0, 0) _ rfl (alloc2_new _ _ _) Tryz.underlying42 rfl (by kernel_rfl)) rfl ⟨rfl, ((Below.refl _ _).alloc (Nat.le_refl _) _).alloc (by simp) _⟩
set_option maxHeartbeats 1000000 in
theorem eof_any (h : Hd) (b : ByteArray) (w : World) : Calls Tryz.prog 83 #[h.val, .string b] w (VE w (eof h b).val) := by
  obtain ⟨kind, frm, oper, view, opn, commit, client, session, request, a, bb, parent⟩ := h
  show Calls Tryz.prog 83 #[.agg #[.int .i64 kind, .int .i64 frm, .int .i64 oper, .int .i64 view, .int .i64 opn, .int .i64 commit, .int .i64 client, .int .i64 session, .int .i64 request, .int .i64 a, .int .i64 bb, .int .u64 (parent : Int)], .string b] w (VE w (.agg #[.int .i64 view, .int .i64 opn, .int .i64 a, .int .u64 (parent : Int), .int .i64 client, .int .i64 session, .int .i64 request, .int .i64 oper, .string b]))
  go_enter Tryz.func83, Tryz.ntmps83
  go_wp2_with fail
  refine bodyPost_ret (v := .agg #[.int .i64 view, .int .i64 opn, .int .i64 a, .int .u64 (parent : Int), .int .i64 client, .int .i64 session, .int .i64 request, .int .i64 oper, .string b])
    (results_cell_row rfl _ _ (w.heap.size + 1) 28 _ (0, 0) _ rfl (alloc2_new _ _ _) Tryz.underlying28 rfl (by kernel_rfl)) rfl ⟨rfl, ((Below.refl _ _).alloc (Nat.le_refl _) _).alloc (by simp) _⟩
end Go.Proofs.YtcildaeiogdfdaaGreatDoor
/-
  The walks of the document's fits, Right.
-/
namespace Go.Proofs.YtcildaeiogdfdaaGreatDoor
open Go.RowKit
set_option maxRecDepth 10000

def f9 (n l : Int) : Bool := decide (l ≤ n ∧ n ≤ 72057594037927935)
theorem fits9_any (n l : Int) (b : Bool) (w : World) (h : b = f9 n l) : Calls Tryz.prog 90 #[.int .i64 n, .int .i64 l] w fun e w' => e = .returned (.bool b) ∧ w = w' := by
  subst h
  unfold f9
  by_cases h0 : l ≤ n
  · by_cases h1 : n ≤ 72057594037927935
    · go_enter Tryz.func90, Tryz.ntmps90
      go_wp2
      go_ret
      exact ⟨by simp [h0, h1], rfl⟩
    · go_enter Tryz.func90, Tryz.ntmps90
      go_wp2
      go_ret
      exact ⟨by simp [h1], rfl⟩
  · have h2 : decide (l ≤ n) = false := by simp; omega
    go_enter Tryz.func90, Tryz.ntmps90
    go_wp2
    go_ret
    exact ⟨by first | (simp; done) | (simp; omega), rfl⟩
theorem rt9_iff (e : En) : decide (Rt e) = (f9 e.opn 1 && f9 e.client 1 && f9 e.view 0 && f9 e.under 0 && f9 e.session 0 && f9 e.request 0 && decide (e.under ≤ e.view) && decide (1 ≤ e.oper) && decide (e.oper ≤ 255) && decide ((e.body.size : Int) ≤ 200)) := by
  rw [Bool.eq_iff_iff, decide_eq_true_iff]
  unfold Rt f9
  simp only [Bool.and_eq_true, decide_eq_true_eq]
  constructor
  · rintro ⟨h1, h2, h3, h4, h5, h6, ⟨h7, h8⟩, h9, h10⟩
    exact ⟨⟨⟨⟨⟨⟨⟨⟨⟨h1, h2⟩, h3⟩, h4⟩, h5⟩, h6⟩, h9⟩, h7⟩, h8⟩, h10⟩
  · rintro ⟨⟨⟨⟨⟨⟨⟨⟨⟨h1, h2⟩, h3⟩, h4⟩, h5⟩, h6⟩, h9⟩, h7⟩, h8⟩, h10⟩
    exact ⟨h1, h2, h3, h4, h5, h6, ⟨h7, h8⟩, h9, h10⟩
set_option maxHeartbeats 2000000 in
theorem rright9_any (e : En) (w : World) : Calls Tryz.prog 63 #[e.val] w (VE w (.bool (decide (Rt e)))) := by
  rw [rt9_iff]
  obtain ⟨view, opn, under, parent, client, session, request, oper, body⟩ := e
  show Calls Tryz.prog 63 #[.agg #[.int .i64 view, .int .i64 opn, .int .i64 under, .int .u64 (parent : Int), .int .i64 client, .int .i64 session, .int .i64 request, .int .i64 oper, .string body]] w (VE w (.bool (f9 opn 1 && f9 client 1 && f9 view 0 && f9 under 0 && f9 session 0 && f9 request 0 && decide (under ≤ view) && decide (1 ≤ oper) && decide (oper ≤ 255) && decide ((body.size : Int) ≤ 200))))
  have H1 := hid (fun W => fits9_any opn 1 _ W rfl)
  have H2 := hid (fun W => fits9_any client 1 _ W rfl)
  have H3 := hid (fun W => fits9_any view 0 _ W rfl)
  have H4 := hid (fun W => fits9_any under 0 _ W rfl)
  have H5 := hid (fun W => fits9_any session 0 _ W rfl)
  have H6 := hid (fun W => fits9_any request 0 _ W rfl)
  generalize f9 opn 1 = b1 at *
  generalize f9 client 1 = b2 at *
  generalize f9 view 0 = b3 at *
  generalize f9 under 0 = b4 at *
  generalize f9 session 0 = b5 at *
  generalize f9 request 0 = b6 at *
  go_enter Tryz.func63, Tryz.ntmps63
  go_wp2_with (first
    | (go_at_call 90; refine (H1.out _).mono ?_; rintro e w' ⟨rfl, rfl⟩; clear H1)
    | (go_at_call 90; refine (H2.out _).mono ?_; rintro e w' ⟨rfl, rfl⟩; clear H2)
    | (go_at_call 90; refine (H3.out _).mono ?_; rintro e w' ⟨rfl, rfl⟩; clear H3)
    | (go_at_call 90; refine (H4.out _).mono ?_; rintro e w' ⟨rfl, rfl⟩; clear H4)
    | (go_at_call 90; refine (H5.out _).mono ?_; rintro e w' ⟨rfl, rfl⟩; clear H5)
    | (go_at_call 90; refine (H6.out _).mono ?_; rintro e w' ⟨rfl, rfl⟩; clear H6))
  all_goals (go_ret; refine ⟨by first | (simp [*]; done) | (cases b6 <;> simp_all; done) | (cases b6 <;> simp_all <;> omega), ?_⟩; exact (Below.refl _ _).alloc (Nat.le_refl _) _)
end Go.Proofs.YtcildaeiogdfdaaGreatDoor
