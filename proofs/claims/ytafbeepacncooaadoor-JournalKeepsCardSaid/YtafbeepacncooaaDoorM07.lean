/-
  The walk of Unpack's region that reads the header.
-/
import Derived.Test.YtafbeepacncooaaDoorM05
import Derived.Test.YtafbeepacncooaaDoorM06
import Derived.Deep.RegionHeld
import Derived.Deep.CutRange
import Derived.Deep.DeepCutAuto
import Derived.Laws.StructEq
import Derived.BigFrame
import Derived.Laws.IdiomCopy
import Derived.BigRegion
import Derived.Test.YtafbeepacncooaaDoorM03
import Derived.Test.YtafbeepacncooaaDoorM01
namespace Go.Proofs.YtafbeepacncooaaDoor
open Go.RowKit
set_option maxRecDepth 10000

/-- a header, a text and an error's number -/
def HE (w : World) (r : Hd × List UInt8 × Int) (e : Ending) (w' : World) : Prop := e = .returned (.tuple #[r.1.val, .string ⟨r.2.1.toArray⟩, .int .i64 r.2.2]) ∧ Below w.heap.size w w'
theorem hcells_one (h : Hd) : h.cells.all (·.oneCell') = true := by simp [Hd.cells, Value.oneCell']
theorem hcells_size (h : Hd) : (Tryd.prog.info? 119).map (·.size) = some h.cells.size := by
  show _ = some 12
  kernel_rfl
theorem Row.range {w : World} {g : Nat} {e : TypeId} {cs : List Value} (h : Row w g e cs) : w.rangeAt g 0 cs := fun j v hv => by
  rw [Nat.zero_add, h.cell]
  exact hv
theorem Row.arr {w : World} {g : Nat} {e : TypeId} {cs : Array Value} (h : Row w g e cs.toList) : w.heap[g]? = some (.cells cs e (0, 0)) := by simpa [Row] using h
theorem store_head {o : Oper} {a : Act} {w : World} {K : Act → World → Prop} {Q : Exit → Act → World → Prop} (x y : Operand) (ho : o.op = .store 119 x y) (g : Nat) (h : Hd) (hx : a.eval x = .pointer (some ⟨g, 0, none⟩)) (hy : a.eval y = h.val)
    (hrow : Row w g 119 hd0.cells.toList) (hK : ∀ w', Row w' g 119 h.cells.toList → w.grownBy w' (some g) → K (a.put o.dst undef) w') : o.wp Tryd.prog a w K Q :=
  wp_store_row 119 x y ho g h.cells hx hy 119 hd0.cells hrow (hcells_size h) rfl (hcells_one h) (hK _ (setRow_heap _ g hd0.cells h.cells 119 (0, 0) hrow) (grownBy_setRow w g _))
theorem wpl_store_head {ops : Array Oper} {rest : List Oper} {o : Oper} {a : Act} {w : World} {Q : Exit → Act → World → Prop} (hgd : o.guard = none) (x y : Operand) (ho : o.op = .store 119 x y) (g : Nat) (h : Hd) (hx : a.eval x = .pointer (some ⟨g, 0, none⟩)) (hy : a.eval y = h.val)
    (hrow : Row w g 119 hd0.cells.toList) (hK : ∀ w', Row w' g 119 h.cells.toList → w.grownBy w' (some g) → wpList Tryd.prog ops Q rest (a.put o.dst undef) w') : wpList Tryd.prog ops Q (o :: rest) a w :=
  wpList_plain hgd fun _ hK' => store_head x y ho g h hx hy hrow (fun w' h1 h2 => hK' _ _ (hK w' h1 h2))
theorem results_cell2 {P : Program} {fn : Func} {p t u : Tmp} {ty : TypeId} (h : fn.results = #[.cell p ty, .tmp t, .tmp u]) (tmps : Array Value) (w : World) (g : Nat) (e : TypeId) (cs : Array Value) (fr : Nat × Nat) (d : TypeDesc) (x y : Value)
    (hx : tmps.getD t undef = x) (hy : tmps.getD u undef = y) (hp : tmps.getD p undef = .pointer (some ⟨g, 0, none⟩)) (hg : w.heap[g]? = some (.cells cs e fr))
    (hu : P.underlying ty = some d) (hd : (match d with | .struct _ | .array _ _ => true | _ => false) = true) (hi : (P.info? ty).map (·.size) = some cs.size) :
    (results fn tmps).run P w = .ok (.tuple #[.agg cs, x, y]) w := by
  subst hx hy
  have hp' : tmps[p]?.getD undef = .pointer (some ⟨g, 0, none⟩) := by simpa using hp
  simp [results, h, hp', asAddr, run_loadVar_row w g e ty cs fr d hg hu hd hi]
set_option maxHeartbeats 1000000 in
theorem unp_try (s : ByteArray) (w : World) (hf : Fd w) (h128 : 128 ≤ s.size) (hbig : s.size ≤ 281474976710656) : Calls Tryd.prog 83 #[.string s] w (HE w (unpackS (sb s))) := by
  have hI : ¬ ((s.size : Int) < 128) := by omega
  have hI2 : (128 : Int) ≤ (s.size : Int) := by omega
  have HF := hid hf
  have HBIG : Hid ((s.extract 128 s.size).size ≤ 281474976710656) := hid (by rw [ByteArray.size_extract]; omega)
  clear hf
  have hts : (s.extract 0 128).size = 128 := by simp; omega
  have HT := hid (fun W hW => takeh_any (s.extract 0 128) hts W hW)
  have HH := hid (fun W => header_any (takeN (sb (s.extract 0 128))) (takeN_len _) W)
  have hres : unpackS (sb s) = if packS (hdOf (takeN (sb (s.extract 0 128)))) (sb (s.extract 128 s.size)) = (sb s, 0) then (hdOf (takeN (sb (s.extract 0 128))), sb (s.extract 128 s.size), 0) else (hd0, [], 4) := by
    have e1 : (sb s).take 128 = sb (s.extract 0 128) := by simp [sb]
    have e3 : (s.extract 128 s.size).data.toList = (s.data.toList.drop 128).take (s.size - 128) := by simp
    have e2 : (sb s).drop 128 = sb (s.extract 128 s.size) := by
      rw [sb, sb, e3, List.take_of_length_le]
      rw [List.length_drop, Array.length_toList]
      exact Nat.le_refl _
    unfold unpackS
    rw [if_neg (by rw [sb_len]; omega), e1, e2]
  generalize unpackS (sb s) = r at *
  clear hts
  generalize takeN (sb (s.extract 0 128)) = L at *
  generalize hdOf L = h at *
  have HPK := hid (fun W hW => pack_any h (s.extract 128 s.size) W hW)
  generalize packS h (sb (s.extract 128 s.size)) = P at *
  have HSZ : Hid ((s.extract 128 s.size).size = s.size - 128) := hid (by rw [ByteArray.size_extract]; omega)
  have HRES := hid hres
  clear hres
  go_enter Tryd.func83, Tryd.ntmps83
  go_wp2_with fail
  generalize hW0 : w.alloc _ = W0
  have hb0 : Below w.heap.size w W0 := by rw [← hW0]; exact (Below.refl _ _).alloc (Nat.le_refl _) _
  have hr0 : Row W0 w.heap.size 119 hd0.cells.toList := by rw [← hW0]; exact Row.new _ _ _
  have HB0 := hid hb0
  have HR0 := hid hr0
  have HF0 := hid (HF.out.below hb0 HF.out.1)
  clear hb0 hr0 hW0
  go_cut [5, 6] (fun p r wx => ∃ g, p = .pointer (some ⟨g, 0, none⟩) ∧ r = .string (s.extract 128 s.size) ∧ Row wx g 119 h.cells.toList ∧ W0.heap.size ≤ g ∧ Below W0.heap.size W0 wx)
  case first =>
    refine wp_region_held_drew (S := fun _ => True) (by kernel_rfl) trivial (fun hH => ?_)
    refine wpAnyH_take (i := 0) (v := .string s) rfl (by kernel_rfl) (by kernel_rfl) (by kernel_rfl) (fun _ _ _ h => h) (Or.inl ⟨by rfl, fun w' hw' => by clear hw'; go_simp⟩) hH ?_
    simp only [Act.put]
    refine wpAnyH_take (i := 1) (v := .string (s.extract 0 128)) rfl (by kernel_rfl) (by kernel_rfl) (by kernel_rfl) (fun _ _ _ h => h) (Or.inl ⟨by rfl, fun w' hw' => by clear hw'; go_simp⟩) hH ?_
    simp only [Act.put]
    refine wpAnyH_take (i := 4) (v := .string s) rfl (by kernel_rfl) (by kernel_rfl) (by kernel_rfl) (fun _ _ _ h => h) (Or.inl ⟨by rfl, fun w' hw' => by clear hw'; go_simp⟩) hH ?_
    simp only [Act.put]
    refine wpAnyH_take (i := 5) (v := .string (s.extract 128 s.size)) rfl (by kernel_rfl) (by kernel_rfl) (by kernel_rfl) (fun _ _ _ h => h) (Or.inl ⟨by rfl, fun w' hw' => by clear hw'; go_simp⟩) hH ?_
    simp only [Act.put]
    refine wpAnyH_ready (rs := [2, 6]) (by kernel_rfl) (by simp) ?_
    refine AllReadyH.cons rfl (fun K hK => ?_) (AllReadyH.cons rfl (fun K hK => ?_) AllReadyH.nil)
    · go_simp
      go_at_call 97
      refine (HT.out _ (show Fd (World.drew _) from HF0.out)).mono ?_
      rintro e1 w1 ⟨rfl, hb1x⟩
      have hb1 : Below W0.heap.size W0 w1 := ((Below.refl W0.heap.size W0).drew).trans hb1x
      go_wp2_with fail
      refine hK.out _ _ trivial (fun hH => ?_)
      clear hK K
      try simp only [Act.put]
      refine wpAnyH_ready (rs := [3, 6]) (by kernel_rfl) (by simp) ?_
      refine AllReadyH.cons rfl (fun K hK => ?_) (AllReadyH.cons rfl (fun K hK => ?_) AllReadyH.nil)
      · go_simp
        go_at_call 96
        refine (HH.out _).mono ?_
        rintro e2 w2 ⟨rfl, hb2⟩
        go_wp2_with fail
        refine hK.out _ _ trivial (fun hH => ?_)
        clear hK K
        try simp only [Act.put]
        refine wpAnyH_ready (rs := [6]) (by kernel_rfl) (by simp) ?_
        refine AllReadyH.cons rfl (fun K hK => ?_) AllReadyH.nil
        go_simp
        refine hK.out _ _ trivial (fun hH => ?_)
        clear hK K
        try simp only [Act.put]
        have hrow : Row (w2.alloc _) w2.heap.size 119 hd0.cells.toList := Row.new w2 119 hd0.cells
        refine wpAnyH_ready (rs := [7]) (by kernel_rfl) (by simp) ?_
        refine AllReadyH.cons rfl (fun K hK => ?_) AllReadyH.nil
        rw [if_pos (by rfl)]
        refine store_head (.tmp 5) (.tmp 16) rfl w2.heap.size h rfl rfl hrow (fun w5 hr5 hg5 => ?_)
        simp only [Act.put]
        refine hK.out _ _ trivial (fun hH => ?_)
        clear hK K
        refine wpAnyH_ready (rs := [8]) (by kernel_rfl) (by simp) ?_
        refine AllReadyH.cons rfl (fun K hK => ?_) AllReadyH.nil
        go_simp
        refine hK.out _ _ trivial (fun hH => ?_)
        clear hK K
        refine wpAnyH_done (by kernel_rfl) ?_ _
        try simp only [Act.put]
        go_wp2_with fail
        go_meet
        case rel => exact ⟨_, rfl, rfl, hr5, Nat.le_trans hb1.size hb2.size, ((hb1.trans (hb2.mono hb1.size)).alloc (Nat.le_trans hb1.size hb2.size) _).trans (below_grown hg5 (Nat.le_trans hb1.size hb2.size) (by have := Nat.le_trans hb1.size hb2.size; simp at this ⊢; omega))⟩
      · go_simp
        refine hK.out _ _ trivial (fun hH => ?_)
        clear hK K
        try simp only [Act.put]
        refine wpAnyH_ready (rs := [3]) (by kernel_rfl) (by simp) ?_
        refine AllReadyH.cons rfl (fun K hK => ?_) AllReadyH.nil
        go_simp
        go_at_call 96
        refine (HH.out _).mono ?_
        rintro e2 w2 ⟨rfl, hb2⟩
        go_wp2_with fail
        refine hK.out _ _ trivial (fun hH => ?_)
        clear hK K
        try simp only [Act.put]
        have hrow : Row w2 w1.heap.size 119 hd0.cells.toList := (Row.new w1 119 hd0.cells).below hb2 (by simp)
        refine wpAnyH_ready (rs := [7]) (by kernel_rfl) (by simp) ?_
        refine AllReadyH.cons rfl (fun K hK => ?_) AllReadyH.nil
        rw [if_pos (by rfl)]
        refine store_head (.tmp 5) (.tmp 16) rfl w1.heap.size h rfl rfl hrow (fun w5 hr5 hg5 => ?_)
        simp only [Act.put]
        refine hK.out _ _ trivial (fun hH => ?_)
        clear hK K
        refine wpAnyH_ready (rs := [8]) (by kernel_rfl) (by simp) ?_
        refine AllReadyH.cons rfl (fun K hK => ?_) AllReadyH.nil
        go_simp
        refine hK.out _ _ trivial (fun hH => ?_)
        clear hK K
        refine wpAnyH_done (by kernel_rfl) ?_ _
        try simp only [Act.put]
        go_wp2_with fail
        go_meet
        case rel => exact ⟨_, rfl, rfl, hr5, hb1.size, ((hb1.alloc hb1.size _).trans (hb2.mono (by have := hb1.size; simp at this ⊢; omega))).trans (below_grown hg5 hb1.size (by have := hb1.size; have := hb2.size; simp at *; omega))⟩
    · go_simp
      refine hK.out _ _ trivial (fun hH => ?_)
      clear hK K
      try simp only [Act.put]
      refine wpAnyH_ready (rs := [2]) (by kernel_rfl) (by simp) ?_
      refine AllReadyH.cons rfl (fun K hK => ?_) AllReadyH.nil
      go_simp
      go_at_call 97
      refine (HT.out _ (show Fd (World.drew _) from HF0.out.below (((Below.refl W0.heap.size W0).alloc (Nat.le_refl _) _).drew) HF0.out.1)).mono ?_
      rintro e1 w1 ⟨rfl, hb1x⟩
      have hb1 : Below (W0.heap.size + 1) (W0.alloc (.cells hd0.cells 119)) w1 := ((Below.refl _ _).drew).trans (hb1x.mono (by simp))
      go_wp2_with fail
      refine hK.out _ _ trivial (fun hH => ?_)
      clear hK K
      try simp only [Act.put]
      refine wpAnyH_ready (rs := [3]) (by kernel_rfl) (by simp) ?_
      refine AllReadyH.cons rfl (fun K hK => ?_) AllReadyH.nil
      go_simp
      go_at_call 96
      refine (HH.out _).mono ?_
      rintro e2 w2 ⟨rfl, hb2⟩
      go_wp2_with fail
      refine hK.out _ _ trivial (fun hH => ?_)
      clear hK K
      try simp only [Act.put]
      have hrow : Row w2 W0.heap.size 119 hd0.cells.toList := ((Row.new W0 119 hd0.cells).below hb1 (by simp)).below hb2 (by have := hb1.size; simp at this; omega)
      refine wpAnyH_ready (rs := [7]) (by kernel_rfl) (by simp) ?_
      refine AllReadyH.cons rfl (fun K hK => ?_) AllReadyH.nil
      rw [if_pos (by rfl)]
      refine store_head (.tmp 5) (.tmp 16) rfl W0.heap.size h rfl rfl hrow (fun w5 hr5 hg5 => ?_)
      simp only [Act.put]
      refine hK.out _ _ trivial (fun hH => ?_)
      clear hK K
      refine wpAnyH_ready (rs := [8]) (by kernel_rfl) (by simp) ?_
      refine AllReadyH.cons rfl (fun K hK => ?_) AllReadyH.nil
      go_simp
      refine hK.out _ _ trivial (fun hH => ?_)
      clear hK K
      refine wpAnyH_done (by kernel_rfl) ?_ _
      try simp only [Act.put]
      go_wp2_with fail
      go_meet
      case rel => exact ⟨_, rfl, rfl, hr5, Nat.le_refl _, (((Below.refl W0.heap.size W0).alloc (Nat.le_refl _) _).trans (hb1.mono (by simp))).trans (hb2.mono (by have := hb1.size; simp at this; omega)) |>.trans (below_grown hg5 (Nat.le_refl _) (by have := hb1.size; have := hb2.size; simp at *; omega))⟩
  case rest =>
    obtain ⟨g, rfl, rfl, hr, hg, hb⟩ := hcut
    obtain ⟨p1, p2⟩ := P
    have hFc := HF0.out.below hb HF0.out.1
    have hrc := HR0.out.below hb HR0.out.lt
    have HFC := hid hFc
    have HRC := hid hrc
    have HB := hid hb
    have HPK2 : Hid (∀ W : World, Fd W → Calls Tryd.prog 73 #[.agg h.cells, .string (s.extract 128 s.size)] W (SN W (p1, p2))) := hid HPK.out
    have HSZ2 := hid (hcells_size h)
    have HRA := hid hr.arr
    have HR := hid hr
    have HLT : Hid (w.heap.size < wc.heap.size) := hid hrc.lt
    obtain ⟨T, hT⟩ : ∃ T : ByteArray, T = ⟨p1.toArray⟩ := ⟨_, rfl⟩
    have HPK3 : Hid (∀ W : World, Fd W → Calls Tryd.prog 73 #[.agg h.cells, .string (s.extract 128 s.size)] W (fun e W' => e = .returned (.tuple #[.string T, .int .i64 p2]) ∧ Below W.heap.size W W')) := hid (by
      rw [hT]
      exact HPK2.out)
    clear HPK HPK2 hr hFc hrc hb
    by_cases h2 : p2 = 0
    · by_cases h1 : p1 = sb s
      · subst h2 h1
        rw [mk_sb] at hT
        subst hT
        have HRES2 : Hid (r = (h, sb (T.extract 128 T.size), 0)) := hid (by rw [HRES.out, if_pos rfl])
        clear HRES
        have HV : Hid (Value.agg h.cells = h.val) := hid rfl
        obtain ⟨cs, hcs⟩ : ∃ cs : List Value, cs.toArray = h.cells := ⟨h.cells.toList, by simp⟩
        rw [← hcs] at HPK3 HSZ2 HRA HV
        have hcl : cs = h.cells.toList := by rw [← hcs]
        rw [← hcl] at HR
        clear hcl hcs
        have heq : (T.toList == T.toList) = true := by simp
        go_wp2_with (first
          | (refine wpList_load_row rfl 119 (.tmp 5) rfl g rfl 119 cs.toArray (0, 0) _ HRA.out Tryd.underlying119 rfl HSZ2.out ?_)
          | (go_at_call 73; refine (HPK3.out _ HFC.out).mono ?_; rintro e w3 ⟨rfl, hb3⟩))
        have hsz2 := HSZ2.out
        refine wp_region_held_drew (S := fun w' => w'.rangeAt g 0 cs) (by kernel_rfl) (HR.out.below hb3 (HR.out.lt)).range (fun hH => ?_)
        refine wpAnyH_take (i := 0) (v := .agg cs.toArray) rfl (by kernel_rfl) (by kernel_rfl) (by kernel_rfl) (fun _ _ _ h => h) (yieldsIf_load_mid (by rfl) 119 (.tmp 5) rfl g 0 rfl _ _ (fun _ hw => hw) Tryd.underlying119 rfl (by simpa using hsz2)) hH ?_
        simp only [Act.put]
        refine wpAnyH_take (i := 1) (v := .string (T.extract 128 T.size)) rfl (by kernel_rfl) (by kernel_rfl) (by kernel_rfl) (fun _ _ _ h => h) (Or.inl ⟨by rfl, fun w' hw' => by clear hw'; go_simp⟩) hH ?_
        simp only [Act.put]
        refine wpAnyH_ready (rs := [2]) (by kernel_rfl) (by simp) ?_
        refine AllReadyH.cons rfl (fun K hK => ?_) AllReadyH.nil
        clear hH
        go_simp
        go_at_call 35
        refine (clone_any _ _ HBIG.out).mono ?_
        rintro e4 w4 ⟨rfl, hb4x⟩
        have hb4 : Below w3.heap.size w3 w4 := ((Below.refl _ _).drew).trans hb4x
        have hr4 := (HR.out.below hb3 HR.out.lt).below hb4 (Nat.lt_of_lt_of_le HR.out.lt hb3.size)
        go_wp2_with fail
        refine hK.out _ _ hr4.range (fun hH => ?_)
        clear hK K hH
        try simp only [Act.put]
        refine wpAnyH_ready (rs := [3]) (by kernel_rfl) (by simp) ?_
        refine AllReadyH.cons rfl (fun K hK => ?_) AllReadyH.nil
        rw [if_pos (by rfl)]
        refine store_head (.tmp 2) (.tmp 33) rfl w.heap.size h rfl HV.out ((HRC.out.below hb3 HLT.out).below hb4 (Nat.lt_of_lt_of_le HLT.out hb3.size)) (fun w5 hr5 hg5 => ?_)
        simp only [Act.put]
        refine hK.out _ _ (hr4.grown hg5 (by simp only [ne_eq, Option.some.injEq]; have := HR0.out.lt; have := HB0.out; omega)).range (fun hH => ?_)
        clear hK K
        refine wpAnyH_ready (rs := [4]) (by kernel_rfl) (by simp) ?_
        refine AllReadyH.cons rfl (fun K hK => ?_) AllReadyH.nil
        go_simp
        refine hK.out _ _ hH (fun hH => ?_)
        clear hK K
        try simp only [Act.put]
        refine wpAnyH_ready (rs := [5]) (by kernel_rfl) (by simp) ?_
        refine AllReadyH.cons rfl (fun K hK => ?_) AllReadyH.nil
        go_simp
        refine hK.out _ _ hH (fun hH => ?_)
        clear hK K hH
        try simp only [Act.put]
        refine wpAnyH_done (by kernel_rfl) ?_ _
        go_wp2_with fail
        refine bodyPost_ret (v := .tuple #[h.val, .string (T.extract 128 T.size), .int .i64 0]) (results_cell2 rfl _ _ w.heap.size 119 h.cells (0, 0) _ _ _ rfl rfl rfl hr5.arr Tryd.underlying119 rfl (hcells_size h)) rfl ?_
        rw [HRES2.out]
        exact ⟨by rw [mk_sb], (((HB0.out.trans (HB.out.mono HB0.out.size)).trans (hb3.mono (Nat.le_trans HB0.out.size HB.out.size))).trans (hb4.mono (Nat.le_trans HB0.out.size (Nat.le_trans HB.out.size hb3.size)))).trans (below_grown hg5 (Nat.le_refl _) (Nat.le_trans HB0.out.size (Nat.le_trans HB.out.size (Nat.le_trans hb3.size hb4.size))))⟩
      · subst h2
        have HRES2 : Hid (r = (hd0, [], 4)) := hid (by rw [HRES.out, if_neg (fun e => h1 (Prod.mk.inj e).1)])
        generalize h.cells = C at HPK3 HSZ2 HRA HR
        have hn1 : (T.toList == s.toList) = false := str_ne (by rw [hT]; exact mk_ne' h1)
        clear h1 HRES hT
        go_wp2_with (first
          | (refine wpList_load_row rfl 119 (.tmp 5) rfl g rfl 119 C (0, 0) _ HRA.out Tryd.underlying119 rfl HSZ2.out ?_)
          | (go_at_call 73; refine (HPK3.out _ HFC.out).mono ?_; rintro e w3 ⟨rfl, hb3⟩)
          | (refine wpl_store_head rfl (.tmp 2) (.tmp 32) rfl w.heap.size hd0 rfl rfl (HRC.out.below hb3 HLT.out) ?_; intro w5 hr5 hg5))
        refine bodyPost_ret (v := .tuple #[hd0.val, .string ⟨#[]⟩, .int .i64 4]) (results_cell2 rfl _ _ w.heap.size 119 hd0.cells (0, 0) _ _ _ rfl rfl rfl hr5.arr Tryd.underlying119 rfl (hcells_size hd0)) rfl ?_
        rw [HRES2.out]
        exact ⟨rfl, ((HB0.out.trans (HB.out.mono HB0.out.size)).trans (hb3.mono (Nat.le_trans HB0.out.size HB.out.size))).trans (below_grown hg5 (Nat.le_refl _) (Nat.le_trans HB0.out.size (Nat.le_trans HB.out.size hb3.size)))⟩
    · have HRES2 : Hid (r = (hd0, [], 4)) := hid (by rw [HRES.out, if_neg (fun e => h2 (Prod.mk.inj e).2)])
      generalize h.cells = C at HPK3 HSZ2 HRA HR
      have hn1 : (p2 != 0) = true := by simpa using h2
      have hn2 : (p2 == 0) = false := by simpa using h2
      clear HRES hT
      go_wp2_with (first
        | (refine wpList_load_row rfl 119 (.tmp 5) rfl g rfl 119 C (0, 0) _ HRA.out Tryd.underlying119 rfl HSZ2.out ?_)
        | (go_at_call 73; refine (HPK3.out _ HFC.out).mono ?_; rintro e w3 ⟨rfl, hb3⟩)
        | (refine wpl_store_head rfl (.tmp 2) (.tmp 32) rfl w.heap.size hd0 rfl rfl (HRC.out.below hb3 HLT.out) ?_; intro w5 hr5 hg5))
      refine bodyPost_ret (v := .tuple #[hd0.val, .string ⟨#[]⟩, .int .i64 4]) (results_cell2 rfl _ _ w.heap.size 119 hd0.cells (0, 0) _ _ _ rfl rfl rfl hr5.arr Tryd.underlying119 rfl (hcells_size hd0)) rfl ?_
      rw [HRES2.out]
      exact ⟨rfl, ((HB0.out.trans (HB.out.mono HB0.out.size)).trans (hb3.mono (Nat.le_trans HB0.out.size HB.out.size))).trans (below_grown hg5 (Nat.le_refl _) (Nat.le_trans HB0.out.size (Nat.le_trans HB.out.size hb3.size)))⟩
end Go.Proofs.YtafbeepacncooaaDoor
/-
  The walk of package head's Unpack, whole.
-/
namespace Go.Proofs.YtafbeepacncooaaDoor
open Go.RowKit
set_option maxRecDepth 10000

set_option maxHeartbeats 1000000 in
theorem unp_short (s : ByteArray) (w : World) (h : (s.size : Int) < 128) : Calls Tryd.prog 83 #[.string s] w (HE w (hd0, [], 4)) := by
  go_enter Tryd.func83, Tryd.ntmps83
  go_wp2_with fail
  refine bodyPost_ret (v := .tuple #[hd0.val, .string ⟨#[]⟩, .int .i64 4]) (results_cell2 rfl _ _ w.heap.size 119 hd0.cells (0, 0) _ _ _ rfl rfl rfl (heap_alloc_new _ _) Tryd.underlying119 rfl (hcells_size hd0)) rfl ?_
  exact ⟨rfl, (Below.refl _ _).alloc (Nat.le_refl _) _⟩
theorem unp_any (s : ByteArray) (w : World) (hf : Fd w) (hbig : s.size ≤ 281474976710656) : Calls Tryd.prog 83 #[.string s] w (HE w (unpackS (sb s))) := by
  by_cases h : s.size < 128
  · have e : unpackS (sb s) = (hd0, [], 4) := by
      unfold unpackS
      rw [if_pos (by rw [sb_len]; exact h)]
    rw [e]
    exact unp_short s w (by omega)
  · exact unp_try s w hf (by omega) hbig
end Go.Proofs.YtafbeepacncooaaDoor
/-
  Small words that the texts of this seat share: structs held against each other, loaded, stored, told.
-/
namespace Go.Proofs.YtafbeepacncooaaDoor
open Go.RowKit
set_option maxRecDepth 10000

theorem eqF_int {P : Program} {W : World} (d : Nat) (xs ys : Array Value) (f : Field) (fs : List Field) (k : IntKind) (a b : Int) (hn : f.name ≠ "_") (hx : (part f.type xs f.offset).run P W = .ok (.int k a) W) (hy : (part f.type ys f.offset).run P W = .ok (.int k b) W) (ht : P.underlying f.type = some (.int k)) :
    (Op.eqFields (d + 1) xs ys (f :: fs)).run P W = if a = b then (Op.eqFields (d + 1) xs ys fs).run P W else .ok false W := by
  simp only [Op.eqFields, if_pos hn, Sem.run_bind, hx, hy, Result.andThen_ok, run_equalIn_int W d f.type k k a b ht]
  by_cases h : a = b
  · subst h
    simp
  · simp [h]
theorem eqF_nil {P : Program} {W : World} (d : Nat) (xs ys : Array Value) : (Op.eqFields d xs ys []).run P W = .ok true W := by simp [Op.eqFields]
theorem part_int {P : Program} {W : World} (t : TypeId) (xs : Array Value) (i : Nat) (v : Value) (ik : IntKind) (ht : P.underlying t = some (.int ik)) (hs : (P.info? t).map (·.size) = some 1) (hv : xs[i]? = some v) : (part t xs i).run P W = .ok v W := by
  obtain ⟨j, hj, hjs⟩ := Option.map_eq_some_iff.1 hs
  simp [part, isAgg, run_underlying ht, sizeOf, typeInfo, hj, hjs, hv]
theorem sizeInt : (Tryd.prog.info? 3).map (·.size) = some 1 := by kernel_rfl
theorem sizeU64 : (Tryd.prog.info? 26).map (·.size) = some 1 := by kernel_rfl
theorem headFields : (Tryd.prog.fieldsOf 119).toList = [{ name := "Kind", type := 3, offset := 0, embedded := false, tag := "", pkgPath := "", byteOffset := 0 }, { name := "From", type := 3, offset := 1, embedded := false, tag := "", pkgPath := "", byteOffset := 8 }, { name := "Operation", type := 3, offset := 2, embedded := false, tag := "", pkgPath := "", byteOffset := 16 }, { name := "View", type := 3, offset := 3, embedded := false, tag := "", pkgPath := "", byteOffset := 24 }, { name := "Op", type := 3, offset := 4, embedded := false, tag := "", pkgPath := "", byteOffset := 32 }, { name := "Commit", type := 3, offset := 5, embedded := false, tag := "", pkgPath := "", byteOffset := 40 }, { name := "Client", type := 3, offset := 6, embedded := false, tag := "", pkgPath := "", byteOffset := 48 }, { name := "Session", type := 3, offset := 7, embedded := false, tag := "", pkgPath := "", byteOffset := 56 }, { name := "Request", type := 3, offset := 8, embedded := false, tag := "", pkgPath := "", byteOffset := 64 }, { name := "A", type := 3, offset := 9, embedded := false, tag := "", pkgPath := "", byteOffset := 72 }, { name := "B", type := 3, offset := 10, embedded := false, tag := "", pkgPath := "", byteOffset := 80 }, { name := "Parent", type := 26, offset := 11, embedded := false, tag := "", pkgPath := "", byteOffset := 88 }] := by kernel_rfl
set_option maxHeartbeats 1000000 in
theorem eql_head (h g : Hd) (W : World) : (Op.equalIn 10000 119 (.agg h.cells) (.agg g.cells)).run Tryd.prog W = .ok (decide (h = g)) W := by
  rw [run_equalIn_struct W 9999 119 h.cells g.cells (by kernel_rfl) (by kernel_rfl), headFields]
  have x0 : h.cells[0]? = some (.int .i64 (h.kind : Int)) := rfl
  have y0 : g.cells[0]? = some (.int .i64 (g.kind : Int)) := rfl
  have x1 : h.cells[1]? = some (.int .i64 (h.frm : Int)) := rfl
  have y1 : g.cells[1]? = some (.int .i64 (g.frm : Int)) := rfl
  have x2 : h.cells[2]? = some (.int .i64 (h.oper : Int)) := rfl
  have y2 : g.cells[2]? = some (.int .i64 (g.oper : Int)) := rfl
  have x3 : h.cells[3]? = some (.int .i64 (h.view : Int)) := rfl
  have y3 : g.cells[3]? = some (.int .i64 (g.view : Int)) := rfl
  have x4 : h.cells[4]? = some (.int .i64 (h.opn : Int)) := rfl
  have y4 : g.cells[4]? = some (.int .i64 (g.opn : Int)) := rfl
  have x5 : h.cells[5]? = some (.int .i64 (h.commit : Int)) := rfl
  have y5 : g.cells[5]? = some (.int .i64 (g.commit : Int)) := rfl
  have x6 : h.cells[6]? = some (.int .i64 (h.client : Int)) := rfl
  have y6 : g.cells[6]? = some (.int .i64 (g.client : Int)) := rfl
  have x7 : h.cells[7]? = some (.int .i64 (h.session : Int)) := rfl
  have y7 : g.cells[7]? = some (.int .i64 (g.session : Int)) := rfl
  have x8 : h.cells[8]? = some (.int .i64 (h.request : Int)) := rfl
  have y8 : g.cells[8]? = some (.int .i64 (g.request : Int)) := rfl
  have x9 : h.cells[9]? = some (.int .i64 (h.a : Int)) := rfl
  have y9 : g.cells[9]? = some (.int .i64 (g.a : Int)) := rfl
  have x10 : h.cells[10]? = some (.int .i64 (h.b : Int)) := rfl
  have y10 : g.cells[10]? = some (.int .i64 (g.b : Int)) := rfl
  have x11 : h.cells[11]? = some (.int .u64 (h.parent : Int)) := rfl
  have y11 : g.cells[11]? = some (.int .u64 (g.parent : Int)) := rfl
  generalize h.cells = X at *
  generalize g.cells = Y at *
  rw [eqF_int (P := Tryd.prog) (W := W) 9998 X Y { name := "Kind", type := 3, offset := 0, embedded := false, tag := "", pkgPath := "", byteOffset := 0 } _ .i64 (h.kind : Int) (g.kind : Int) (by simp) (part_int 3 X 0 _ .i64 Tryd.underlying3 sizeInt x0) (part_int 3 Y 0 _ .i64 Tryd.underlying3 sizeInt y0) Tryd.underlying3]
  rw [eqF_int (P := Tryd.prog) (W := W) 9998 X Y { name := "From", type := 3, offset := 1, embedded := false, tag := "", pkgPath := "", byteOffset := 8 } _ .i64 (h.frm : Int) (g.frm : Int) (by simp) (part_int 3 X 1 _ .i64 Tryd.underlying3 sizeInt x1) (part_int 3 Y 1 _ .i64 Tryd.underlying3 sizeInt y1) Tryd.underlying3]
  rw [eqF_int (P := Tryd.prog) (W := W) 9998 X Y { name := "Operation", type := 3, offset := 2, embedded := false, tag := "", pkgPath := "", byteOffset := 16 } _ .i64 (h.oper : Int) (g.oper : Int) (by simp) (part_int 3 X 2 _ .i64 Tryd.underlying3 sizeInt x2) (part_int 3 Y 2 _ .i64 Tryd.underlying3 sizeInt y2) Tryd.underlying3]
  rw [eqF_int (P := Tryd.prog) (W := W) 9998 X Y { name := "View", type := 3, offset := 3, embedded := false, tag := "", pkgPath := "", byteOffset := 24 } _ .i64 (h.view : Int) (g.view : Int) (by simp) (part_int 3 X 3 _ .i64 Tryd.underlying3 sizeInt x3) (part_int 3 Y 3 _ .i64 Tryd.underlying3 sizeInt y3) Tryd.underlying3]
  rw [eqF_int (P := Tryd.prog) (W := W) 9998 X Y { name := "Op", type := 3, offset := 4, embedded := false, tag := "", pkgPath := "", byteOffset := 32 } _ .i64 (h.opn : Int) (g.opn : Int) (by simp) (part_int 3 X 4 _ .i64 Tryd.underlying3 sizeInt x4) (part_int 3 Y 4 _ .i64 Tryd.underlying3 sizeInt y4) Tryd.underlying3]
  rw [eqF_int (P := Tryd.prog) (W := W) 9998 X Y { name := "Commit", type := 3, offset := 5, embedded := false, tag := "", pkgPath := "", byteOffset := 40 } _ .i64 (h.commit : Int) (g.commit : Int) (by simp) (part_int 3 X 5 _ .i64 Tryd.underlying3 sizeInt x5) (part_int 3 Y 5 _ .i64 Tryd.underlying3 sizeInt y5) Tryd.underlying3]
  rw [eqF_int (P := Tryd.prog) (W := W) 9998 X Y { name := "Client", type := 3, offset := 6, embedded := false, tag := "", pkgPath := "", byteOffset := 48 } _ .i64 (h.client : Int) (g.client : Int) (by simp) (part_int 3 X 6 _ .i64 Tryd.underlying3 sizeInt x6) (part_int 3 Y 6 _ .i64 Tryd.underlying3 sizeInt y6) Tryd.underlying3]
  rw [eqF_int (P := Tryd.prog) (W := W) 9998 X Y { name := "Session", type := 3, offset := 7, embedded := false, tag := "", pkgPath := "", byteOffset := 56 } _ .i64 (h.session : Int) (g.session : Int) (by simp) (part_int 3 X 7 _ .i64 Tryd.underlying3 sizeInt x7) (part_int 3 Y 7 _ .i64 Tryd.underlying3 sizeInt y7) Tryd.underlying3]
  rw [eqF_int (P := Tryd.prog) (W := W) 9998 X Y { name := "Request", type := 3, offset := 8, embedded := false, tag := "", pkgPath := "", byteOffset := 64 } _ .i64 (h.request : Int) (g.request : Int) (by simp) (part_int 3 X 8 _ .i64 Tryd.underlying3 sizeInt x8) (part_int 3 Y 8 _ .i64 Tryd.underlying3 sizeInt y8) Tryd.underlying3]
  rw [eqF_int (P := Tryd.prog) (W := W) 9998 X Y { name := "A", type := 3, offset := 9, embedded := false, tag := "", pkgPath := "", byteOffset := 72 } _ .i64 (h.a : Int) (g.a : Int) (by simp) (part_int 3 X 9 _ .i64 Tryd.underlying3 sizeInt x9) (part_int 3 Y 9 _ .i64 Tryd.underlying3 sizeInt y9) Tryd.underlying3]
  rw [eqF_int (P := Tryd.prog) (W := W) 9998 X Y { name := "B", type := 3, offset := 10, embedded := false, tag := "", pkgPath := "", byteOffset := 80 } _ .i64 (h.b : Int) (g.b : Int) (by simp) (part_int 3 X 10 _ .i64 Tryd.underlying3 sizeInt x10) (part_int 3 Y 10 _ .i64 Tryd.underlying3 sizeInt y10) Tryd.underlying3]
  rw [eqF_int (P := Tryd.prog) (W := W) 9998 X Y { name := "Parent", type := 26, offset := 11, embedded := false, tag := "", pkgPath := "", byteOffset := 88 } _ .u64 (h.parent : Int) (g.parent : Int) (by simp) (part_int 26 X 11 _ .u64 Tryd.underlying26 sizeU64 x11) (part_int 26 Y 11 _ .u64 Tryd.underlying26 sizeU64 y11) Tryd.underlying26]
  rw [eqF_nil]
  clear x0 y0 x1 y1 x2 y2 x3 y3 x4 y4 x5 y5 x6 y6 x7 y7 x8 y8 x9 y9 x10 y10 x11 y11
  obtain ⟨kind1, frm1, oper1, view1, opn1, commit1, client1, session1, request1, a1, b1, parent1⟩ := h
  obtain ⟨kind2, frm2, oper2, view2, opn2, commit2, client2, session2, request2, a2, b2, parent2⟩ := g
  have hp : (parent1 = parent2) = ((parent1 : Int) = (parent2 : Int)) := by rw [Int.natCast_inj]
  simp only [Hd.mk.injEq, hp]
  by_cases c0 : kind1 = kind2
  case neg => simp [c0]
  by_cases c1 : frm1 = frm2
  case neg => simp [c1]
  by_cases c2 : oper1 = oper2
  case neg => simp [c2]
  by_cases c3 : view1 = view2
  case neg => simp [c3]
  by_cases c4 : opn1 = opn2
  case neg => simp [c4]
  by_cases c5 : commit1 = commit2
  case neg => simp [c5]
  by_cases c6 : client1 = client2
  case neg => simp [c6]
  by_cases c7 : session1 = session2
  case neg => simp [c7]
  by_cases c8 : request1 = request2
  case neg => simp [c8]
  by_cases c9 : a1 = a2
  case neg => simp [c9]
  by_cases c10 : b1 = b2
  case neg => simp [c10]
  by_cases c11 : (parent1 : Int) = (parent2 : Int)
  case neg => simp [c11]
  simp [*]
theorem part_str {P : Program} {W : World} (t : TypeId) (xs : Array Value) (i : Nat) (v : Value) (ht : P.underlying t = some .string) (hs : (P.info? t).map (·.size) = some 1) (hv : xs[i]? = some v) : (part t xs i).run P W = .ok v W := by
  obtain ⟨j, hj, hjs⟩ := Option.map_eq_some_iff.1 hs
  simp [part, isAgg, run_underlying ht, sizeOf, typeInfo, hj, hjs, hv]
theorem sizeStr : (Tryd.prog.info? 9).map (·.size) = some 1 := by kernel_rfl
theorem eqF_strs {P : Program} {W : World} (d : Nat) (xs ys : Array Value) (f : Field) (fs : List Field) (a b : ByteArray) (hn : f.name ≠ "_") (hx : (part f.type xs f.offset).run P W = .ok (.string a) W) (hy : (part f.type ys f.offset).run P W = .ok (.string b) W) (ht : P.underlying f.type = some .string) :
    (Op.eqFields (d + 1) xs ys (f :: fs)).run P W = if a = b then (Op.eqFields (d + 1) xs ys fs).run P W else .ok false W := by
  simp only [Op.eqFields, if_pos hn, Sem.run_bind, hx, hy, Result.andThen_ok, run_equalIn_string W d f.type a b ht]
  by_cases h : a = b
  · subst h
    simp
  · have h2 := str_ne h
    simp [h, h2]
theorem Row.at_ {w : World} {g : Nat} {e : TypeId} {cs : List Value} (h : Row w g e cs) (i : Nat) (u : Value) (hu : cs[i]? = some u) : w.cell? ⟨g, i, none⟩ = some u := (h.cell i).trans hu
/-- a load under a guard that says yes -/
theorem wpl_load_want {P : Program} {ops : Array Oper} {rest : List Oper} {o : Oper} {a : Act} {w : World} {Q : Exit → Act → World → Prop} (hw : Region.wanted o (yielded ops a.tmps) = true) (ty : TypeId) (x : Operand) (ho : o.op = .load ty x)
    (g : Nat) (hx : a.eval x = .pointer (some ⟨g, 0, none⟩)) (t : TypeId) (cs : Array Value) (fr : Nat × Nat) (d : TypeDesc) (hg : w.heap[g]? = some (.cells cs t fr))
    (hu : P.underlying ty = some d) (hd : (match d with | .struct _ | .array _ _ => true | _ => false) = true) (hi : (P.info? ty).map (·.size) = some cs.size)
    (h : wpList P ops Q rest (a.put o.dst (.agg cs)) w) : wpList P ops Q (o :: rest) a w :=
  BigFrame.wpList_want hw fun _ hK => wp_load_row ty x ho g hx t cs fr d hg hu hd hi (hK _ _ h)
/-- a store of a struct -/
theorem wpl_store_st {P : Program} {ops : Array Oper} {rest : List Oper} {o : Oper} {a : Act} {w : World} {Q : Exit → Act → World → Prop} (hgd : o.guard = none) {T : TypeId} (x y : Operand) (ho : o.op = .store T x y) {n : Nat} (hn : (P.info? T).map (·.size) = some n)
    (g : Nat) (cs0 cs : Array Value) (hx : a.eval x = .pointer (some ⟨g, 0, none⟩)) (hy : a.eval y = .agg cs) (hrow : Row w g T cs0.toList)
    (hK : ∀ w', Row w' g T cs.toList → w.grownBy w' (some g) → wpList P ops Q rest (a.put o.dst undef) w')
    (h0 : Hid (cs0.size = n)) (h1 : Hid (cs.size = n)) (hone : Hid (cs.all (·.oneCell') = true)) : wpList P ops Q (o :: rest) a w :=
  wpList_plain hgd fun _ hK' => wp_store_row T x y ho g cs hx hy T cs0 hrow.arr (by rw [hn, h1.out]) (by simp [h0.out, h1.out]) (by simpa using hone.out)
    (hK' _ _ (hK _ (by
      have := setRow_heap w g cs0 cs T (0, 0) hrow.arr
      simpa [Row] using this) (grownBy_setRow w g _)))
/-- a store of one cell -/
theorem wpl_store_c {P : Program} {ops : Array Oper} {rest : List Oper} {o : Oper} {a : Act} {w : World} {Q : Exit → Act → World → Prop} (hgd : o.guard = none) (T : TypeId) (x y : Operand) (ho : o.op = .store T x y)
    (g i : Nat) (v : Value) (hx : a.eval x = .pointer (some ⟨g, i, none⟩)) (hy : a.eval y = v) {E : TypeId} {xs : List Value} (hrow : Row w g E xs) (hs : (P.info? T).map (·.size) = some 1)
    (hK : ∀ w', Row w' g E (xs.set i v) → w.grownBy w' (some g) → wpList P ops Q rest (a.put o.dst undef) w')
    (hi : Hid (i < xs.length)) (hone : Hid (v.oneCell' = true)) : wpList P ops Q (o :: rest) a w :=
  wpList_plain hgd fun _ hK' => by
    have h1 := run_storeCells_cells (P := P) g i [v] 0 w (fun j hj => by
      have : j = 0 := by simpa using hj
      subst this
      show (w.cell? ⟨g, i, none⟩).isSome = true
      rw [hrow.cell, List.getElem?_eq_getElem hi.out]; rfl) (fun j hj => hrow.frozen _) (fun u hu => by rw [List.mem_singleton.1 hu]; exact hone.out)
    have hc : v.cells = #[v] := by
      have := hone.out
      cases v <;> first | rfl | cases this
    have hrun : (storeVar T ⟨g, i, none⟩ v).run P w = .ok () (w.setCell ⟨g, i, none⟩ v) := by
      obtain ⟨j, hj, hjs⟩ := Option.map_eq_some_iff.1 hs
      simp only [Nat.add_zero] at h1
      simp [storeVar, sizeOf, typeInfo, hj, hjs, hc, h1]
      rfl
    unfold Oper.wp execOp
    simp only [ho, hx, hy, Instr.storeAt, Instr.sureAddr, Sem.run_bind, Sem.run_pure, Result.andThen_ok, hrun]
    exact hK' _ _ (hK _ (hrow.set_ i v) ⟨rfl, rfl, rfl, by simp, fun k _ hr => heap_setCell_other w ⟨g, i, none⟩ k v (by intro e; exact hr (by rw [e]))⟩)
theorem results_cell1 {P : Program} {fn : Func} {p u : Tmp} {ty : TypeId} (h : fn.results = #[.cell p ty, .tmp u]) (tmps : Array Value) (w : World) (g : Nat) (e : TypeId) (cs : Array Value) (fr : Nat × Nat) (d : TypeDesc) (y : Value)
    (hy : tmps.getD u undef = y) (hp : tmps.getD p undef = .pointer (some ⟨g, 0, none⟩)) (hg : w.heap[g]? = some (.cells cs e fr))
    (hu : P.underlying ty = some d) (hd : (match d with | .struct _ | .array _ _ => true | _ => false) = true) (hi : (P.info? ty).map (·.size) = some cs.size) :
    (results fn tmps).run P w = .ok (.tuple #[.agg cs, y]) w := by
  subst hy
  have hp' : tmps[p]?.getD undef = .pointer (some ⟨g, 0, none⟩) := by simpa using hp
  simp [results, h, hp', asAddr, run_loadVar_row w g e ty cs fr d hg hu hd hi]
end Go.Proofs.YtafbeepacncooaaDoor
/-
  Entries and marks in plain words and in memory; an entry that may be.
-/
namespace Go.Proofs.YtafbeepacncooaaDoor
open Go.RowKit
set_option maxRecDepth 10000

/-- an entry -/
structure En where
  view : Int
  opn : Int
  under : Int
  parent : Nat
  client : Int
  session : Int
  request : Int
  oper : Int
  body : ByteArray
def En.cells (e : En) : Array Value := #[.int .i64 e.view, .int .i64 e.opn, .int .i64 e.under, .int .u64 (e.parent : Int), .int .i64 e.client, .int .i64 e.session, .int .i64 e.request, .int .i64 e.oper, .string e.body]
def En.val (e : En) : Value := .agg e.cells
def en0 : En := ⟨0, 0, 0, 0, 0, 0, 0, 0, ⟨#[]⟩⟩
/-- an entry of the machine's -/
def En.fits (e : En) : Prop := (In64 e.view ∧ In64 e.opn ∧ In64 e.under ∧ In64 e.client) ∧ (In64 e.session ∧ In64 e.request ∧ In64 e.oper) ∧ e.parent < 18446744073709551616
/-- a mark -/
structure Mk where
  opn : Int
  view : Int
  sum : Nat
deriving DecidableEq
def Mk.cells (m : Mk) : Array Value := #[.int .i64 m.opn, .int .i64 m.view, .int .u64 (m.sum : Int)]
def Mk.val (m : Mk) : Value := .agg m.cells
def mk0 : Mk := ⟨0, 0, 0⟩
def Mk.fits (m : Mk) : Prop := In64 m.opn ∧ In64 m.view ∧ m.sum < 18446744073709551616
theorem ecells_one (e : En) : e.cells.all (·.oneCell') = true := by simp [En.cells, Value.oneCell']
theorem ecells_size (e : En) : (Tryd.prog.info? 28).map (·.size) = some e.cells.size := by
  show _ = some 9
  kernel_rfl
theorem esize : (Tryd.prog.info? 28).map (·.size) = some 9 := by kernel_rfl
theorem msize : (Tryd.prog.info? 73).map (·.size) = some 3 := by kernel_rfl
/-! ### held against each other -/
theorem entryFields : (Tryd.prog.fieldsOf 28).toList = [{ name := "View", type := 3, offset := 0, embedded := false, tag := "", pkgPath := "", byteOffset := 0 }, { name := "Op", type := 3, offset := 1, embedded := false, tag := "", pkgPath := "", byteOffset := 8 }, { name := "Under", type := 3, offset := 2, embedded := false, tag := "", pkgPath := "", byteOffset := 16 }, { name := "Parent", type := 26, offset := 3, embedded := false, tag := "", pkgPath := "", byteOffset := 24 }, { name := "Client", type := 3, offset := 4, embedded := false, tag := "", pkgPath := "", byteOffset := 32 }, { name := "Session", type := 3, offset := 5, embedded := false, tag := "", pkgPath := "", byteOffset := 40 }, { name := "Request", type := 3, offset := 6, embedded := false, tag := "", pkgPath := "", byteOffset := 48 }, { name := "Operation", type := 3, offset := 7, embedded := false, tag := "", pkgPath := "", byteOffset := 56 }, { name := "Body", type := 9, offset := 8, embedded := false, tag := "", pkgPath := "", byteOffset := 64 }] := by kernel_rfl
theorem egEn : Tryd.prog.eqGuardType Tryd.prog.depth 28 = false := by kernel_rfl
section
variable {ops : Array Oper} {rest : List Oper} {o : Oper} {a : Act} {w : World} {Q : Exit → Act → World → Prop}
end

/-! ### an entry that may be -/
/-- its numbers and its body are within their bounds -/
def Rt (e : En) : Prop := (1 ≤ e.opn ∧ e.opn ≤ 72057594037927935) ∧ (1 ≤ e.client ∧ e.client ≤ 72057594037927935) ∧ (0 ≤ e.view ∧ e.view ≤ 72057594037927935) ∧ (0 ≤ e.under ∧ e.under ≤ 72057594037927935) ∧
  (0 ≤ e.session ∧ e.session ≤ 72057594037927935) ∧ (0 ≤ e.request ∧ e.request ≤ 72057594037927935) ∧ (1 ≤ e.oper ∧ e.oper ≤ 255) ∧ e.under ≤ e.view ∧ (e.body.size : Int) ≤ 200
instance (e : En) : Decidable (Rt e) := by unfold Rt; infer_instance
/-- what Follows answers -/
def Fol (m : Mk) (e : En) : Prop := Rt e ∧ e.opn - 1 = m.opn ∧ e.under = m.view ∧ e.parent = m.sum
instance (m : Mk) (e : En) : Decidable (Fol m e) := by unfold Fol; infer_instance
/-- ints as values -/
def ivs (l : List Int) : List Value := l.map fun n => .int .i64 n
/-- all within -/
def wi (lo hi : Int) (l : List Int) : Bool := l.all fun n => decide (lo ≤ n ∧ n ≤ hi)
theorem wi_snoc (lo hi : Int) (l : List Int) (k : Nat) (h : k < l.length) (ht : wi lo hi (l.take k) = true) (hk : lo ≤ l[k] ∧ l[k] ≤ hi) : wi lo hi (l.take (k + 1)) = true := by
  rw [List.take_succ_eq_append_getElem h]
  unfold wi at ht ⊢
  rw [List.all_append, ht]
  simp [hk]
theorem wi_not (lo hi : Int) (l : List Int) (k : Nat) (h : k < l.length) (hk : ¬ (lo ≤ l[k] ∧ l[k] ≤ hi)) : wi lo hi l = false := by
  rw [← Bool.not_eq_true]
  intro e
  have := List.all_eq_true.1 e l[k] (List.getElem_mem h)
  exact hk (by simpa using this)
end Go.Proofs.YtafbeepacncooaaDoor
/-
  The walks of package entry's within, Right.
-/
namespace Go.Proofs.YtafbeepacncooaaDoor
open Go.RowKit
set_option maxRecDepth 10000

theorem ivs_len (l : List Int) : (ivs l).length = l.length := by simp [ivs]
set_option maxHeartbeats 1000000 in
theorem within_any (lo hi : Int) (A : Option Addr) (c B : Nat) (l : List Int) (w : World) (hr : Rd w B A (ivs l)) (hl : l.length ≤ 1000) (hpos : 0 < l.length) (hc : l.length ≤ c) :
    Calls Tryd.prog 28 #[.int .i64 lo, .int .i64 hi, .slice A l.length c] w fun e w' => e = .returned (.bool (wi lo hi l)) ∧ w = w' := by
  obtain ⟨g, o, rfl, -, hcell⟩ := hr (by intro e; have := ivs_len l; rw [e] at this; simp at this; omega)
  have HC : Hid (∀ k, (h : k < l.length) → w.cell? ⟨g, o + k, none⟩ = some (.int .i64 l[k])) := hid fun k h => hcell k _ (by simp [ivs, h])
  obtain ⟨n, hn⟩ : ∃ n, n = l.length := ⟨_, rfl⟩
  rw [← hn] at hl hpos hc ⊢
  have HN := hid hn
  clear hr hcell hn
  go_enter Tryd.func28, Tryd.ntmps28
  go_wp2_with fail
  go_loop [11] (fun i => ∃ k : Nat, k ≤ n ∧ i = .int .i64 k ∧ Hid (wi lo hi (l.take k) = true)) (fun i => n - (intOf i).toNat)
  case atStart => exact ⟨0, by omega, rfl, hid rfl⟩
  case round =>
    obtain ⟨k, hk, rfl, hpast⟩ := hrel
    by_cases hlt : k < n
    · have hkl : k < l.length := by rw [← HN.out]; exact hlt
      have hce := HC.out k hkl
      have HS := hid (wi_snoc lo hi l k hkl hpast.out)
      have HX := hid (wi_not lo hi l k hkl)
      generalize l[k] = x at hce HS HX
      by_cases h1 : x < lo
      · go_wp2_with fail
        go_ret
        rw [HX.out (by omega)]
        exact ⟨rfl, rfl⟩
      · by_cases h2 : hi < x
        · go_wp2_with fail
          go_ret
          rw [HX.out (by omega)]
          exact ⟨rfl, rfl⟩
        · go_wp2_with fail
          go_round
          case rel => exact ⟨k + 1, by omega, by go_num, hid (HS.out (by omega))⟩
          case measure => simp [intOf]; omega
    · obtain rfl : k = n := by omega
      go_wp2_with fail
      go_ret
      have hy := hpast.out
      rw [List.take_of_length_le (by rw [HN.out]; exact Nat.le_refl _)] at hy
      rw [hy]
      exact ⟨rfl, rfl⟩
/-- over a list that was just laid -/
theorem wiA (lo hi : Int) (l : List Int) (cs : Array Value) (n : Nat) (hl : l.length ≤ 1000) (hpos : 0 < l.length) (hcs : cs.toList = ivs l) (hn : l.length = n) (W : World) (g : Nat) (hg : g = W.heap.size) :
    Calls Tryd.prog 28 #[.int .i64 lo, .int .i64 hi, .slice (some ⟨g, 0, none⟩) n n] (W.alloc (.cells cs 3)) fun e w' => e = .returned (.bool (wi lo hi l)) ∧ (W.alloc (.cells cs 3)) = w' := by
  subst hg hn
  have := Row.new W 3 cs
  rw [hcs] at this
  exact within_any lo hi _ _ (W.heap.size + 1) l _ (this.rd (by omega)) hl hpos (Nat.le_refl _)
theorem rt_iff (e : En) : Rt e ↔ (wi 1 72057594037927935 [e.opn, e.client] = true ∧ wi 0 72057594037927935 [e.view, e.under, e.session, e.request] = true ∧ wi 1 255 [e.oper] = true ∧ e.under ≤ e.view ∧ (e.body.size : Int) ≤ 200) := by
  unfold Rt wi
  simp
  constructor
  · rintro ⟨⟨a1, a2⟩, ⟨b1, b2⟩, ⟨c1, c2⟩, ⟨d1, d2⟩, ⟨e1, e2⟩, ⟨f1, f2⟩, ⟨g1, g2⟩, h1, h2⟩
    exact ⟨⟨⟨a1, a2⟩, b1, b2⟩, ⟨⟨c1, c2⟩, ⟨d1, d2⟩, ⟨e1, e2⟩, f1, f2⟩, ⟨g1, g2⟩, h1, h2⟩
  · rintro ⟨⟨⟨a1, a2⟩, b1, b2⟩, ⟨⟨c1, c2⟩, ⟨d1, d2⟩, ⟨e1, e2⟩, f1, f2⟩, ⟨g1, g2⟩, h1, h2⟩
    exact ⟨⟨a1, a2⟩, ⟨b1, b2⟩, ⟨c1, c2⟩, ⟨d1, d2⟩, ⟨e1, e2⟩, ⟨f1, f2⟩, ⟨g1, g2⟩, h1, h2⟩
set_option maxHeartbeats 2000000 in
theorem eright_any (e : En) (w : World) : Calls Tryd.prog 10 #[e.val] w (VE w (.bool (decide (Rt e)))) := by
  have hb : decide (Rt e) = (wi 1 72057594037927935 [e.opn, e.client] && wi 0 72057594037927935 [e.view, e.under, e.session, e.request] && wi 1 255 [e.oper] && decide (e.under ≤ e.view) && decide ((e.body.size : Int) ≤ 200)) := by
    rw [Bool.eq_iff_iff, decide_eq_true_iff, rt_iff e]
    simp only [Bool.and_eq_true, decide_eq_true_eq, and_assoc]
  rw [hb]
  clear hb
  have HW1 := hid (wiA 1 72057594037927935 [e.opn, e.client] #[.int .i64 e.opn, .int .i64 e.client] 2 (by simp) (by simp) rfl rfl)
  have HW2 := hid (wiA 0 72057594037927935 [e.view, e.under, e.session, e.request] #[.int .i64 e.view, .int .i64 e.under, .int .i64 e.session, .int .i64 e.request] 4 (by simp) (by simp) rfl rfl)
  have HW3 := hid (wiA 1 255 [e.oper] #[.int .i64 e.oper] 1 (by simp) (by simp) rfl rfl)
  generalize wi 1 72057594037927935 [e.opn, e.client] = b1 at *
  generalize wi 0 72057594037927935 [e.view, e.under, e.session, e.request] = b2 at *
  generalize wi 1 255 [e.oper] = b3 at *
  obtain ⟨view, opn, under, parent, client, session, request, oper, body⟩ := e
  show Calls Tryd.prog 10 #[.agg #[.int .i64 view, .int .i64 opn, .int .i64 under, .int .u64 (parent : Int), .int .i64 client, .int .i64 session, .int .i64 request, .int .i64 oper, .string body]] w (VE w (.bool (b1 && b2 && b3 && decide (under ≤ view) && decide ((body.size : Int) ≤ 200))))
  go_enter Tryd.func10, Tryd.ntmps10
  go_wp2_with (first
    | (go_at_call 28; refine (HW1.out _ _ (by simp)).mono ?_; rintro e w' ⟨rfl, rfl⟩; clear HW1)
    | (go_at_call 28; refine (HW2.out _ _ (by simp)).mono ?_; rintro e w' ⟨rfl, rfl⟩; clear HW2)
    | (go_at_call 28; refine (HW3.out _ _ (by simp)).mono ?_; rintro e w' ⟨rfl, rfl⟩; clear HW3))
  all_goals (go_ret; refine ⟨by simp [*] <;> omega, ?_⟩; repeat' first | exact Below.refl _ _ | refine Below.alloc ?_ (by simp <;> omega) _)
end Go.Proofs.YtafbeepacncooaaDoor
/-
  The walks of package entry's headOf, entryOf.
-/
namespace Go.Proofs.YtafbeepacncooaaDoor
open Go.RowKit
set_option maxRecDepth 10000

/-- an entry's header; an entry of a header and a body -/
def hof (e : En) : Hd := ⟨255, 0, e.oper, e.view, e.opn, 0, e.client, e.session, e.request, e.under, 0, e.parent⟩
def eof (h : Hd) (b : ByteArray) : En := ⟨h.view, h.opn, h.a, h.parent, h.client, h.session, h.request, h.oper, b⟩
set_option maxHeartbeats 1000000 in
theorem hof_any (e : En) (w : World) : Calls Tryd.prog 74 #[e.val] w (VE w (hof e).val) := by
  obtain ⟨view, opn, under, parent, client, session, request, oper, body⟩ := e
  show Calls Tryd.prog 74 #[.agg #[.int .i64 view, .int .i64 opn, .int .i64 under, .int .u64 (parent : Int), .int .i64 client, .int .i64 session, .int .i64 request, .int .i64 oper, .string body]] w (VE w (.agg #[.int .i64 255, .int .i64 0, .int .i64 oper, .int .i64 view, .int .i64 opn, .int .i64 0, .int .i64 client, .int .i64 session, .int .i64 request, .int .i64 under, .int .i64 0, .int .u64 (parent : Int)]))
  go_enter Tryd.func74, Tryd.ntmps74
  go_wp2_with fail
  refine bodyPost_ret (v := .agg #[.int .i64 255, .int .i64 0, .int .i64 oper, .int .i64 view, .int .i64 opn, .int .i64 0, .int .i64 client, .int .i64 session, .int .i64 request, .int .i64 under, .int .i64 0, .int .u64 (parent : Int)])
    (results_cell_row rfl _ _ (w.heap.size + 1) 119 _ (0, 0) _ rfl (alloc2_new _ _ _) Tryd.underlying119 rfl (by kernel_rfl)) rfl ⟨rfl, ((Below.refl _ _).alloc (Nat.le_refl _) _).alloc (by simp) _⟩
set_option maxHeartbeats 1000000 in
theorem eof_any (h : Hd) (b : ByteArray) (w : World) : Calls Tryd.prog 84 #[h.val, .string b] w (VE w (eof h b).val) := by
  obtain ⟨kind, frm, oper, view, opn, commit, client, session, request, a, bb, parent⟩ := h
  show Calls Tryd.prog 84 #[.agg #[.int .i64 kind, .int .i64 frm, .int .i64 oper, .int .i64 view, .int .i64 opn, .int .i64 commit, .int .i64 client, .int .i64 session, .int .i64 request, .int .i64 a, .int .i64 bb, .int .u64 (parent : Int)], .string b] w (VE w (.agg #[.int .i64 view, .int .i64 opn, .int .i64 a, .int .u64 (parent : Int), .int .i64 client, .int .i64 session, .int .i64 request, .int .i64 oper, .string b]))
  go_enter Tryd.func84, Tryd.ntmps84
  go_wp2_with fail
  refine bodyPost_ret (v := .agg #[.int .i64 view, .int .i64 opn, .int .i64 a, .int .u64 (parent : Int), .int .i64 client, .int .i64 session, .int .i64 request, .int .i64 oper, .string b])
    (results_cell_row rfl _ _ (w.heap.size + 1) 28 _ (0, 0) _ rfl (alloc2_new _ _ _) Tryd.underlying28 rfl (by kernel_rfl)) rfl ⟨rfl, ((Below.refl _ _).alloc (Nat.le_refl _) _).alloc (by simp) _⟩
end Go.Proofs.YtafbeepacncooaaDoor
/-
  The walk of package entry's Pack.
-/
namespace Go.Proofs.YtafbeepacncooaaDoor
open Go.RowKit
set_option maxRecDepth 10000

/-- what Pack answers -/
def packE (e : En) : List UInt8 × Int := if Rt e then packS (hof e) (sb e.body) else ([], 4)
set_option maxHeartbeats 1000000 in
theorem epack_no (E : Array Value) (w : World) (hE : (Tryd.prog.info? 28).map (·.size) = some E.size)
    (HR : Hid (∀ W : World, Calls Tryd.prog 10 #[.agg E] W (VE W (.bool false)))) :
    Calls Tryd.prog 58 #[.agg E] w (SN w ([], 4)) := by
  have HE := hid hE
  have HB := hid ((Below.refl w.heap.size w).alloc (Nat.le_refl _) (.cells E 28))
  have HRW : Hid (Row (w.alloc (.cells E 28)) w.heap.size 28 E.toList) := hid (Row.new _ _ _)
  clear hE
  go_enter Tryd.func58, Tryd.ntmps58
  go_wp2_with (first
    | (refine wpList_load_row rfl 28 (.tmp 1) rfl w.heap.size rfl 28 E (0, 0) _ HRW.out.arr Tryd.underlying28 rfl HE.out ?_)
    | (go_at_call 10; refine (HR.out _).mono ?_; rintro e w1 ⟨rfl, hb1⟩))
  go_ret2
  exact ⟨rfl, HB.out.trans (hb1.mono HB.out.size)⟩
set_option maxHeartbeats 2000000 in
theorem epack_yes (view opn under : Int) (parent : Nat) (client session request oper : Int) (body : ByteArray) (T : ByteArray) (f : Int) (w : World) (hf : Fd w)
    (HR : Hid (∀ W : World, Calls Tryd.prog 10 #[.agg #[.int .i64 view, .int .i64 opn, .int .i64 under, .int .u64 (parent : Int), .int .i64 client, .int .i64 session, .int .i64 request, .int .i64 oper, .string body]] W (VE W (.bool true))))
    (HH : Hid (∀ W : World, Calls Tryd.prog 74 #[.agg #[.int .i64 view, .int .i64 opn, .int .i64 under, .int .u64 (parent : Int), .int .i64 client, .int .i64 session, .int .i64 request, .int .i64 oper, .string body]] W (VE W (.agg #[.int .i64 255, .int .i64 0, .int .i64 oper, .int .i64 view, .int .i64 opn, .int .i64 0, .int .i64 client, .int .i64 session, .int .i64 request, .int .i64 under, .int .i64 0, .int .u64 (parent : Int)]))))
    (HP : Hid (∀ W : World, Fd W → Calls Tryd.prog 73 #[.agg #[.int .i64 255, .int .i64 0, .int .i64 oper, .int .i64 view, .int .i64 opn, .int .i64 0, .int .i64 client, .int .i64 session, .int .i64 request, .int .i64 under, .int .i64 0, .int .u64 (parent : Int)], .string body] W fun x W' => x = .returned (.tuple #[.string T, .int .i64 f]) ∧ Below W.heap.size W W')) :
    Calls Tryd.prog 58 #[.agg #[.int .i64 view, .int .i64 opn, .int .i64 under, .int .u64 (parent : Int), .int .i64 client, .int .i64 session, .int .i64 request, .int .i64 oper, .string body]] w fun x W' => x = .returned (.tuple #[.string T, .int .i64 f]) ∧ Below w.heap.size w W' := by
  have HZ := hid esize
  have HF := hid hf
  have HB := hid ((Below.refl w.heap.size w).alloc (Nat.le_refl _) (.cells #[.int .i64 view, .int .i64 opn, .int .i64 under, .int .u64 (parent : Int), .int .i64 client, .int .i64 session, .int .i64 request, .int .i64 oper, .string body] 28))
  have HRW : Hid (Row (w.alloc (.cells #[.int .i64 view, .int .i64 opn, .int .i64 under, .int .u64 (parent : Int), .int .i64 client, .int .i64 session, .int .i64 request, .int .i64 oper, .string body] 28)) w.heap.size 28 (#[.int .i64 view, .int .i64 opn, .int .i64 under, .int .u64 (parent : Int), .int .i64 client, .int .i64 session, .int .i64 request, .int .i64 oper, .string body] : Array Value).toList) := hid (Row.new _ _ _)
  clear hf
  go_enter Tryd.func58, Tryd.ntmps58
  go_wp2_with (go_at_call 10; refine (HR.out _).mono ?_; rintro e w1 ⟨rfl, hb1⟩; have HB1 := hid (HB.out.trans (hb1.mono HB.out.size)); have HE1 := hid (HRW.out.below hb1 HRW.out.lt); clear hb1)
  have HF1 := hid (HF.out.below HB1.out HF.out.1)
  refine wp_region_held_drew (S := fun W => Below w1.heap.size w1 W) (by kernel_rfl) ((Below.refl _ _).drew) (fun hH => ?_)
  refine wpAnyH_take (i := 0) (v := .agg #[.int .i64 view, .int .i64 opn, .int .i64 under, .int .u64 (parent : Int), .int .i64 client, .int .i64 session, .int .i64 request, .int .i64 oper, .string body]) rfl (by kernel_rfl) (by kernel_rfl) (by kernel_rfl) (fun _ _ _ h => h) ?_ hH ?_
  · refine yieldsIf_load_mid ?_ 28 (.tmp 1) ?_ w.heap.size 0 ?_ (Array.toList #[.int .i64 view, .int .i64 opn, .int .i64 under, .int .u64 (parent : Int), .int .i64 client, .int .i64 session, .int .i64 request, .int .i64 oper, .string body]) _ (fun W hW => Row.range (HE1.out.below hW HE1.out.lt)) Tryd.underlying28 rfl HZ.out
    all_goals kernel_rfl
  simp only [Act.put]
  refine wpAnyH_take (i := 2) (v := .pointer (some ⟨w.heap.size, 8, none⟩)) rfl (by kernel_rfl) (by kernel_rfl) (by kernel_rfl) (fun _ _ _ h => h) (Or.inl ⟨by rfl, fun w' hw' => by clear hw'; go_simp⟩) hH ?_
  simp only [Act.put]
  refine wpAnyH_take (i := 3) (v := .string body) rfl (by kernel_rfl) (by kernel_rfl) (by kernel_rfl) (fun _ _ _ h => h) (Or.inl ⟨by rfl, fun w' hw' => by have h := (HE1.out.below hw' HE1.out.lt).at_ 8 _ rfl; clear hw'; go_simp⟩) hH ?_
  simp only [Act.put]
  refine wpAnyH_ready (rs := [1]) (by kernel_rfl) (by simp) ?_
  refine AllReadyH.cons rfl (fun K hK => ?_) AllReadyH.nil
  go_simp
  go_at_call 74
  refine (HH.out _).mono ?_
  rintro e w2 ⟨rfl, hb2⟩
  go_wp2_with fail
  refine hK.out _ _ (hH.trans (Below.mono hb2 hH.size)) (fun hH => ?_)
  clear hK K
  try simp only [Act.put]
  refine wpAnyH_ready (rs := [4]) (by kernel_rfl) (by simp) ?_
  refine AllReadyH.cons rfl (fun K hK => ?_) AllReadyH.nil
  go_simp
  go_at_call 73
  refine (HP.out _ (HF1.out.below hH HF1.out.1)).mono ?_
  rintro e w3 ⟨rfl, hb3⟩
  go_wp2_with fail
  refine hK.out _ _ (hH.trans (Below.mono hb3 hH.size)) (fun hH => ?_)
  clear hK K
  try simp only [Act.put]
  refine wpAnyH_take (i := 5) (v := .string T) rfl (by kernel_rfl) (by kernel_rfl) (by kernel_rfl) (fun _ _ _ h => h) (Or.inl ⟨by rfl, fun w' hw' => by clear hw'; go_simp⟩) hH ?_
  simp only [Act.put]
  refine wpAnyH_take (i := 6) (v := .int .i64 f) rfl (by kernel_rfl) (by kernel_rfl) (by kernel_rfl) (fun _ _ _ h => h) (Or.inl ⟨by rfl, fun w' hw' => by clear hw'; go_simp⟩) hH ?_
  simp only [Act.put]
  refine wpAnyH_ready (rs := [7]) (by kernel_rfl) (by simp) ?_
  refine AllReadyH.cons rfl (fun K hK => ?_) AllReadyH.nil
  go_simp
  refine hK.out _ _ (hH) (fun hH => ?_)
  clear hK K
  try simp only [Act.put]
  refine wpAnyH_ready (rs := [8]) (by kernel_rfl) (by simp) ?_
  refine AllReadyH.cons rfl (fun K hK => ?_) AllReadyH.nil
  go_simp
  refine hK.out _ _ (hH) (fun hH => ?_)
  clear hK K
  try simp only [Act.put]
  refine wpAnyH_done (by kernel_rfl) ?_ _
  try simp only [Act.put]
  go_wp2_with fail
  go_ret2
  exact ⟨rfl, HB1.out.trans (hH.mono HB1.out.size)⟩
theorem packS_rt {e : En} (he : e.fits) (h : Rt e) : Fits (hof e).nums ∧ (hof e).fits := by
  obtain ⟨⟨a1, a2, a3, a4⟩, ⟨b1, b2, b3⟩, hp⟩ := he
  obtain ⟨h1, h2, h3, h4, h5, h6, h7, h8, h9⟩ := h
  have hh : (hof e).fits := ⟨⟨⟨by show (-9223372036854775808 : Int) ≤ 255; omega, by show (255 : Int) ≤ _; omega⟩, ⟨by show (-9223372036854775808 : Int) ≤ 0; omega, by show (0 : Int) ≤ _; omega⟩, b3, a1, a2, ⟨by show (-9223372036854775808 : Int) ≤ 0; omega, by show (0 : Int) ≤ _; omega⟩⟩, ⟨a4, b1, b2, a3, ⟨by show (-9223372036854775808 : Int) ≤ 0; omega, by show (0 : Int) ≤ _; omega⟩⟩, hp⟩
  refine ⟨?_, hh⟩
  have hr := right_fits (hof e) hh
  have : rightS (hof e) = true := by
    unfold rightS sm ft hof
    simp only [Bool.and_eq_true, decide_eq_true_eq]
    exact ⟨⟨⟨⟨⟨⟨⟨⟨⟨⟨⟨by omega, by omega⟩, by omega, by omega⟩, by omega, by omega⟩, h3⟩, by omega, by omega⟩, by omega, by omega⟩, by omega, by omega⟩, h5⟩, h6⟩, h4⟩, by omega, by omega⟩
  rw [this] at hr
  exact of_decide_eq_true hr.symm
theorem epack_any (e : En) (w : World) (hf : Fd w) : Calls Tryd.prog 58 #[e.val] w (SN w (packE e)) := by
  have HR := hid (fun W => eright_any e W)
  unfold packE
  by_cases h : Rt e
  · rw [if_pos h]
    rw [decide_eq_true h] at HR
    have HH := hid (fun W => hof_any e W)
    have HP := hid (fun W hW => pack_any (hof e) e.body W hW)
    obtain ⟨r, hr⟩ : ∃ r, r = packS (hof e) (sb e.body) := ⟨_, rfl⟩
    rw [← hr] at HP ⊢
    obtain ⟨view, opn, under, parent, client, session, request, oper, body⟩ := e
    exact epack_yes view opn under parent client session request oper body ⟨r.1.toArray⟩ r.2 w hf HR HH HP
  · rw [if_neg h]
    rw [decide_eq_false h] at HR
    exact epack_no e.cells w (ecells_size e) HR
end Go.Proofs.YtafbeepacncooaaDoor
/-
  The walk of package entry's Unpack.
-/
namespace Go.Proofs.YtafbeepacncooaaDoor
open Go.RowKit
set_option maxRecDepth 10000

/-- an entry and an error -/
def EE (w : World) (r : En × Int) (e : Ending) (w' : World) : Prop := e = .returned (.tuple #[r.1.val, .int .i64 r.2]) ∧ Below w.heap.size w w'
/-- what Unpack answers -/
def unpackE (s : List UInt8) : En × Int :=
  if (unpackS s).2.2 = 0 ∧ Rt (eof (unpackS s).1 ⟨(unpackS s).2.1.toArray⟩) ∧ hof (eof (unpackS s).1 ⟨(unpackS s).2.1.toArray⟩) = (unpackS s).1 then (eof (unpackS s).1 ⟨(unpackS s).2.1.toArray⟩, 0) else (en0, 4)
theorem egHd : Tryd.prog.eqGuardType Tryd.prog.depth 119 = false := by kernel_rfl
/-- x != y, headers, in a region that draws its order -/
theorem yields_neh {ops : Array Oper} {S : World → Prop} {o : Oper} {a : Act} (hw : Region.wanted o (yielded ops a.tmps) = true) (x y : Operand) (ty : TypeId) (ho : o.op = .binOp .neq 119 x y ty) (G K : Array Value)
    (hx : a.eval x = .agg G) (hy : a.eval y = .agg K) (b : Bool) (hEQ : ∀ W, (Op.equalIn 10000 119 (.agg G) (.agg K)).run Tryd.prog W = .ok b W) : YieldsIf Tryd.prog ops S o (.bool (!b)) a :=
  .inl ⟨hw, fun w _ => by
    have hEG := egHd
    have hE := hEQ w
    unfold execOp
    simp [ho, hx, hy, eqGuard, hEG, binOp, Op.equal, Op.maxDepth, hE, Result.andThen]⟩
theorem hsize : (Tryd.prog.info? 119).map (·.size) = some 12 := by kernel_rfl
set_option maxHeartbeats 1000000 in
theorem eup_none (s : ByteArray) (h : Hd) (b : ByteArray) (f : Int) (w : World) (hf : Fd w) (hne : (f != 0) = true)
    (HU : Hid (∀ W : World, Fd W → Calls Tryd.prog 83 #[.string s] W fun x W' => x = .returned (.tuple #[h.val, .string b, .int .i64 f]) ∧ Below W.heap.size W W')) :
    Calls Tryd.prog 69 #[.string s] w (EE w (en0, 4)) := by
  have HZ := hid esize
  have HF := hid hf
  have HZH := hid hsize
  have HB0 := hid ((Below.refl w.heap.size w).alloc (Nat.le_refl _) (.cells en0.cells 28))
  have HR0 : Hid (Row (w.alloc (.cells en0.cells 28)) w.heap.size 28 en0.cells.toList) := hid (Row.new _ _ _)
  clear hf
  go_enter Tryd.func69, Tryd.ntmps69
  go_wp2_with (first
    | (go_at_call 83; refine (HU.out _ (HF.out.below HB0.out HF.out.1)).mono ?_; rintro e w1 ⟨rfl, hb1⟩; have hlt0 := HR0.out.lt; have hr0 := HR0.out.below hb1 hlt0; have hbb := HB0.out.trans (hb1.mono HB0.out.size); clear hb1)
    | (refine wpl_store_head rfl (.tmp 4) (.tmp 11) rfl w1.heap.size h rfl rfl (Row.new _ _ _) ?_; intro w2 hr2 hg2; have hl1 := hr0.lt; have hr0x := (hr0.alloc _).grown hg2 (by intro e; have := Option.some.inj e; omega); have hbb2 := (hbb.alloc hbb.size _).trans (below_grown hg2 hbb.size (by have := hbb.size; simp; omega)); clear hr0 hbb; have hr0 := hr0x; have hbb := hbb2; clear hr0x hbb2 hg2)
    | (refine wpl_store_st rfl (.tmp 2) (.tmp 16) rfl HZ.out w.heap.size en0.cells en0.cells rfl rfl hr0 ?_ (hid rfl) (hid rfl) (hid (ecells_one en0)); intro wz hrz hgz; have HBZ := hid (hbb.trans (below_grown hgz (Nat.le_refl _) hbb.size)); clear hgz))
  refine bodyPost_ret (v := .tuple #[.agg en0.cells, .int .i64 4]) (results_cell1 rfl _ _ w.heap.size 28 en0.cells (0, 0) _ (.int .i64 4) rfl rfl (Row.arr hrz) Tryd.underlying28 rfl HZ.out) rfl ⟨rfl, HBZ.out⟩
set_option maxHeartbeats 2000000 in
theorem eup_no (s : ByteArray) (h : Hd) (b : ByteArray) (x : En) (w : World) (hf : Fd w)
    (HU : Hid (∀ W : World, Fd W → Calls Tryd.prog 83 #[.string s] W fun x W' => x = .returned (.tuple #[h.val, .string b, .int .i64 0]) ∧ Below W.heap.size W W'))
    (HEO : Hid (∀ W : World, Calls Tryd.prog 84 #[.agg h.cells, .string b] W (VE W (.agg x.cells))))
    (HR : Hid (∀ W : World, Calls Tryd.prog 10 #[.agg x.cells] W (VE W (.bool false)))) :
    Calls Tryd.prog 69 #[.string s] w (EE w (en0, 4)) := by
  have HZ := hid esize
  have HF := hid hf
  have HZH := hid hsize
  have HB0 := hid ((Below.refl w.heap.size w).alloc (Nat.le_refl _) (.cells en0.cells 28))
  have HR0 : Hid (Row (w.alloc (.cells en0.cells 28)) w.heap.size 28 en0.cells.toList) := hid (Row.new _ _ _)
  clear hf
  go_enter Tryd.func69, Tryd.ntmps69
  go_wp2_with (first
    | (go_at_call 83; refine (HU.out _ (HF.out.below HB0.out HF.out.1)).mono ?_; rintro e w1 ⟨rfl, hb1⟩; have hlt0 := HR0.out.lt; have hr0 := HR0.out.below hb1 hlt0; have hbb := HB0.out.trans (hb1.mono HB0.out.size); clear hb1)
    | (refine wpl_store_head rfl (.tmp 4) (.tmp 11) rfl w1.heap.size h rfl rfl (Row.new _ _ _) ?_; intro w2 hr2 hg2; have hl1 := hr0.lt; have hr0x := (hr0.alloc _).grown hg2 (by intro e; have := Option.some.inj e; omega); have hbb2 := (hbb.alloc hbb.size _).trans (below_grown hg2 hbb.size (by have := hbb.size; simp; omega)); clear hr0 hbb; have hr0 := hr0x; have hbb := hbb2; clear hr0x hbb2 hg2)
    | (refine wpList_load_row rfl 119 (.tmp 4) rfl w1.heap.size rfl 119 h.cells (0, 0) _ hr2.arr Tryd.underlying119 rfl HZH.out ?_)
    | (go_at_call 84; refine (HEO.out _).mono ?_; rintro e w3 ⟨rfl, hb3⟩; have hr0y := hr0.below hb3 hr0.lt; have hr2y := hr2.below hb3 hr2.lt; have hbb3 := hbb.trans (hb3.mono hbb.size); clear hr0 hr2 hbb hb3)
    | (refine wpl_store_st rfl (.tmp 7) (.tmp 19) rfl HZ.out w3.heap.size en0.cells x.cells rfl rfl (Row.new _ _ _) ?_ (hid rfl) (hid rfl) (hid (ecells_one x)); intro w4 hr4 hg4; have hr0 := (hr0y.alloc _).grown hg4 (by intro e; have := Option.some.inj e; have := hr0y.lt; omega); have hr2 := (hr2y.alloc _).grown hg4 (by intro e; have := Option.some.inj e; have := hr2y.lt; omega); have hbb := (hbb3.alloc hbb3.size _).trans (below_grown hg4 hbb3.size (by have := hbb3.size; simp; omega)); clear hr0y hr2y hbb3 hg4))
  simp only [Act.put]
  have HR4 := hid hr4
  have HR2 := hid hr2
  have HRZ := hid hr0
  have HBB := hid hbb
  clear hr4 hr2 hr0 hbb
  go_cut [28] (fun v wx => v = .bool true ∧ Below w4.heap.size w4 wx)
  case first =>
    refine wp_region_held_drew (S := fun W => Below w4.heap.size w4 W) (by kernel_rfl) ((Below.refl _ _).drew) (fun hH => ?_)
    refine wpAnyH_take (i := 0) (v := .agg x.cells) rfl (by kernel_rfl) (by kernel_rfl) (by kernel_rfl) (fun _ _ _ h => h) ?_ hH ?_
    · refine yieldsIf_load_mid ?_ 28 (.tmp 7) ?_ w3.heap.size 0 ?_ (Array.toList x.cells) _ (fun W hW => Row.range (HR4.out.below hW HR4.out.lt)) Tryd.underlying28 rfl HZ.out
      all_goals kernel_rfl
    simp only [Act.put]
    refine wpAnyH_ready (rs := [1]) (by kernel_rfl) (by simp) ?_
    refine AllReadyH.cons rfl (fun K hK => ?_) AllReadyH.nil
    go_simp
    go_at_call 10
    refine (HR.out _).mono ?_
    rintro e w5 ⟨rfl, hb5⟩
    go_wp2_with fail
    refine hK.out _ _ (hH.trans (Below.mono hb5 hH.size)) (fun hH => ?_)
    clear hK K
    try simp only [Act.put]
    refine wpAnyH_take (i := 2) (v := .bool true) rfl (by kernel_rfl) (by kernel_rfl) (by kernel_rfl) (fun _ _ _ h => h) (Or.inl ⟨by rfl, fun w' hw' => by clear hw'; go_simp⟩) hH ?_
    simp only [Act.put]
    refine wpAnyH_take (i := 3) (v := .bool true) rfl (by kernel_rfl) (by kernel_rfl) (by kernel_rfl) (fun _ _ _ h => h) (Or.inl ⟨by rfl, fun w' hw' => by clear hw'; go_simp⟩) hH ?_
    simp only [Act.put]
    refine wpAnyH_take (i := 4) (v := undef) rfl (by kernel_rfl) (by kernel_rfl) (by kernel_rfl) (fun _ _ _ h => h) (Or.inr ⟨by kernel_rfl, rfl⟩) hH ?_
    simp only [Act.put]
    refine wpAnyH_take (i := 5) (v := undef) rfl (by kernel_rfl) (by kernel_rfl) (by kernel_rfl) (fun _ _ _ h => h) (Or.inr ⟨by kernel_rfl, rfl⟩) hH ?_
    simp only [Act.put]
    refine wpAnyH_take (i := 6) (v := undef) rfl (by kernel_rfl) (by kernel_rfl) (by kernel_rfl) (fun _ _ _ h => h) (Or.inr ⟨by kernel_rfl, rfl⟩) hH ?_
    simp only [Act.put]
    refine wpAnyH_ready (rs := [7]) (by kernel_rfl) (by simp) ?_
    refine AllReadyH.cons rfl (fun K hK => ?_) AllReadyH.nil
    go_simp
    refine hK.out _ _ (hH) (fun hH => ?_)
    clear hK K
    try simp only [Act.put]
    refine wpAnyH_ready (rs := [8]) (by kernel_rfl) (by simp) ?_
    refine AllReadyH.cons rfl (fun K hK => ?_) AllReadyH.nil
    go_simp
    refine hK.out _ _ (hH) (fun hH => ?_)
    clear hK K
    try simp only [Act.put]
    refine wpAnyH_done (by kernel_rfl) ?_ _
    try simp only [Act.put]
    go_wp2_with fail
    go_meet
    case rel => exact ⟨rfl, hH⟩
  case rest =>
  obtain ⟨rfl, hbx⟩ := hcut
  have hbb := HBB.out.trans (hbx.mono HBB.out.size)
  have hr0 := HRZ.out.below hbx HRZ.out.lt
  clear hbx
  go_wp2_with (refine wpl_store_st rfl (.tmp 2) (.tmp 29) rfl HZ.out w.heap.size en0.cells en0.cells rfl rfl hr0 ?_ (hid rfl) (hid rfl) (hid (ecells_one en0)); intro wz hrz hgz; have HBZ := hid (hbb.trans (below_grown hgz (Nat.le_refl _) hbb.size)); clear hgz)
  refine bodyPost_ret (v := .tuple #[.agg en0.cells, .int .i64 4]) (results_cell1 rfl _ _ w.heap.size 28 en0.cells (0, 0) _ (.int .i64 4) rfl rfl (Row.arr hrz) Tryd.underlying28 rfl HZ.out) rfl ⟨rfl, HBZ.out⟩
set_option maxHeartbeats 2000000 in
theorem eup_bad (s : ByteArray) (h g : Hd) (b : ByteArray) (x : En) (w : World) (hf : Fd w)
    (HU : Hid (∀ W : World, Fd W → Calls Tryd.prog 83 #[.string s] W fun x W' => x = .returned (.tuple #[h.val, .string b, .int .i64 0]) ∧ Below W.heap.size W W'))
    (HEO : Hid (∀ W : World, Calls Tryd.prog 84 #[.agg h.cells, .string b] W (VE W (.agg x.cells))))
    (HR : Hid (∀ W : World, Calls Tryd.prog 10 #[.agg x.cells] W (VE W (.bool true))))
    (HH : Hid (∀ W : World, Calls Tryd.prog 74 #[.agg x.cells] W (VE W (.agg g.cells))))
    (HEQ : Hid (∀ W : World, (Op.equalIn 10000 119 (.agg g.cells) (.agg h.cells)).run Tryd.prog W = .ok false W)) :
    Calls Tryd.prog 69 #[.string s] w (EE w (en0, 4)) := by
  have HZ := hid esize
  have HF := hid hf
  have HZH := hid hsize
  have HB0 := hid ((Below.refl w.heap.size w).alloc (Nat.le_refl _) (.cells en0.cells 28))
  have HR0 : Hid (Row (w.alloc (.cells en0.cells 28)) w.heap.size 28 en0.cells.toList) := hid (Row.new _ _ _)
  clear hf
  go_enter Tryd.func69, Tryd.ntmps69
  go_wp2_with (first
    | (go_at_call 83; refine (HU.out _ (HF.out.below HB0.out HF.out.1)).mono ?_; rintro e w1 ⟨rfl, hb1⟩; have hlt0 := HR0.out.lt; have hr0 := HR0.out.below hb1 hlt0; have hbb := HB0.out.trans (hb1.mono HB0.out.size); clear hb1)
    | (refine wpl_store_head rfl (.tmp 4) (.tmp 11) rfl w1.heap.size h rfl rfl (Row.new _ _ _) ?_; intro w2 hr2 hg2; have hl1 := hr0.lt; have hr0x := (hr0.alloc _).grown hg2 (by intro e; have := Option.some.inj e; omega); have hbb2 := (hbb.alloc hbb.size _).trans (below_grown hg2 hbb.size (by have := hbb.size; simp; omega)); clear hr0 hbb; have hr0 := hr0x; have hbb := hbb2; clear hr0x hbb2 hg2)
    | (refine wpList_load_row rfl 119 (.tmp 4) rfl w1.heap.size rfl 119 h.cells (0, 0) _ hr2.arr Tryd.underlying119 rfl HZH.out ?_)
    | (go_at_call 84; refine (HEO.out _).mono ?_; rintro e w3 ⟨rfl, hb3⟩; have hr0y := hr0.below hb3 hr0.lt; have hr2y := hr2.below hb3 hr2.lt; have hbb3 := hbb.trans (hb3.mono hbb.size); clear hr0 hr2 hbb hb3)
    | (refine wpl_store_st rfl (.tmp 7) (.tmp 19) rfl HZ.out w3.heap.size en0.cells x.cells rfl rfl (Row.new _ _ _) ?_ (hid rfl) (hid rfl) (hid (ecells_one x)); intro w4 hr4 hg4; have hr0 := (hr0y.alloc _).grown hg4 (by intro e; have := Option.some.inj e; have := hr0y.lt; omega); have hr2 := (hr2y.alloc _).grown hg4 (by intro e; have := Option.some.inj e; have := hr2y.lt; omega); have hbb := (hbb3.alloc hbb3.size _).trans (below_grown hg4 hbb3.size (by have := hbb3.size; simp; omega)); clear hr0y hr2y hbb3 hg4))
  simp only [Act.put]
  have HR4 := hid hr4
  have HR2 := hid hr2
  have HRZ := hid hr0
  have HBB := hid hbb
  clear hr4 hr2 hr0 hbb
  go_cut [28] (fun v wx => v = .bool true ∧ Below w4.heap.size w4 wx)
  case first =>
    refine wp_region_held_drew (S := fun W => Below w4.heap.size w4 W) (by kernel_rfl) ((Below.refl _ _).drew) (fun hH => ?_)
    refine wpAnyH_take (i := 0) (v := .agg x.cells) rfl (by kernel_rfl) (by kernel_rfl) (by kernel_rfl) (fun _ _ _ h => h) ?_ hH ?_
    · refine yieldsIf_load_mid ?_ 28 (.tmp 7) ?_ w3.heap.size 0 ?_ (Array.toList x.cells) _ (fun W hW => Row.range (HR4.out.below hW HR4.out.lt)) Tryd.underlying28 rfl HZ.out
      all_goals kernel_rfl
    simp only [Act.put]
    refine wpAnyH_ready (rs := [1]) (by kernel_rfl) (by simp) ?_
    refine AllReadyH.cons rfl (fun K hK => ?_) AllReadyH.nil
    go_simp
    go_at_call 10
    refine (HR.out _).mono ?_
    rintro e w5 ⟨rfl, hb5⟩
    go_wp2_with fail
    refine hK.out _ _ (hH.trans (Below.mono hb5 hH.size)) (fun hH => ?_)
    clear hK K
    try simp only [Act.put]
    refine wpAnyH_take (i := 2) (v := .bool false) rfl (by kernel_rfl) (by kernel_rfl) (by kernel_rfl) (fun _ _ _ h => h) (Or.inl ⟨by rfl, fun w' hw' => by clear hw'; go_simp⟩) hH ?_
    simp only [Act.put]
    refine wpAnyH_take (i := 3) (v := .bool false) rfl (by kernel_rfl) (by kernel_rfl) (by kernel_rfl) (fun _ _ _ h => h) (Or.inl ⟨by rfl, fun w' hw' => by clear hw'; go_simp⟩) hH ?_
    simp only [Act.put]
    refine wpAnyH_take (i := 4) (v := .agg x.cells) rfl (by kernel_rfl) (by kernel_rfl) (by kernel_rfl) (fun _ _ _ h => h) ?_ hH ?_
    · refine yieldsIf_load_mid ?_ 28 (.tmp 7) ?_ w3.heap.size 0 ?_ (Array.toList x.cells) _ (fun W hW => Row.range (HR4.out.below hW HR4.out.lt)) Tryd.underlying28 rfl HZ.out
      all_goals kernel_rfl
    simp only [Act.put]
    refine wpAnyH_take (i := 6) (v := .agg h.cells) rfl (by kernel_rfl) (by kernel_rfl) (by kernel_rfl) (fun _ _ _ h => h) ?_ hH ?_
    · refine yieldsIf_load_mid ?_ 119 (.tmp 4) ?_ w1.heap.size 0 ?_ (Array.toList h.cells) _ (fun W hW => Row.range (HR2.out.below hW HR2.out.lt)) Tryd.underlying119 rfl HZH.out
      all_goals kernel_rfl
    simp only [Act.put]
    refine wpAnyH_ready (rs := [5]) (by kernel_rfl) (by simp) ?_
    refine AllReadyH.cons rfl (fun K hK => ?_) AllReadyH.nil
    rw [if_pos (by kernel_rfl)]
    go_simp
    go_at_call 74
    refine (HH.out _).mono ?_
    rintro e w6 ⟨rfl, hb6⟩
    go_wp2_with fail
    refine hK.out _ _ (hH.trans (Below.mono hb6 hH.size)) (fun hH => ?_)
    clear hK K
    try simp only [Act.put]
    refine wpAnyH_take (i := 7) (v := .bool true) rfl (by kernel_rfl) (by kernel_rfl) (by kernel_rfl) (fun _ _ _ h => h) ?_ hH ?_
    · refine yields_neh ?_ (.tmp 25) (.tmp 26) 119 ?_ g.cells h.cells ?_ ?_ false HEQ.out
      all_goals kernel_rfl
    simp only [Act.put]
    refine wpAnyH_ready (rs := [8]) (by kernel_rfl) (by simp) ?_
    refine AllReadyH.cons rfl (fun K hK => ?_) AllReadyH.nil
    go_simp
    refine hK.out _ _ (hH) (fun hH => ?_)
    clear hK K
    try simp only [Act.put]
    refine wpAnyH_done (by kernel_rfl) ?_ _
    try simp only [Act.put]
    go_wp2_with fail
    go_meet
    case rel => exact ⟨rfl, hH⟩
  case rest =>
  obtain ⟨rfl, hbx⟩ := hcut
  have hbb := HBB.out.trans (hbx.mono HBB.out.size)
  have hr0 := HRZ.out.below hbx HRZ.out.lt
  clear hbx
  go_wp2_with (refine wpl_store_st rfl (.tmp 2) (.tmp 29) rfl HZ.out w.heap.size en0.cells en0.cells rfl rfl hr0 ?_ (hid rfl) (hid rfl) (hid (ecells_one en0)); intro wz hrz hgz; have HBZ := hid (hbb.trans (below_grown hgz (Nat.le_refl _) hbb.size)); clear hgz)
  refine bodyPost_ret (v := .tuple #[.agg en0.cells, .int .i64 4]) (results_cell1 rfl _ _ w.heap.size 28 en0.cells (0, 0) _ (.int .i64 4) rfl rfl (Row.arr hrz) Tryd.underlying28 rfl HZ.out) rfl ⟨rfl, HBZ.out⟩
set_option maxHeartbeats 2000000 in
theorem eup_good (s : ByteArray) (h g : Hd) (b : ByteArray) (x : En) (w : World) (hf : Fd w)
    (HU : Hid (∀ W : World, Fd W → Calls Tryd.prog 83 #[.string s] W fun x W' => x = .returned (.tuple #[h.val, .string b, .int .i64 0]) ∧ Below W.heap.size W W'))
    (HEO : Hid (∀ W : World, Calls Tryd.prog 84 #[.agg h.cells, .string b] W (VE W (.agg x.cells))))
    (HR : Hid (∀ W : World, Calls Tryd.prog 10 #[.agg x.cells] W (VE W (.bool true))))
    (HH : Hid (∀ W : World, Calls Tryd.prog 74 #[.agg x.cells] W (VE W (.agg g.cells))))
    (HEQ : Hid (∀ W : World, (Op.equalIn 10000 119 (.agg g.cells) (.agg h.cells)).run Tryd.prog W = .ok true W)) :
    Calls Tryd.prog 69 #[.string s] w (EE w (x, 0)) := by
  have HZ := hid esize
  have HF := hid hf
  have HZH := hid hsize
  have HB0 := hid ((Below.refl w.heap.size w).alloc (Nat.le_refl _) (.cells en0.cells 28))
  have HR0 : Hid (Row (w.alloc (.cells en0.cells 28)) w.heap.size 28 en0.cells.toList) := hid (Row.new _ _ _)
  clear hf
  go_enter Tryd.func69, Tryd.ntmps69
  go_wp2_with (first
    | (go_at_call 83; refine (HU.out _ (HF.out.below HB0.out HF.out.1)).mono ?_; rintro e w1 ⟨rfl, hb1⟩; have hlt0 := HR0.out.lt; have hr0 := HR0.out.below hb1 hlt0; have hbb := HB0.out.trans (hb1.mono HB0.out.size); clear hb1)
    | (refine wpl_store_head rfl (.tmp 4) (.tmp 11) rfl w1.heap.size h rfl rfl (Row.new _ _ _) ?_; intro w2 hr2 hg2; have hl1 := hr0.lt; have hr0x := (hr0.alloc _).grown hg2 (by intro e; have := Option.some.inj e; omega); have hbb2 := (hbb.alloc hbb.size _).trans (below_grown hg2 hbb.size (by have := hbb.size; simp; omega)); clear hr0 hbb; have hr0 := hr0x; have hbb := hbb2; clear hr0x hbb2 hg2)
    | (refine wpList_load_row rfl 119 (.tmp 4) rfl w1.heap.size rfl 119 h.cells (0, 0) _ hr2.arr Tryd.underlying119 rfl HZH.out ?_)
    | (go_at_call 84; refine (HEO.out _).mono ?_; rintro e w3 ⟨rfl, hb3⟩; have hr0y := hr0.below hb3 hr0.lt; have hr2y := hr2.below hb3 hr2.lt; have hbb3 := hbb.trans (hb3.mono hbb.size); clear hr0 hr2 hbb hb3)
    | (refine wpl_store_st rfl (.tmp 7) (.tmp 19) rfl HZ.out w3.heap.size en0.cells x.cells rfl rfl (Row.new _ _ _) ?_ (hid rfl) (hid rfl) (hid (ecells_one x)); intro w4 hr4 hg4; have hr0 := (hr0y.alloc _).grown hg4 (by intro e; have := Option.some.inj e; have := hr0y.lt; omega); have hr2 := (hr2y.alloc _).grown hg4 (by intro e; have := Option.some.inj e; have := hr2y.lt; omega); have hbb := (hbb3.alloc hbb3.size _).trans (below_grown hg4 hbb3.size (by have := hbb3.size; simp; omega)); clear hr0y hr2y hbb3 hg4))
  simp only [Act.put]
  have HR4 := hid hr4
  have HR2 := hid hr2
  have HRZ := hid hr0
  have HBB := hid hbb
  clear hr4 hr2 hr0 hbb
  go_cut [28] (fun v wx => v = .bool false ∧ Below w4.heap.size w4 wx)
  case first =>
    refine wp_region_held_drew (S := fun W => Below w4.heap.size w4 W) (by kernel_rfl) ((Below.refl _ _).drew) (fun hH => ?_)
    refine wpAnyH_take (i := 0) (v := .agg x.cells) rfl (by kernel_rfl) (by kernel_rfl) (by kernel_rfl) (fun _ _ _ h => h) ?_ hH ?_
    · refine yieldsIf_load_mid ?_ 28 (.tmp 7) ?_ w3.heap.size 0 ?_ (Array.toList x.cells) _ (fun W hW => Row.range (HR4.out.below hW HR4.out.lt)) Tryd.underlying28 rfl HZ.out
      all_goals kernel_rfl
    simp only [Act.put]
    refine wpAnyH_ready (rs := [1]) (by kernel_rfl) (by simp) ?_
    refine AllReadyH.cons rfl (fun K hK => ?_) AllReadyH.nil
    go_simp
    go_at_call 10
    refine (HR.out _).mono ?_
    rintro e w5 ⟨rfl, hb5⟩
    go_wp2_with fail
    refine hK.out _ _ (hH.trans (Below.mono hb5 hH.size)) (fun hH => ?_)
    clear hK K
    try simp only [Act.put]
    refine wpAnyH_take (i := 2) (v := .bool false) rfl (by kernel_rfl) (by kernel_rfl) (by kernel_rfl) (fun _ _ _ h => h) (Or.inl ⟨by rfl, fun w' hw' => by clear hw'; go_simp⟩) hH ?_
    simp only [Act.put]
    refine wpAnyH_take (i := 3) (v := .bool false) rfl (by kernel_rfl) (by kernel_rfl) (by kernel_rfl) (fun _ _ _ h => h) (Or.inl ⟨by rfl, fun w' hw' => by clear hw'; go_simp⟩) hH ?_
    simp only [Act.put]
    refine wpAnyH_take (i := 4) (v := .agg x.cells) rfl (by kernel_rfl) (by kernel_rfl) (by kernel_rfl) (fun _ _ _ h => h) ?_ hH ?_
    · refine yieldsIf_load_mid ?_ 28 (.tmp 7) ?_ w3.heap.size 0 ?_ (Array.toList x.cells) _ (fun W hW => Row.range (HR4.out.below hW HR4.out.lt)) Tryd.underlying28 rfl HZ.out
      all_goals kernel_rfl
    simp only [Act.put]
    refine wpAnyH_take (i := 6) (v := .agg h.cells) rfl (by kernel_rfl) (by kernel_rfl) (by kernel_rfl) (fun _ _ _ h => h) ?_ hH ?_
    · refine yieldsIf_load_mid ?_ 119 (.tmp 4) ?_ w1.heap.size 0 ?_ (Array.toList h.cells) _ (fun W hW => Row.range (HR2.out.below hW HR2.out.lt)) Tryd.underlying119 rfl HZH.out
      all_goals kernel_rfl
    simp only [Act.put]
    refine wpAnyH_ready (rs := [5]) (by kernel_rfl) (by simp) ?_
    refine AllReadyH.cons rfl (fun K hK => ?_) AllReadyH.nil
    rw [if_pos (by kernel_rfl)]
    go_simp
    go_at_call 74
    refine (HH.out _).mono ?_
    rintro e w6 ⟨rfl, hb6⟩
    go_wp2_with fail
    refine hK.out _ _ (hH.trans (Below.mono hb6 hH.size)) (fun hH => ?_)
    clear hK K
    try simp only [Act.put]
    refine wpAnyH_take (i := 7) (v := .bool false) rfl (by kernel_rfl) (by kernel_rfl) (by kernel_rfl) (fun _ _ _ h => h) ?_ hH ?_
    · refine yields_neh ?_ (.tmp 25) (.tmp 26) 119 ?_ g.cells h.cells ?_ ?_ true HEQ.out
      all_goals kernel_rfl
    simp only [Act.put]
    refine wpAnyH_ready (rs := [8]) (by kernel_rfl) (by simp) ?_
    refine AllReadyH.cons rfl (fun K hK => ?_) AllReadyH.nil
    go_simp
    refine hK.out _ _ (hH) (fun hH => ?_)
    clear hK K
    try simp only [Act.put]
    refine wpAnyH_done (by kernel_rfl) ?_ _
    try simp only [Act.put]
    go_wp2_with fail
    go_meet
    case rel => exact ⟨rfl, hH⟩
  case rest =>
  obtain ⟨rfl, hbx⟩ := hcut
  have hbb := HBB.out.trans (hbx.mono HBB.out.size)
  have hr0 := HRZ.out.below hbx HRZ.out.lt
  have hr4 := HR4.out.below hbx HR4.out.lt
  clear hbx
  go_wp2_with (first
    | (refine wpList_load_row rfl 28 (.tmp 7) rfl w3.heap.size rfl 28 x.cells (0, 0) _ hr4.arr Tryd.underlying28 rfl HZ.out ?_)
    | (refine wpl_store_st rfl (.tmp 2) (.tmp 30) rfl HZ.out w.heap.size en0.cells x.cells rfl rfl hr0 ?_ (hid rfl) (hid rfl) (hid (ecells_one x)); intro wz hrz hgz; have HBZ := hid (hbb.trans (below_grown hgz (Nat.le_refl _) hbb.size)); clear hgz))
  refine bodyPost_ret (v := .tuple #[.agg x.cells, .int .i64 0]) (results_cell1 rfl _ _ w.heap.size 28 x.cells (0, 0) _ (.int .i64 0) rfl rfl (Row.arr hrz) Tryd.underlying28 rfl HZ.out) rfl ⟨rfl, HBZ.out⟩
theorem eup_any (s : ByteArray) (w : World) (hf : Fd w) (hbig : s.size ≤ 281474976710656) : Calls Tryd.prog 69 #[.string s] w (EE w (unpackE (sb s))) := by
  have HU := hid (fun W hW => unp_any s W hW hbig)
  unfold unpackE
  generalize unpackS (sb s) = r at HU ⊢
  obtain ⟨h, b, f⟩ := r
  simp only
  obtain ⟨bb, hbb⟩ : ∃ bb : ByteArray, bb = ⟨b.toArray⟩ := ⟨_, rfl⟩
  rw [← hbb]
  have HU2 : Hid (∀ W : World, Fd W → Calls Tryd.prog 83 #[.string s] W fun x W' => x = .returned (.tuple #[h.val, .string bb, .int .i64 f]) ∧ Below W.heap.size W W') := hid fun W hW => by rw [hbb]; exact HU.out W hW
  by_cases h0 : f = 0
  · subst h0
    have HEO := hid (fun W => eof_any h bb W)
    have HR := hid (fun W => eright_any (eof h bb) W)
    have HH := hid (fun W => hof_any (eof h bb) W)
    have HEQ := hid (fun W => eql_head (hof (eof h bb)) h W)
    by_cases h1 : Rt (eof h bb)
    · rw [decide_eq_true h1] at HR
      by_cases h2 : hof (eof h bb) = h
      · rw [if_pos ⟨rfl, h1, h2⟩]
        rw [decide_eq_true h2] at HEQ
        exact eup_good s h (hof (eof h bb)) bb (eof h bb) w hf HU2 HEO HR HH HEQ
      · rw [if_neg (fun c => h2 c.2.2)]
        rw [decide_eq_false h2] at HEQ
        exact eup_bad s h (hof (eof h bb)) bb (eof h bb) w hf HU2 HEO HR HH HEQ
    · rw [if_neg (fun c => h1 c.2.1)]
      rw [decide_eq_false h1] at HR
      exact eup_no s h bb (eof h bb) w hf HU2 HEO HR
  · rw [if_neg (fun c => h0 c.1)]
    exact eup_none s h bb f w hf (by simpa using h0) HU2
end Go.Proofs.YtafbeepacncooaaDoor
/-
  The walk of the document's take (package comptorref05); a header out of its bytes.
-/
namespace Go.Proofs.YtafbeepacncooaaDoor
open Go.RowKit
set_option maxRecDepth 10000

/-- eight bytes at a place as a number -/
def n8 (s : List UInt8) (a : Nat) : Nat := leV ((s.drop a).take 8)
theorem tk_take (s : List UInt8) (k : Nat) (hk : k < 15) : tk (s.take 128) k = tk s k := by
  have h1 := sz_lo k hk
  have h2 := off_more k hk
  unfold tk
  rw [List.drop_take, List.take_take, Nat.min_eq_left (by omega)]
theorem tk_n8 (s : List UInt8) (k a : Nat) (h1 : 4 + off k = a) (h2 : sz k = 8) : tk s k = n8 s a := by
  unfold tk n8
  rw [h1, h2]
theorem tk_one (s : List UInt8) (k a : Nat) (h1 : 4 + off k = a) (h2 : sz k = 1) (h : a < s.length) : tk s k = s[a].toNat := by
  unfold tk
  rw [h1, h2, List.drop_eq_getElem_cons h, List.take_succ_cons, List.take_zero]
  simp [leV]
/-- the header in the first bytes -/
def hdS (s : List UInt8) : Hd := hdOf (takeN (s.take 128))
theorem takeN_get (s : List UInt8) (k : Nat) (hk : k < 15) : (takeN s).getD k 0 = tk s k := by
  unfold takeN
  rw [List.getD, List.getElem?_map, List.getElem?_range hk]
  rfl
theorem hdS_eq (s : List UInt8) (h : 128 ≤ s.length) : hdS s = ⟨sg (s[8]'(by omega)).toNat, sg (s[9]'(by omega)).toNat, sg (s[10]'(by omega)).toNat, sg (n8 s 24), sg (n8 s 32), sg (n8 s 40), sg (n8 s 48), sg (n8 s 56), sg (n8 s 64), sg (n8 s 72), sg (n8 s 80), n8 s 16⟩ := by
  unfold hdS hdOf
  simp only [takeN_get _ _ (show 1 < 15 by decide), takeN_get _ _ (show 2 < 15 by decide), takeN_get _ _ (show 3 < 15 by decide), takeN_get _ _ (show 6 < 15 by decide), takeN_get _ _ (show 7 < 15 by decide), takeN_get _ _ (show 8 < 15 by decide), takeN_get _ _ (show 9 < 15 by decide), takeN_get _ _ (show 10 < 15 by decide), takeN_get _ _ (show 11 < 15 by decide), takeN_get _ _ (show 12 < 15 by decide), takeN_get _ _ (show 13 < 15 by decide), takeN_get _ _ (show 14 < 15 by decide)]
  rw [tk_take s 1 (by decide), tk_take s 2 (by decide), tk_take s 3 (by decide), tk_take s 6 (by decide), tk_take s 7 (by decide), tk_take s 8 (by decide), tk_take s 9 (by decide), tk_take s 10 (by decide), tk_take s 11 (by decide), tk_take s 12 (by decide), tk_take s 13 (by decide), tk_take s 14 (by decide)]
  rw [tk_one s 1 8 rfl rfl (by omega), tk_one s 2 9 rfl rfl (by omega), tk_one s 3 10 rfl rfl (by omega), tk_n8 s 6 16 rfl rfl, tk_n8 s 7 24 rfl rfl, tk_n8 s 8 32 rfl rfl, tk_n8 s 9 40 rfl rfl, tk_n8 s 10 48 rfl rfl, tk_n8 s 11 56 rfl rfl, tk_n8 s 12 64 rfl rfl, tk_n8 s 13 72 rfl rfl, tk_n8 s 14 80 rfl rfl]
theorem n8_lt (s : List UInt8) (a : Nat) : n8 s a < 18446744073709551616 := by
  have h := leV_lt ((s.drop a).take 8)
  have h2 : ((s.drop a).take 8).length ≤ 8 := by rw [List.length_take]; omega
  have h3 : 2 ^ (8 * ((s.drop a).take 8).length) ≤ 2 ^ 64 := Nat.pow_le_pow_right (by omega) (by omega)
  exact Nat.lt_of_lt_of_le h h3
theorem sg_in (n : Nat) : In64 (sg n) := by
  unfold In64 sg wrap64
  omega
theorem hdS_fits (s : List UInt8) (h : 128 ≤ s.length) : (hdS s).fits := by
  rw [hdS_eq s h]
  exact ⟨⟨sg_in _, sg_in _, sg_in _, sg_in _, sg_in _, sg_in _⟩, ⟨sg_in _, sg_in _, sg_in _, sg_in _, sg_in _⟩, n8_lt _ _⟩
end Go.Proofs.YtafbeepacncooaaDoor
/-
  What a disk is and does, as plain functions: sectors, writes under way; rows of equal width laid end to end.
-/
namespace Go.Proofs.YtafbeepacncooaaDoor
open Go.RowKit

structure Sec where
  lasts : List UInt8
  marked : Bool
structure Wr where
  place : Nat
  bytes : List UInt8
structure Sp where
  secs : List Sec
  way : List Wr
  on : Bool
  left : Nat
  count : Nat
/-- all that is there has its size -/
structure Sp.WF (S : Sp) : Prop where
  len : ∀ s ∈ S.secs, s.lasts.length = 384
  way : ∀ x ∈ S.way, x.place < S.secs.length ∧ x.bytes.length = 384
  few : S.secs.length ≤ 64
  left : S.left ≤ 9223372036854775807
  less : S.way.length ≤ S.count
/-- the place, from 1 on, of the last write of sector i; 0: there is none -/
def newest (way : List Wr) (i : Nat) : Nat := (way.foldl (fun a x => (a.1 + 1, if x.place = i then a.1 + 1 else a.2)) (0, 0)).2
/-- the bytes of the last write of sector i, or d -/
def lastw (way : List Wr) (i : Nat) (d : List UInt8) : List UInt8 := way.foldl (fun a x => if x.place = i then x.bytes else a) d
theorem newest_fst (way : List Wr) (i : Nat) : ∀ a, (way.foldl (fun a x => (a.1 + 1, if x.place = i then a.1 + 1 else a.2)) a).1 = a.1 + way.length := by
  induction way with
  | nil => intro a; simp
  | cons x r ih => intro a; rw [List.foldl_cons, ih]; simp only [List.length_cons]; omega
theorem newest_nil (i : Nat) : newest [] i = 0 := rfl
theorem newest_snoc (way : List Wr) (x : Wr) (i : Nat) : newest (way ++ [x]) i = if x.place = i then way.length + 1 else newest way i := by
  unfold newest
  rw [List.foldl_append, List.foldl_cons, List.foldl_nil]
  have := newest_fst way i (0, 0)
  simp only [Nat.zero_add] at this
  simp only [this]
theorem lastw_snoc (way : List Wr) (x : Wr) (i : Nat) (d : List UInt8) : lastw (way ++ [x]) i d = if x.place = i then x.bytes else lastw way i d := by
  unfold lastw
  rw [List.foldl_append, List.foldl_cons, List.foldl_nil]
theorem snoc_ind {α : Type} {p : List α → Prop} (h0 : p []) (h1 : ∀ l x, p l → p (l ++ [x])) : ∀ l, p l := by
  intro l
  have h : ∀ r : List α, p r.reverse := by
    intro r
    induction r with
    | nil => exact h0
    | cons x r ih => rw [List.reverse_cons]; exact h1 _ _ ih
  simpa using h l.reverse
/-- what the newest write of a sector is -/
theorem newest_get (way : List Wr) (i : Nat) (d : List UInt8) : (newest way i = 0 ∧ lastw way i d = d ∧ ∀ x ∈ way, x.place ≠ i) ∨ (∃ k, newest way i = k + 1 ∧ ∃ h : k < way.length, way[k].place = i ∧ way[k].bytes = lastw way i d) := by
  refine snoc_ind (p := fun way => (newest way i = 0 ∧ lastw way i d = d ∧ ∀ x ∈ way, x.place ≠ i) ∨ (∃ k, newest way i = k + 1 ∧ ∃ h : k < way.length, way[k].place = i ∧ way[k].bytes = lastw way i d)) (.inl ⟨rfl, rfl, by simp⟩) ?_ way
  intro l x ih
  rw [newest_snoc, lastw_snoc]
  by_cases hx : x.place = i
  · rw [if_pos hx, if_pos hx]
    exact .inr ⟨l.length, rfl, by simp, by simpa using hx, by simp⟩
  · rw [if_neg hx, if_neg hx]
    rcases ih with ⟨h1, h2, h3⟩ | ⟨k, h1, h2, h3, h4⟩
    · refine .inl ⟨h1, h2, ?_⟩
      intro y hy
      rcases List.mem_append.1 hy with hy | hy
      · exact h3 y hy
      · simp at hy; subst hy; exact hx
    · refine .inr ⟨k, h1, by simp; omega, ?_, ?_⟩
      · rw [List.getElem_append_left h2]; exact h3
      · rw [List.getElem_append_left h2]; exact h4
theorem newest_zero (way : List Wr) (i : Nat) : newest way i = 0 ↔ ∀ x ∈ way, x.place ≠ i := by
  rcases newest_get way i [] with ⟨h1, _, h3⟩ | ⟨k, h1, h2, h3, _⟩
  · exact ⟨fun _ => h3, fun _ => h1⟩
  · rw [h1]
    exact ⟨fun h => by omega, fun h => absurd h3 (h _ (List.getElem_mem h2))⟩
/-- how many bytes of a write last, by a pick -/
def keptS (pick : Int) : Nat := if pick < 0 ∨ pick % 3 = 0 then 0 else if pick % 3 = 1 then 384 else (pick / 3 % 385).toNat
theorem keptS_le (p : Int) : keptS p ≤ 384 := by unfold keptS; split <;> (try split) <;> omega
def pickOf (picks : List Int) (k : Nat) : Nat := if picks = [] then 0 else keptS (picks.getD (k % picks.length) 0)
theorem pickOf_le (picks : List Int) (k : Nat) : pickOf picks k ≤ 384 := by
  unfold pickOf
  split
  · omega
  · exact keptS_le _
/-- of a write the first c bytes last -/
def takeS3 (s : Sec) (b : List UInt8) (c : Nat) : Sec := ⟨b.take c ++ s.lasts.drop c, if c = 0 then s.marked else decide (c < 384)⟩
/-- the writes, in order; of the k-th F k bytes last -/
def sett (F : Nat → Nat) (way : List Wr) (secs : List Sec) : List Sec :=
  (way.foldl (fun (a : Nat × List Sec) x => (a.1 + 1, a.2.modify x.place (fun s => takeS3 s x.bytes (F a.1)))) (0, secs)).2
theorem sett_fst (F : Nat → Nat) (way : List Wr) : ∀ a : Nat × List Sec, (way.foldl (fun (a : Nat × List Sec) x => (a.1 + 1, a.2.modify x.place (fun s => takeS3 s x.bytes (F a.1)))) a).1 = a.1 + way.length := by
  induction way with
  | nil => intro a; simp
  | cons x r ih => intro a; rw [List.foldl_cons, ih]; simp only [List.length_cons]; omega
theorem sett_nil (F : Nat → Nat) (secs : List Sec) : sett F [] secs = secs := rfl
theorem sett_snoc (F : Nat → Nat) (way : List Wr) (x : Wr) (secs : List Sec) : sett F (way ++ [x]) secs = (sett F way secs).modify x.place (fun s => takeS3 s x.bytes (F way.length)) := by
  unfold sett
  rw [List.foldl_append, List.foldl_cons, List.foldl_nil]
  have := sett_fst F way (0, secs)
  simp only [Nat.zero_add] at this
  simp only [this]
theorem sett_length (F : Nat → Nat) (way : List Wr) (secs : List Sec) : (sett F way secs).length = secs.length := by
  refine snoc_ind (p := fun way => (sett F way secs).length = secs.length) rfl ?_ way
  intro l x ih
  rw [sett_snoc, List.length_modify, ih]
theorem sett_wf (F : Nat → Nat) (hF : ∀ k, F k ≤ 384) (way : List Wr) (secs : List Sec) (h : ∀ s ∈ secs, s.lasts.length = 384) (hw : ∀ x ∈ way, x.bytes.length = 384) : ∀ s ∈ sett F way secs, s.lasts.length = 384 := by
  revert hw
  refine snoc_ind (p := fun way => (∀ x ∈ way, x.bytes.length = 384) → ∀ s ∈ sett F way secs, s.lasts.length = 384) (fun _ => h) ?_ way
  intro l x ih hw s hs
  rw [sett_snoc] at hs
  have ih' := ih (fun x hx => hw x (by simp [hx]))
  obtain ⟨j, hj, hje⟩ := List.getElem_of_mem hs
  rw [List.getElem_modify] at hje
  split at hje
  · subst hje
    have h1 := hw x (by simp)
    have h2 := hF l.length
    have h3 := ih' _ (List.getElem_mem (by simpa using hj))
    simp only [takeS3, List.length_append, List.length_take, List.length_drop, h1, h3]
    omega
  · subst hje
    exact ih' _ (List.getElem_mem (by simpa using hj))
def Sp.is (S : Sp) (i : Int) : Prop := 0 ≤ i ∧ i < (S.secs.length : Int)
instance (S : Sp) (i : Int) : Decidable (S.is i) := by unfold Sp.is; infer_instance
/-- a call that counts -/
def Sp.goes (S : Sp) : Sp × Int :=
  if S.on = false then (S, 6)
  else if S.left = 1 then ({ S with on := false, left := 0, count := S.count + 1 }, 6)
  else ({ S with left := S.left - 1, count := S.count + 1 }, 0)
def Sp.write (S : Sp) (i : Int) (s : List UInt8) : Sp × Int :=
  if ¬ S.is i ∨ s.length ≠ 384 then (S, 1)
  else if S.goes.2 = 0 then ({ S.goes.1 with way := S.way ++ [⟨i.toNat, s⟩] }, 0) else S.goes
def Sp.flush (S : Sp) : Sp × Int :=
  if S.goes.2 = 0 then ({ S.goes.1 with secs := sett (fun _ => 384) S.way S.secs, way := [] }, 0) else S.goes
def Sp.fuse (S : Sp) (n : Int) : Sp × Int := if S.on = false then (S, 6) else ({ S with left := n.toNat }, 0)
def Sp.cut (S : Sp) : Sp × Int := if S.on = false then (S, 6) else ({ S with on := false, left := 0 }, 0)
def Sp.start (S : Sp) (picks : List Int) : Sp × Int :=
  if S.on = true then (S, 10) else ({ S with secs := sett (pickOf picks) S.way S.secs, way := [], on := true }, 0)
def turnS (s : Sec) (at_ : Nat) (m : Nat) : Sec := ⟨s.lasts.set at_ (s.lasts.getD at_ 0 ^^^ UInt8.ofNat m), true⟩
def Sp.rot (S : Sp) (i at_ m : Int) : Sp × Int :=
  if ¬ S.is i ∨ at_ < 0 ∨ 384 ≤ at_ ∨ m < 1 ∨ 255 < m then (S, 1)
  else if newest S.way i.toNat ≠ 0 then (S, 10)
  else if (S.secs.getD i.toNat ⟨[], false⟩).marked = true then (S, 7)
  else ({ S with secs := S.secs.modify i.toNat (fun s => turnS s at_.toNat m.toNat) }, 0)
def Sp.read (S : Sp) (i : Int) : List UInt8 × Int :=
  if ¬ S.is i then ([], 1) else if S.on = false then ([], 6)
  else (lastw S.way i.toNat (S.secs.getD i.toNat ⟨[], false⟩).lasts, 0)
def b384 (c : UInt8) : List UInt8 := List.replicate 384 c
theorem b384_len (c : UInt8) : (b384 c).length = 384 := List.length_replicate
def sec0 : Sec := ⟨b384 0, false⟩
theorem sec0_len : sec0.lasts.length = 384 := b384_len 0
def Sp.mk0 (n : Nat) : Sp := ⟨List.replicate n sec0, [], true, 0, 0⟩
/-! ### Rows of equal width, end to end -/
theorem flat_length (n : Nat) : ∀ (R : List (List Value)), (∀ r ∈ R, r.length = n) → R.flatten.length = R.length * n
  | [], _ => by simp
  | r :: R, h => by
    rw [List.flatten_cons, List.length_append, flat_length n R (fun r hr => h r (by simp [hr])), h r (by simp), List.length_cons, Nat.add_mul]
    omega
theorem flat_get (n : Nat) : ∀ (R : List (List Value)) (i j : Nat), (∀ r ∈ R, r.length = n) → j < n → R.flatten[i * n + j]? = R[i]?.bind (·[j]?)
  | [], i, j, _, _ => by simp
  | r :: R, 0, j, h, hj => by
    have := h r (by simp)
    rw [List.flatten_cons, Nat.zero_mul, Nat.zero_add, List.getElem?_append_left (by omega)]
    simp
  | r :: R, i + 1, j, h, hj => by
    have h1 := h r (by simp)
    rw [List.flatten_cons, List.getElem?_append_right (by rw [h1, Nat.add_mul]; omega), List.getElem?_cons_succ, ← flat_get n R i j (fun r hr => h r (by simp [hr])) hj, h1]
    congr 1
    rw [Nat.add_mul]
    omega
theorem flat_splice (n : Nat) : ∀ (R : List (List Value)) (i o : Nat) (cs : List Value) (hi : i < R.length), (∀ r ∈ R, r.length = n) → o + cs.length ≤ n →
    splice R.flatten (i * n + o) cs = (R.set i (splice R[i] o cs)).flatten
  | [], i, o, cs, hi, _, _ => absurd hi (by simp)
  | r :: R, 0, o, cs, _, h, hj => by
    have := h r (by simp)
    simp only [List.set_cons_zero, List.flatten_cons, List.getElem_cons_zero, Nat.zero_mul, Nat.zero_add, splice]
    rw [List.take_append_of_le_length (by omega), List.drop_append_of_le_length (by omega)]
    simp
  | r :: R, i + 1, o, cs, hi, h, hj => by
    have h1 := h r (by simp)
    have ih := flat_splice n R i o cs (by simpa using hi) (fun r hr => h r (by simp [hr])) hj
    simp only [List.set_cons_succ, List.flatten_cons, List.getElem_cons_succ]
    rw [← ih]
    have e : (i + 1) * n + o = r.length + (i * n + o) := by rw [h1, Nat.add_mul]; omega
    simp only [splice, e]
    rw [List.take_length_add_append, Nat.add_assoc, List.drop_length_add_append]
    simp
theorem flat_set (n : Nat) : ∀ (R : List (List Value)) (i j : Nat) (u : Value) (hi : i < R.length), (∀ r ∈ R, r.length = n) → j < n → R.flatten.set (i * n + j) u = (R.set i (R[i].set j u)).flatten
  | [], i, j, u, hi, _, _ => absurd hi (by simp)
  | r :: R, 0, j, u, _, h, hj => by
    have := h r (by simp)
    simp only [List.set_cons_zero, List.flatten_cons, List.getElem_cons_zero, Nat.zero_mul, Nat.zero_add]
    rw [List.set_append_left _ _ (by omega)]
  | r :: R, i + 1, j, u, hi, h, hj => by
    have h1 := h r (by simp)
    have ih := flat_set n R i j u (by simpa using hi) (fun r hr => h r (by simp [hr])) hj
    simp only [List.set_cons_succ, List.flatten_cons, List.getElem_cons_succ]
    rw [← ih, List.set_append_right _ _ (by rw [h1, Nat.add_mul]; omega), h1]
    congr 2
    rw [Nat.add_mul]
    omega
/-! ### A sector's cells, a write's cells -/
def secCells (s : Sec) (n : Nat) : List Value := bvs s.lasts ++ [.bool s.marked, .int .i64 (n : Int)]
def wrCells (x : Wr) : List Value := .int .i64 (x.place : Int) :: bvs x.bytes
/-- all sectors' cells: their newest writes by f -/
def secRows (secs : List Sec) (f : Nat → Nat) : List (List Value) := secs.mapIdx (fun i s => secCells s (f i))
def wrRows (way : List Wr) : List (List Value) := way.map wrCells
theorem secCells_len (s : Sec) (n : Nat) (h : s.lasts.length = 384) : (secCells s n).length = 386 := by simp [secCells, bvs_len, h]
theorem secRows_len (secs : List Sec) (f : Nat → Nat) (h : ∀ s ∈ secs, s.lasts.length = 384) : ∀ r ∈ secRows secs f, r.length = 386 := by
  intro r hr
  obtain ⟨i, hi, rfl⟩ := List.mem_mapIdx.1 hr
  exact secCells_len _ _ (h _ (List.getElem_mem hi))
theorem secRows_n (secs : List Sec) (f : Nat → Nat) : (secRows secs f).length = secs.length := by simp [secRows]
theorem secRows_get (secs : List Sec) (f : Nat → Nat) (i : Nat) (hi : i < secs.length) : (secRows secs f)[i]'(by simpa [secRows] using hi) = secCells secs[i] (f i) := by simp [secRows]
theorem wrRows_len (way : List Wr) (h : ∀ x ∈ way, x.bytes.length = 384) : ∀ r ∈ wrRows way, r.length = 385 := by
  intro r hr
  obtain ⟨x, hx, rfl⟩ := List.mem_map.1 hr
  simp [wrCells, bvs_len, h x hx]
/-- sector i is turned, its newest write too -/
theorem secRows_set (secs : List Sec) (f f' : Nat → Nat) (i : Nat) (s : Sec) (n : Nat) (hi : i < secs.length) (hn : n = f' i) (hf : ∀ j, j ≠ i → f' j = f j) :
    (secRows secs f).set i (secCells s n) = secRows (secs.set i s) f' := by
  apply List.ext_getElem?
  intro j
  simp only [secRows, List.getElem?_set, List.getElem?_mapIdx, List.length_mapIdx]
  by_cases h : i = j
  · subst h; simp [hi, hn]
  · simp [h, hf j (Ne.symm h)]
/-- the cells of sector i -/
theorem sec_cell (secs : List Sec) (f : Nat → Nat) (h : ∀ s ∈ secs, s.lasts.length = 384) (i j : Nat) (hi : i < secs.length) (hj : j < 386) : (secRows secs f).flatten[i * 386 + j]? = (secCells secs[i] (f i))[j]? := by
  rw [flat_get 386 _ i j (secRows_len secs f h) hj, List.getElem?_eq_getElem (by simpa [secRows] using hi), secRows_get secs f i hi]
  rfl
theorem sec_marked (secs : List Sec) (f : Nat → Nat) (h : ∀ s ∈ secs, s.lasts.length = 384) (i : Nat) (hi : i < secs.length) : (secRows secs f).flatten[i * 386 + 384]? = some (.bool secs[i].marked) := by
  rw [sec_cell secs f h i 384 hi (by omega), secCells, List.getElem?_append_right (by rw [bvs_len, h _ (List.getElem_mem hi)]; omega), bvs_len, h _ (List.getElem_mem hi)]
  rfl
theorem sec_newest (secs : List Sec) (f : Nat → Nat) (h : ∀ s ∈ secs, s.lasts.length = 384) (i : Nat) (hi : i < secs.length) : (secRows secs f).flatten[i * 386 + 385]? = some (.int .i64 (f i : Int)) := by
  rw [sec_cell secs f h i 385 hi (by omega), secCells, List.getElem?_append_right (by rw [bvs_len, h _ (List.getElem_mem hi)]; omega), bvs_len, h _ (List.getElem_mem hi)]
  rfl
theorem sec_byte (secs : List Sec) (f : Nat → Nat) (h : ∀ s ∈ secs, s.lasts.length = 384) (i j : Nat) (hi : i < secs.length) (hj : j < 384) : (secRows secs f).flatten[i * 386 + j]? = (bvs secs[i].lasts)[j]? := by
  rw [sec_cell secs f h i j hi (by omega), secCells, List.getElem?_append_left (by rw [bvs_len, h _ (List.getElem_mem hi)]; omega)]
theorem wr_cell (way : List Wr) (h : ∀ x ∈ way, x.bytes.length = 384) (k j : Nat) (hk : k < way.length) (hj : j < 385) : (wrRows way).flatten[k * 385 + j]? = (wrCells way[k])[j]? := by
  rw [flat_get 385 _ k j (wrRows_len way h) hj, List.getElem?_eq_getElem (by simpa [wrRows] using hk)]
  simp [wrRows]
theorem cells_one_wr (x : Wr) : ∀ u ∈ wrCells x, u.oneCell' = true := by
  intro u hu
  simp only [wrCells, List.mem_cons] at hu
  rcases hu with rfl | hu
  · rfl
  · exact bvs_one _ u hu
end Go.Proofs.YtafbeepacncooaaDoor
