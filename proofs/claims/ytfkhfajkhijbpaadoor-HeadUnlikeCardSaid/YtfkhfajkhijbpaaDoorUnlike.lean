/-
  The walk of HeadUnlike.
-/
import Derived.Test.YtfkhfajkhijbpaaDoorAwaker
import Derived.BigFrame
namespace Go.Proofs.YtfkhfajkhijbpaaDoor
open Go.RowKit
set_option maxRecDepth 10000

theorem eqGuardHead : Tryd.prog.eqGuardType Tryd.prog.depth 24 = false := by kernel_rfl

/-- a load under a guard that says yes -/
theorem wpl_load_want {P : Program} {ops : Array Oper} {rest : List Oper} {o : Oper} {a : Act} {w : World} {Q : Exit → Act → World → Prop} (hw : Region.wanted o (yielded ops a.tmps) = true) (ty : TypeId) (x : Operand) (ho : o.op = .load ty x)
    (g : Nat) (hx : a.eval x = .pointer (some ⟨g, 0, none⟩)) (t : TypeId) (cs : Array Value) (fr : Nat × Nat) (d : TypeDesc) (hg : w.heap[g]? = some (.cells cs t fr))
    (hu : P.underlying ty = some d) (hd : (match d with | .struct _ | .array _ _ => true | _ => false) = true) (hi : (P.info? ty).map (·.size) = some cs.size)
    (h : wpList P ops Q rest (a.put o.dst (.agg cs)) w) : wpList P ops Q (o :: rest) a w :=
  BigFrame.wpList_want hw fun _ hK => wp_load_row ty x ho g hx t cs fr d hg hu hd hi (hK _ _ h)

/-- what Pack answers, a text and a number -/
theorem pack_of (h : Hd) (body : ByteArray) : ∃ (T : ByteArray) (e : Int), packS h (sb body) = (sb T, e) ∧ (∀ W : World, Fd W → Calls Tryd.prog 8 #[.agg h.cells, .string body] W fun x W' => x = .returned (.tuple #[.string T, .int .i64 e]) ∧ Below W.heap.size W W') := by
  refine ⟨⟨(packS h (sb body)).1.toArray⟩, (packS h (sb body)).2, (congrArg (fun z => (z, (packS h (sb body)).2)) (sb_mk _).symm), fun W hW => ?_⟩
  exact pack_any h body W hW

set_option maxHeartbeats 1000000 in
theorem unlike_same (C D : Array Value) (a b T1 T2 : ByteArray) (e f : Int) (w : World) (hf : Fd w) (bh bs : Bool)
    (hC : (Tryd.prog.info? 24).map (·.size) = some C.size) (hD : (Tryd.prog.info? 24).map (·.size) = some D.size)
    (HP : Hid (∀ W : World, Fd W → Calls Tryd.prog 8 #[.agg C, .string a] W fun x W' => x = .returned (.tuple #[.string T1, .int .i64 e]) ∧ Below W.heap.size W W'))
    (HQ : Hid (∀ W : World, Fd W → Calls Tryd.prog 8 #[.agg D, .string b] W fun x W' => x = .returned (.tuple #[.string T2, .int .i64 f]) ∧ Below W.heap.size W W'))
    (hE : ∀ W, (Op.equalIn 10000 24 (.agg C) (.agg D)).run Tryd.prog W = .ok bh W)
    (ha : decide (5000 < (a.size : Int)) = false) (hb : decide (5000 < (b.size : Int)) = false)
    (he : (e != 0) = false) (hff : (f != 0) = false) (ht : (T1.toList == T2.toList) = (bh && bs)) (hs : (a.toList == b.toList) = bs) :
    Calls Tryd.prog 5 #[.agg C, .agg D, .string a, .string b] w (Yes w) := by
  have hEG := eqGuardHead
  have HA := hid awake_any
  have HLa := hid (fun W => long_any a W)
  have HLb := hid (fun W => long_any b W)
  rw [ha] at HLa
  rw [hb] at HLb
  have HF := hid hf
  have HCz := hid hC
  have HDz := hid hD
  have HB := hid (((Below.refl w.heap.size w).alloc (Nat.le_refl _) (.cells C 24)).alloc (by simp) (.cells D 24))
  have HRC : Hid (Row ((w.alloc (.cells C 24)).alloc (.cells D 24)) w.heap.size 24 C.toList) := hid ((Row.new _ _ _).alloc _)
  have HRD : Hid (Row ((w.alloc (.cells C 24)).alloc (.cells D 24)) (w.heap.size + 1) 24 D.toList) := hid (by
    have := Row.new (w.alloc (.cells C 24)) 24 D
    simpa using this)
  clear hf hC hD ha hb
  generalize hbt : (bh && bs) = bt at ht
  cases bh <;> cases bs <;> cases hbt
  all_goals
    go_enter Tryd.func5, Tryd.ntmps5
    go_wp2_with (first
      | (go_at_call 6; refine (HA.out _ (HF.out.below HB.out HF.out.1)).mono ?_; rintro x w1 ⟨rfl, hb1⟩; have hbb := HB.out.trans (hb1.mono HB.out.size); have hrC := HRC.out.below hb1 HRC.out.lt; have hrD := HRD.out.below hb1 HRD.out.lt)
      | (go_at_call 7; refine (HLa.out _).mono ?_; rintro x w' ⟨rfl, rfl⟩)
      | (go_at_call 7; refine (HLb.out _).mono ?_; rintro x w' ⟨rfl, rfl⟩)
      | (refine wpList_load_row rfl 24 (.tmp 4) rfl w.heap.size rfl 24 C (0, 0) _ hrC.arr Tryd.underlying24 rfl HCz.out ?_)
      | (refine wpList_load_row rfl 24 (.tmp 5) rfl (w.heap.size + 1) rfl 24 D (0, 0) _ hrD.arr Tryd.underlying24 rfl HDz.out ?_)
      | (refine wpl_load_want rfl 24 (.tmp 4) rfl w.heap.size rfl 24 C (0, 0) _ hrC.arr Tryd.underlying24 rfl HCz.out ?_)
      | (refine wpl_load_want rfl 24 (.tmp 5) rfl (w.heap.size + 1) rfl 24 D (0, 0) _ hrD.arr Tryd.underlying24 rfl HDz.out ?_)
      | (go_at_call 8; refine (HP.out _ (HF.out.below hbb HF.out.1)).mono ?_; rintro x w2 ⟨rfl, hb2⟩; replace hbb := hbb.trans (hb2.mono hbb.size); replace hrC := hrC.below hb2 hrC.lt; replace hrD := hrD.below hb2 hrD.lt; clear HP)
      | (go_at_call 8; refine (HQ.out _ (HF.out.below hbb HF.out.1)).mono ?_; rintro x w3 ⟨rfl, hb3⟩; replace hbb := hbb.trans (hb3.mono hbb.size); replace hrC := hrC.below hb3 hrC.lt; replace hrD := hrD.below hb3 hrD.lt))
    go_ret
    exact ⟨rfl, hbb⟩

set_option maxHeartbeats 1000000 in
theorem unlike_la (C D : Array Value) (a b : ByteArray) (w : World) (hf : Fd w) (la : Bool)
    (ha : decide (5000 < (a.size : Int)) = la)
    (h1 : la = true) :
    Calls Tryd.prog 5 #[.agg C, .agg D, .string a, .string b] w (Yes w) := by
  subst h1
  have HA := hid awake_any
  have HLa := hid (fun W => long_any a W)
  rw [ha] at HLa
  have HF := hid hf
  have HB := hid (((Below.refl w.heap.size w).alloc (Nat.le_refl _) (.cells C 24)).alloc (by simp) (.cells D 24))
  have HRC : Hid (Row ((w.alloc (.cells C 24)).alloc (.cells D 24)) w.heap.size 24 C.toList) := hid ((Row.new _ _ _).alloc _)
  have HRD : Hid (Row ((w.alloc (.cells C 24)).alloc (.cells D 24)) (w.heap.size + 1) 24 D.toList) := hid (by
    have := Row.new (w.alloc (.cells C 24)) 24 D
    simpa using this)
  clear hf ha
  go_enter Tryd.func5, Tryd.ntmps5
  go_wp2_with (first
    | (go_at_call 6; refine (HA.out _ (HF.out.below HB.out HF.out.1)).mono ?_; rintro x w1 ⟨rfl, hb1⟩; have hbb := HB.out.trans (hb1.mono HB.out.size); have hrC := HRC.out.below hb1 HRC.out.lt; have hrD := HRD.out.below hb1 HRD.out.lt)
    | (go_at_call 7; refine (HLa.out _).mono ?_; rintro x w' ⟨rfl, rfl⟩))
  go_ret
  exact ⟨rfl, hbb⟩

set_option maxHeartbeats 1000000 in
theorem unlike_lb (C D : Array Value) (a b : ByteArray) (w : World) (hf : Fd w) (la lb : Bool)
    (ha : decide (5000 < (a.size : Int)) = la) (hb : decide (5000 < (b.size : Int)) = lb)
    (h1 : la = false) (h2 : lb = true) :
    Calls Tryd.prog 5 #[.agg C, .agg D, .string a, .string b] w (Yes w) := by
  subst h1 h2
  have HA := hid awake_any
  have HLa := hid (fun W => long_any a W)
  have HLb := hid (fun W => long_any b W)
  rw [ha] at HLa
  rw [hb] at HLb
  have HF := hid hf
  have HB := hid (((Below.refl w.heap.size w).alloc (Nat.le_refl _) (.cells C 24)).alloc (by simp) (.cells D 24))
  have HRC : Hid (Row ((w.alloc (.cells C 24)).alloc (.cells D 24)) w.heap.size 24 C.toList) := hid ((Row.new _ _ _).alloc _)
  have HRD : Hid (Row ((w.alloc (.cells C 24)).alloc (.cells D 24)) (w.heap.size + 1) 24 D.toList) := hid (by
    have := Row.new (w.alloc (.cells C 24)) 24 D
    simpa using this)
  clear hf ha hb
  go_enter Tryd.func5, Tryd.ntmps5
  go_wp2_with (first
    | (go_at_call 6; refine (HA.out _ (HF.out.below HB.out HF.out.1)).mono ?_; rintro x w1 ⟨rfl, hb1⟩; have hbb := HB.out.trans (hb1.mono HB.out.size); have hrC := HRC.out.below hb1 HRC.out.lt; have hrD := HRD.out.below hb1 HRD.out.lt)
    | (go_at_call 7; refine (HLa.out _).mono ?_; rintro x w' ⟨rfl, rfl⟩)
    | (go_at_call 7; refine (HLb.out _).mono ?_; rintro x w' ⟨rfl, rfl⟩))
  go_ret
  exact ⟨rfl, hbb⟩

set_option maxHeartbeats 1000000 in
theorem unlike_e (C D : Array Value) (a b T1 T2 : ByteArray) (e f : Int) (w : World) (hf : Fd w) (la lb : Bool)
    (hC : (Tryd.prog.info? 24).map (·.size) = some C.size) (hD : (Tryd.prog.info? 24).map (·.size) = some D.size)
    (HP : Hid (∀ W : World, Fd W → Calls Tryd.prog 8 #[.agg C, .string a] W fun x W' => x = .returned (.tuple #[.string T1, .int .i64 e]) ∧ Below W.heap.size W W'))
    (HQ : Hid (∀ W : World, Fd W → Calls Tryd.prog 8 #[.agg D, .string b] W fun x W' => x = .returned (.tuple #[.string T2, .int .i64 f]) ∧ Below W.heap.size W W'))
    (ha : decide (5000 < (a.size : Int)) = la) (hb : decide (5000 < (b.size : Int)) = lb)
    (h1 : la = false) (h2 : lb = false) (he : (e != 0) = true) :
    Calls Tryd.prog 5 #[.agg C, .agg D, .string a, .string b] w (Yes w) := by
  subst h1 h2
  have HA := hid awake_any
  have HLa := hid (fun W => long_any a W)
  have HLb := hid (fun W => long_any b W)
  rw [ha] at HLa
  rw [hb] at HLb
  have HF := hid hf
  have HCz := hid hC
  have HDz := hid hD
  have HB := hid (((Below.refl w.heap.size w).alloc (Nat.le_refl _) (.cells C 24)).alloc (by simp) (.cells D 24))
  have HRC : Hid (Row ((w.alloc (.cells C 24)).alloc (.cells D 24)) w.heap.size 24 C.toList) := hid ((Row.new _ _ _).alloc _)
  have HRD : Hid (Row ((w.alloc (.cells C 24)).alloc (.cells D 24)) (w.heap.size + 1) 24 D.toList) := hid (by
    have := Row.new (w.alloc (.cells C 24)) 24 D
    simpa using this)
  clear hf hC hD ha hb
  go_enter Tryd.func5, Tryd.ntmps5
  go_wp2_with (first
    | (go_at_call 6; refine (HA.out _ (HF.out.below HB.out HF.out.1)).mono ?_; rintro x w1 ⟨rfl, hb1⟩; have hbb := HB.out.trans (hb1.mono HB.out.size); have hrC := HRC.out.below hb1 HRC.out.lt; have hrD := HRD.out.below hb1 HRD.out.lt)
    | (go_at_call 7; refine (HLa.out _).mono ?_; rintro x w' ⟨rfl, rfl⟩)
    | (go_at_call 7; refine (HLb.out _).mono ?_; rintro x w' ⟨rfl, rfl⟩)
    | (refine wpList_load_row rfl 24 (.tmp 4) rfl w.heap.size rfl 24 C (0, 0) _ hrC.arr Tryd.underlying24 rfl HCz.out ?_)
    | (refine wpList_load_row rfl 24 (.tmp 5) rfl (w.heap.size + 1) rfl 24 D (0, 0) _ hrD.arr Tryd.underlying24 rfl HDz.out ?_)
    | (refine wpl_load_want rfl 24 (.tmp 4) rfl w.heap.size rfl 24 C (0, 0) _ hrC.arr Tryd.underlying24 rfl HCz.out ?_)
    | (refine wpl_load_want rfl 24 (.tmp 5) rfl (w.heap.size + 1) rfl 24 D (0, 0) _ hrD.arr Tryd.underlying24 rfl HDz.out ?_)
    | (go_at_call 8; refine (HP.out _ (HF.out.below hbb HF.out.1)).mono ?_; rintro x w2 ⟨rfl, hb2⟩; replace hbb := hbb.trans (hb2.mono hbb.size); replace hrC := hrC.below hb2 hrC.lt; replace hrD := hrD.below hb2 hrD.lt; clear HP)
    | (go_at_call 8; refine (HQ.out _ (HF.out.below hbb HF.out.1)).mono ?_; rintro x w3 ⟨rfl, hb3⟩; replace hbb := hbb.trans (hb3.mono hbb.size); replace hrC := hrC.below hb3 hrC.lt; replace hrD := hrD.below hb3 hrD.lt))
  go_ret
  exact ⟨rfl, hbb⟩

set_option maxHeartbeats 1000000 in
theorem unlike_f (C D : Array Value) (a b T1 T2 : ByteArray) (e f : Int) (w : World) (hf : Fd w) (la lb : Bool)
    (hC : (Tryd.prog.info? 24).map (·.size) = some C.size) (hD : (Tryd.prog.info? 24).map (·.size) = some D.size)
    (HP : Hid (∀ W : World, Fd W → Calls Tryd.prog 8 #[.agg C, .string a] W fun x W' => x = .returned (.tuple #[.string T1, .int .i64 e]) ∧ Below W.heap.size W W'))
    (HQ : Hid (∀ W : World, Fd W → Calls Tryd.prog 8 #[.agg D, .string b] W fun x W' => x = .returned (.tuple #[.string T2, .int .i64 f]) ∧ Below W.heap.size W W'))
    (ha : decide (5000 < (a.size : Int)) = la) (hb : decide (5000 < (b.size : Int)) = lb)
    (h1 : la = false) (h2 : lb = false) (he : (e != 0) = false) (hff : (f != 0) = true) :
    Calls Tryd.prog 5 #[.agg C, .agg D, .string a, .string b] w (Yes w) := by
  subst h1 h2
  have HA := hid awake_any
  have HLa := hid (fun W => long_any a W)
  have HLb := hid (fun W => long_any b W)
  rw [ha] at HLa
  rw [hb] at HLb
  have HF := hid hf
  have HCz := hid hC
  have HDz := hid hD
  have HB := hid (((Below.refl w.heap.size w).alloc (Nat.le_refl _) (.cells C 24)).alloc (by simp) (.cells D 24))
  have HRC : Hid (Row ((w.alloc (.cells C 24)).alloc (.cells D 24)) w.heap.size 24 C.toList) := hid ((Row.new _ _ _).alloc _)
  have HRD : Hid (Row ((w.alloc (.cells C 24)).alloc (.cells D 24)) (w.heap.size + 1) 24 D.toList) := hid (by
    have := Row.new (w.alloc (.cells C 24)) 24 D
    simpa using this)
  clear hf hC hD ha hb
  go_enter Tryd.func5, Tryd.ntmps5
  go_wp2_with (first
    | (go_at_call 6; refine (HA.out _ (HF.out.below HB.out HF.out.1)).mono ?_; rintro x w1 ⟨rfl, hb1⟩; have hbb := HB.out.trans (hb1.mono HB.out.size); have hrC := HRC.out.below hb1 HRC.out.lt; have hrD := HRD.out.below hb1 HRD.out.lt)
    | (go_at_call 7; refine (HLa.out _).mono ?_; rintro x w' ⟨rfl, rfl⟩)
    | (go_at_call 7; refine (HLb.out _).mono ?_; rintro x w' ⟨rfl, rfl⟩)
    | (refine wpList_load_row rfl 24 (.tmp 4) rfl w.heap.size rfl 24 C (0, 0) _ hrC.arr Tryd.underlying24 rfl HCz.out ?_)
    | (refine wpList_load_row rfl 24 (.tmp 5) rfl (w.heap.size + 1) rfl 24 D (0, 0) _ hrD.arr Tryd.underlying24 rfl HDz.out ?_)
    | (refine wpl_load_want rfl 24 (.tmp 4) rfl w.heap.size rfl 24 C (0, 0) _ hrC.arr Tryd.underlying24 rfl HCz.out ?_)
    | (refine wpl_load_want rfl 24 (.tmp 5) rfl (w.heap.size + 1) rfl 24 D (0, 0) _ hrD.arr Tryd.underlying24 rfl HDz.out ?_)
    | (go_at_call 8; refine (HP.out _ (HF.out.below hbb HF.out.1)).mono ?_; rintro x w2 ⟨rfl, hb2⟩; replace hbb := hbb.trans (hb2.mono hbb.size); replace hrC := hrC.below hb2 hrC.lt; replace hrD := hrD.below hb2 hrD.lt; clear HP)
    | (go_at_call 8; refine (HQ.out _ (HF.out.below hbb HF.out.1)).mono ?_; rintro x w3 ⟨rfl, hb3⟩; replace hbb := hbb.trans (hb3.mono hbb.size); replace hrC := hrC.below hb3 hrC.lt; replace hrD := hrD.below hb3 hrD.lt))
  go_ret
  exact ⟨rfl, hbb⟩

theorem unlike_any (h g : Hd) (hh : h.fits) (hg : g.fits) (a b : ByteArray) (w : World) (hf : Fd w) : Calls Tryd.prog 5 #[h.val, g.val, .string a, .string b] w (Yes w) := by
  obtain ⟨T1, e, e1, P1⟩ := pack_of h a
  obtain ⟨T2, f, e2, P2⟩ := pack_of g b
  have HP := hid P1
  have HQ := hid P2
  have hC := hcells_size h
  have hD := hcells_size g
  show Calls Tryd.prog 5 #[.agg h.cells, .agg g.cells, .string a, .string b] w (Yes w)
  cases la : decide (5000 < (a.size : Int)) with
  | true => exact unlike_la h.cells g.cells a b w hf true la rfl
  | false =>
    cases lb : decide (5000 < (b.size : Int)) with
    | true => exact unlike_lb h.cells g.cells a b w hf false true la lb rfl rfl
    | false =>
      by_cases he : e = 0
      · by_cases hff : f = 0
        · subst he hff
          have hE := fun W => eql_head h g W
          have key : T1 = T2 ↔ h = g ∧ a = b := by
            constructor
            · rintro rfl
              have := pack_inj hh hg e1 e2
              exact ⟨this.1, by rw [← mk_sb a, this.2, mk_sb]⟩
            · rintro ⟨rfl, rfl⟩
              rw [e1] at e2
              have := (Prod.mk.inj e2).1
              rw [← mk_sb T1, this, mk_sb]
          have tl : ∀ x y : ByteArray, (x.toList == y.toList) = decide (x = y) := fun x y => by
            by_cases h : x = y
            · subst h; simp
            · rw [str_ne h]; simp [h]
          refine unlike_same h.cells g.cells a b T1 T2 0 0 w hf (decide (h = g)) (decide (a = b)) hC hD HP HQ hE la lb rfl rfl ?_ (tl a b)
          rw [tl, decide_eq_decide.2 key, Bool.decide_and]
        · exact unlike_f h.cells g.cells a b T1 T2 e f w hf false false hC hD HP HQ la lb rfl rfl (by simpa using he) (by simpa using hff)
      · exact unlike_e h.cells g.cells a b T1 T2 e f w hf false false hC hD HP HQ la lb rfl rfl (by simpa using he)
end Go.Proofs.YtfkhfajkhijbpaaDoor
