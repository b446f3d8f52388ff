/-
  The program's msgOf, Decode.
-/
import Derived.Test.YtcildaeiogdfdaaGreatDoorZ32
import Derived.Test.YtcildaeiogdfdaaGreatDoorZ31
import Derived.Deep.CutRange
namespace Go.Proofs.YtcildaeiogdfdaaGreatDoor
open Go.RowKit
set_option maxRecDepth 10000

def h0P (h : Hd) : Ms := ⟨h.kind, h.frm, h.view, h.a, h.opn, h.commit, h.client, h.session, h.request, h.oper, 0, 0, mk0, z6, en0, [], [], ⟨#[]⟩⟩
theorem h0_cellsP (h : Hd) : ((((((((((z33.setIfInBounds 0 (.int .i64 h.kind)).setIfInBounds 1 (.int .i64 h.frm)).setIfInBounds 9 (.int .i64 h.oper)).setIfInBounds 2 (.int .i64 h.view)).setIfInBounds 4 (.int .i64 h.opn)).setIfInBounds 5 (.int .i64 h.commit)).setIfInBounds 6 (.int .i64 h.client)).setIfInBounds 7 (.int .i64 h.session)).setIfInBounds 8 (.int .i64 h.request)).setIfInBounds 3 (.int .i64 h.a)) = (h0P h).cells p0P := by kernel_rfl
theorem msOneP (m : Ms) (p : Pl) : (m.cells p).all (·.oneCell') = true := by simp [Ms.cells, Value.oneCell']
set_option maxHeartbeats 4000000 in
theorem msgOf_any (h : Hd) (w : World) : Calls Tryz.prog 11 #[.agg h.cells] w (VE w (.agg ((headP h).cells p0P))) := by
  have HZS := hid mssize
  have hz := zero33
  have hzs := z33_size
  have hzn := z33_ne
  have R1 : Hid (Row ((w.alloc (.cells h.cells 42)).alloc (.cells z33 32)) w.heap.size 42 h.cells.toList) := hid ((Row.new w 42 h.cells).alloc _)
  have R2 : Hid (Row ((w.alloc (.cells h.cells 42)).alloc (.cells z33 32)) (w.heap.size + 1) 32 z33.toList) := hid (by
    have := Row.new (w.alloc (.cells h.cells 42)) 32 z33
    simpa using this)
  have HB0 : Hid (Below w.heap.size w ((w.alloc (.cells h.cells 42)).alloc (.cells z33 32))) := hid (((Below.refl _ _).alloc (Nat.le_refl _) _).alloc (by simp) _)
  have a0 : ((w.alloc (.cells h.cells 42)).alloc (.cells z33 32)).cell? ⟨w.heap.size, 0, none⟩ = some (.int .i64 h.kind) := R1.out.cell 0
  have a1 : ((w.alloc (.cells h.cells 42)).alloc (.cells z33 32)).cell? ⟨w.heap.size, 1, none⟩ = some (.int .i64 h.frm) := R1.out.cell 1
  have a2 : ((w.alloc (.cells h.cells 42)).alloc (.cells z33 32)).cell? ⟨w.heap.size, 2, none⟩ = some (.int .i64 h.oper) := R1.out.cell 2
  have a3 : ((w.alloc (.cells h.cells 42)).alloc (.cells z33 32)).cell? ⟨w.heap.size, 3, none⟩ = some (.int .i64 h.view) := R1.out.cell 3
  have a4 : ((w.alloc (.cells h.cells 42)).alloc (.cells z33 32)).cell? ⟨w.heap.size, 4, none⟩ = some (.int .i64 h.opn) := R1.out.cell 4
  have a5 : ((w.alloc (.cells h.cells 42)).alloc (.cells z33 32)).cell? ⟨w.heap.size, 5, none⟩ = some (.int .i64 h.commit) := R1.out.cell 5
  have a6 : ((w.alloc (.cells h.cells 42)).alloc (.cells z33 32)).cell? ⟨w.heap.size, 6, none⟩ = some (.int .i64 h.client) := R1.out.cell 6
  have a7 : ((w.alloc (.cells h.cells 42)).alloc (.cells z33 32)).cell? ⟨w.heap.size, 7, none⟩ = some (.int .i64 h.session) := R1.out.cell 7
  have a8 : ((w.alloc (.cells h.cells 42)).alloc (.cells z33 32)).cell? ⟨w.heap.size, 8, none⟩ = some (.int .i64 h.request) := R1.out.cell 8
  have a9 : ((w.alloc (.cells h.cells 42)).alloc (.cells z33 32)).cell? ⟨w.heap.size, 9, none⟩ = some (.int .i64 h.a) := R1.out.cell 9
  have a10 : ((w.alloc (.cells h.cells 42)).alloc (.cells z33 32)).cell? ⟨w.heap.size, 10, none⟩ = some (.int .i64 h.b) := R1.out.cell 10
  by_cases h13 : h.kind = 13
  · have e1 : (h.kind == 13) = true := by simp [h13]
    have HQ : Hid (headP h = { h0P h with size := h.b }) := hid (by unfold headP h0P; rw [if_pos h13, if_pos h13])
    have HCL : Hid (((h0P h).cells p0P).toList.set 11 (.int .i64 h.b) = (({ h0P h with size := h.b } : Ms).cells p0P).toList) := hid rfl
    clear h13
    go_enter Tryz.func11, Tryz.ntmps11
    go_wp2_with (first
      | ((with_reducible show wpList _ _ _ ({ dst := none, op := .store _ (.tmp 3) _, type := _, pos := _, after := _, guard := _ } :: _) _ _); refine wpl_store_st rfl (.tmp 3) (.tmp 24) rfl HZS.out (w.heap.size + 1 + 1) z33 ((((((((((z33.setIfInBounds 0 (.int .i64 h.kind)).setIfInBounds 1 (.int .i64 h.frm)).setIfInBounds 9 (.int .i64 h.oper)).setIfInBounds 2 (.int .i64 h.view)).setIfInBounds 4 (.int .i64 h.opn)).setIfInBounds 5 (.int .i64 h.commit)).setIfInBounds 6 (.int .i64 h.client)).setIfInBounds 7 (.int .i64 h.session)).setIfInBounds 8 (.int .i64 h.request)).setIfInBounds 3 (.int .i64 h.a)) rfl rfl (by have := Row.new ((w.alloc (.cells h.cells 42)).alloc (.cells z33 32)) 32 z33; simpa using this) ?_ (hid rfl) (hid (by simp [z33])) (hid (by rw [h0_cellsP]; exact msOneP _ _)); intro w3 hr3 hg3; have R3 : Hid (Row w3 (w.heap.size + 1 + 1) 32 ((h0P h).cells p0P).toList) := hid (by rw [← h0_cellsP]; exact hr3); have R13 := hid ((R1.out.alloc (.cells z33 32)).grown hg3 (by intro e; have := Option.some.inj e; omega)); have R23 := hid ((R2.out.alloc (.cells z33 32)).grown hg3 (by intro e; have := Option.some.inj e; omega)); have HB3 := hid ((HB0.out.alloc (by simp; omega) (.cells z33 32)).trans (below_grown hg3 (by omega) (by simp; omega))); have b0 : w3.cell? ⟨w.heap.size, 0, none⟩ = some (.int .i64 h.kind) := R13.out.cell 0; have b10 : w3.cell? ⟨w.heap.size, 10, none⟩ = some (.int .i64 h.b) := R13.out.cell 10; clear hr3 hg3)
      | ((with_reducible show wpList _ _ _ ({ dst := none, op := .store _ (.tmp 30) _, type := _, pos := _, after := _, guard := _ } :: _) _ _); refine wpl_st1 rfl 3 (.tmp 30) (.tmp 29) rfl (w.heap.size + 1 + 1) 11 (.int .i64 h.b) rfl rfl R3 sizeInt ?_ (hid (by simp [Ms.cells])) (hid rfl); intro w4 R4' hg4; have R4 : Hid (Row w4 (w.heap.size + 1 + 1) 32 ((headP h).cells p0P).toList) := hid (by rw [HQ.out, ← HCL.out]; exact R4'.out); have R24 := hid (R23.out.grown hg4 (by intro e; have := Option.some.inj e; omega)); have HB4 := hid (HB3.out.trans (below_grown hg4 (by omega) HB3.out.size)); clear R4' hg4)
      | ((with_reducible show wpList _ _ _ ({ dst := some 34, op := _, type := _, pos := _, after := _, guard := _ } :: _) _ _); refine wpList_load_row rfl 32 (.tmp 3) rfl (w.heap.size + 1 + 1) rfl 32 ((headP h).cells p0P) (0, 0) _ (Row.arr R4.out) Tryz.underlying32 rfl HZS.out ?_)
      | ((with_reducible show wpList _ _ _ ({ dst := none, op := .store _ (.tmp 2) _, type := _, pos := _, after := _, guard := _ } :: _) _ _); refine wpl_store_st rfl (.tmp 2) (.tmp 34) rfl HZS.out (w.heap.size + 1) z33 ((headP h).cells p0P) rfl rfl R24.out ?_ (hid rfl) (hid rfl) (hid (msOneP _ _)); intro w5 hr5 hg5))
    refine bodyPost_ret (v := .agg ((headP h).cells p0P)) (results_cell_row rfl _ _ (w.heap.size + 1) 32 _ (0, 0) _ rfl (Row.arr hr5) Tryz.underlying32 rfl HZS.out) rfl ⟨rfl, HB4.out.trans (below_grown hg5 (by omega) HB4.out.size)⟩
  · have e1 : (h.kind == 13) = false := by simp [h13]
    have HQ : Hid (headP h = { h0P h with index := h.b }) := hid (by unfold headP h0P; rw [if_neg h13, if_neg h13])
    have HCL : Hid (((h0P h).cells p0P).toList.set 10 (.int .i64 h.b) = (({ h0P h with index := h.b } : Ms).cells p0P).toList) := hid rfl
    clear h13
    go_enter Tryz.func11, Tryz.ntmps11
    go_wp2_with (first
      | ((with_reducible show wpList _ _ _ ({ dst := none, op := .store _ (.tmp 3) _, type := _, pos := _, after := _, guard := _ } :: _) _ _); refine wpl_store_st rfl (.tmp 3) (.tmp 24) rfl HZS.out (w.heap.size + 1 + 1) z33 ((((((((((z33.setIfInBounds 0 (.int .i64 h.kind)).setIfInBounds 1 (.int .i64 h.frm)).setIfInBounds 9 (.int .i64 h.oper)).setIfInBounds 2 (.int .i64 h.view)).setIfInBounds 4 (.int .i64 h.opn)).setIfInBounds 5 (.int .i64 h.commit)).setIfInBounds 6 (.int .i64 h.client)).setIfInBounds 7 (.int .i64 h.session)).setIfInBounds 8 (.int .i64 h.request)).setIfInBounds 3 (.int .i64 h.a)) rfl rfl (by have := Row.new ((w.alloc (.cells h.cells 42)).alloc (.cells z33 32)) 32 z33; simpa using this) ?_ (hid rfl) (hid (by simp [z33])) (hid (by rw [h0_cellsP]; exact msOneP _ _)); intro w3 hr3 hg3; have R3 : Hid (Row w3 (w.heap.size + 1 + 1) 32 ((h0P h).cells p0P).toList) := hid (by rw [← h0_cellsP]; exact hr3); have R13 := hid ((R1.out.alloc (.cells z33 32)).grown hg3 (by intro e; have := Option.some.inj e; omega)); have R23 := hid ((R2.out.alloc (.cells z33 32)).grown hg3 (by intro e; have := Option.some.inj e; omega)); have HB3 := hid ((HB0.out.alloc (by simp; omega) (.cells z33 32)).trans (below_grown hg3 (by omega) (by simp; omega))); have b0 : w3.cell? ⟨w.heap.size, 0, none⟩ = some (.int .i64 h.kind) := R13.out.cell 0; have b10 : w3.cell? ⟨w.heap.size, 10, none⟩ = some (.int .i64 h.b) := R13.out.cell 10; clear hr3 hg3)
      | ((with_reducible show wpList _ _ _ ({ dst := none, op := .store _ (.tmp 33) _, type := _, pos := _, after := _, guard := _ } :: _) _ _); refine wpl_st1 rfl 3 (.tmp 33) (.tmp 32) rfl (w.heap.size + 1 + 1) 10 (.int .i64 h.b) rfl rfl R3 sizeInt ?_ (hid (by simp [Ms.cells])) (hid rfl); intro w4 R4' hg4; have R4 : Hid (Row w4 (w.heap.size + 1 + 1) 32 ((headP h).cells p0P).toList) := hid (by rw [HQ.out, ← HCL.out]; exact R4'.out); have R24 := hid (R23.out.grown hg4 (by intro e; have := Option.some.inj e; omega)); have HB4 := hid (HB3.out.trans (below_grown hg4 (by omega) HB3.out.size)); clear R4' hg4)
      | ((with_reducible show wpList _ _ _ ({ dst := some 34, op := _, type := _, pos := _, after := _, guard := _ } :: _) _ _); refine wpList_load_row rfl 32 (.tmp 3) rfl (w.heap.size + 1 + 1) rfl 32 ((headP h).cells p0P) (0, 0) _ (Row.arr R4.out) Tryz.underlying32 rfl HZS.out ?_)
      | ((with_reducible show wpList _ _ _ ({ dst := none, op := .store _ (.tmp 2) _, type := _, pos := _, after := _, guard := _ } :: _) _ _); refine wpl_store_st rfl (.tmp 2) (.tmp 34) rfl HZS.out (w.heap.size + 1) z33 ((headP h).cells p0P) rfl rfl R24.out ?_ (hid rfl) (hid rfl) (hid (msOneP _ _)); intro w5 hr5 hg5))
    refine bodyPost_ret (v := .agg ((headP h).cells p0P)) (results_cell_row rfl _ _ (w.heap.size + 1) 32 _ (0, 0) _ rfl (Row.arr hr5) Tryz.underlying32 rfl HZS.out) rfl ⟨rfl, HB4.out.trans (below_grown hg5 (by omega) HB4.out.size)⟩
/-- a message, and its lists -/
def DMp (w : World) (r : Ms × Int) (e : Ending) (w' : World) : Prop :=
  ∃ p, e = .returned (.tuple #[.agg (r.1.cells p), .int .i64 r.2]) ∧ PlOk w' w'.heap.size r.1 p ∧ Below w.heap.size w w'
theorem Mrow.ok {gm D : Nat} {m : Ms} {pl : Pl} {W : World} (h : Mrow gm D m pl W) (ha : m.es.length ≤ 9223372036854775807) (hb : m.xs.length ≤ 9223372036854775807) : PlOk W W.heap.size m pl := by
  obtain ⟨A1, c1, e1, l1, r1⟩ := own_rdM h.oa
  obtain ⟨B1, d1, e2, l2, r2⟩ := own_rdM h.ob
  cases e1
  cases e2
  exact ⟨r1, r2, ha, hb, l1, l2⟩
theorem place_67 (b : List UInt8) (m : Ms) (p : Nat) : (stepT b (m, p) 67).2 = (numsT b p 3).2 := congrArg Prod.snd (step_67 b m p)
theorem place_83 (b : List UInt8) (m : Ms) (p : Nat) : (stepT b (m, p) 83).2 = (numsT b p 6).2 := congrArg Prod.snd (step_83 b m p)
theorem place_69 (b : List UInt8) (m : Ms) (p : Nat) : (stepT b (m, p) 69).2 = (entT b p).2 := congrArg Prod.snd (step_69 b m p)
theorem place_76 (b : List UInt8) (m : Ms) (p : Nat) : (stepT b (m, p) 76).2 = (entsT b (numT b p 1).2 (numT b p 1).1).2 := congrArg Prod.snd (step_76 b m p)
theorem place_73 (b : List UInt8) (m : Ms) (p : Nat) : (stepT b (m, p) 73).2 = (itemsT b p 8).2 := congrArg Prod.snd (step_73 b m p)
theorem place_66 (b : List UInt8) (m : Ms) (p : Nat) : (stepT b (m, p) 66).2 = p := congrArg Prod.snd (step_66 b m p)
theorem stepT_place (b : List UInt8) (m : Ms) (p s : Nat) (hp : p ≤ b.length) : (stepT b (m, p) s).2 ≤ b.length := by
  by_cases hc : s ∈ sgB
  · have h1 := numsT_le b p hp 3
    have h2 := numsT_le b p hp 6
    have h3 := entT_le b p hp
    have h4 := entsT_le b (numT b p 1).2 (numT_le b p 1 hp) (numT b p 1).1
    have h5 := itemsT_le b p hp 8
    simp only [sgB, List.mem_cons, List.not_mem_nil, or_false] at hc
    rcases hc with rfl | rfl | rfl | rfl | rfl | rfl
    · rw [place_67]; exact h1
    · rw [place_83]; exact h2
    · rw [place_69]; exact h3
    · rw [place_76]; exact h4
    · rw [place_73]; exact h5
    · rw [place_66]; exact hp
  · rw [step_no b (m, p) s hc]; exact hp
theorem upd_check (m : Ms) (k : Mk) (q : Nat) : (({ m with check := k } : Ms), q).1.es = m.es ∧ (({ m with check := k } : Ms), q).1.xs = m.xs := ⟨rfl, rfl⟩
theorem upd_sums (m : Ms) (k : List Nat) (q : Nat) : (({ m with sums := k } : Ms), q).1.es = m.es ∧ (({ m with sums := k } : Ms), q).1.xs = m.xs := ⟨rfl, rfl⟩
theorem upd_entry (m : Ms) (k : En) (q : Nat) : (({ m with entry := k } : Ms), q).1.es = m.es ∧ (({ m with entry := k } : Ms), q).1.xs = m.xs := ⟨rfl, rfl⟩
theorem upd_body (m : Ms) (k : ByteArray) (q : Nat) : (({ m with body := k } : Ms), q).1.es = m.es ∧ (({ m with body := k } : Ms), q).1.xs = m.xs := ⟨rfl, rfl⟩
theorem stepT_lists (b : List UInt8) (m : Ms) (p s : Nat) (hs : s ≠ 76 ∧ s ≠ 73) : (stepT b (m, p) s).1.es = m.es ∧ (stepT b (m, p) s).1.xs = m.xs := by
  by_cases hc : s ∈ sgB
  · simp only [sgB, List.mem_cons, List.not_mem_nil, or_false] at hc
    rcases hc with rfl | rfl | rfl | rfl | rfl | rfl
    · rw [step_67]; exact upd_check _ _ _
    · rw [step_83]; exact upd_sums _ _ _
    · rw [step_69]; exact upd_entry _ _ _
    · exact absurd rfl hs.1
    · exact absurd rfl hs.2
    · rw [step_66]; exact upd_body _ _ _
  · rw [step_no b (m, p) s hc]; exact ⟨rfl, rfl⟩
theorem few_es (m : Ms) (k : List En) (q n : Nat) (h : k.length ≤ m.es.length + n) : (({ m with es := k } : Ms), q).1.es.length ≤ m.es.length + n ∧ (({ m with es := k } : Ms), q).1.xs.length ≤ m.xs.length + 8 := ⟨h, Nat.le_add_right _ _⟩
theorem few_xs (m : Ms) (k : List It) (q n : Nat) (h : k.length ≤ m.xs.length + 8) : (({ m with xs := k } : Ms), q).1.es.length ≤ m.es.length + n ∧ (({ m with xs := k } : Ms), q).1.xs.length ≤ m.xs.length + 8 := ⟨Nat.le_add_right _ _, h⟩
theorem stepT_few (b : List UInt8) (m : Ms) (p s : Nat) : (stepT b (m, p) s).1.es.length ≤ m.es.length + 255 ∧ (stepT b (m, p) s).1.xs.length ≤ m.xs.length + 8 := by
  by_cases hc : s = 76 ∨ s = 73
  · rcases hc with rfl | rfl
    · have := byteT_lt b p
      have h1 : (m.es ++ (entsT b (numT b p 1).2 (numT b p 1).1).1).length ≤ m.es.length + 255 := by rw [List.length_append, entsT_len]; omega
      rw [step_76]
      exact few_es _ _ _ _ h1
    · have h1 : (m.xs ++ (itemsT b p 8).1).length ≤ m.xs.length + 8 := by rw [List.length_append, itemsT_len]; omega
      rw [step_73]
      exact few_xs _ _ _ _ h1
  · obtain ⟨h1, h2⟩ := stepT_lists b m p s ⟨fun e => hc (.inl e), fun e => hc (.inr e)⟩
    rw [h1, h2]
    omega
/-- lists stand last -/
theorem last_signD : ∀ n : Nat, n < 17 → ∀ k, k < 6 → k + 1 < (sgK (n : Int)).length → (sgK (n : Int)).getD k 0 ≠ 76 ∧ (sgK (n : Int)).getD k 0 ≠ 73 := by decide
theorem sgK_six : ∀ n : Nat, n < 17 → (sgK (n : Int)).length ≤ 6 := by decide
theorem last_sign (n : Nat) (hn : n < 17) (k : Nat) (hk : k + 1 < (sgK (n : Int)).length) : (sgK (n : Int)).getD k 0 ≠ 76 ∧ (sgK (n : Int)).getD k 0 ≠ 73 :=
  last_signD n hn k (by have := sgK_six n hn; omega) hk
theorem take_any17 {w0 : World} {gr gm D ga : Nat} {K : Nat → Option Obj} {c : Nat} {b : List UInt8} (m : Ms) (pl : Pl) (p : Nat) (w : World) (hs : RS w0 gr gm D c b) (h : RP w0 gr gm D K (some ⟨ga, 0, none⟩) c b m pl p w) (hp : p ≤ b.length) (hl : m.sums.length = 6) (s : Nat) (hsg : s ∈ sgA)
    (hn : (s = 76 ∨ s = 73) → pl = p0P ∧ m.es = [] ∧ m.xs = []) :
    Calls Tryz.prog 12 #[.pointer (some ⟨gr, 0, none⟩), .pointer (some ⟨gm, 0, none⟩), .int .i32 (s : Int)] w fun e w' => e = .returned (.tuple #[]) ∧ ∃ pl', RP w0 gr gm D K (some ⟨ga, 0, none⟩) c b (stepT b (m, p) s).1 pl' (stepT b (m, p) s).2 w' ∧ (s ≠ 76 ∧ s ≠ 73 → pl' = pl) := by
  by_cases hN : s ∈ sgN
  · exact (take_none m pl p w hs h hp s hN).mono fun e w' ⟨h1, h2⟩ => ⟨h1, pl, h2, fun _ => rfl⟩
  simp only [sgA, sgN, List.mem_cons, List.not_mem_nil, or_false] at hsg hN
  have h6 : s = 67 ∨ s = 83 ∨ s = 69 ∨ s = 76 ∨ s = 73 ∨ s = 66 := by omega
  clear hsg hN
  rcases h6 with rfl | rfl | rfl | rfl | rfl | rfl
  · exact (take_67 m pl p w hs h hp).mono fun e w' ⟨h1, h2⟩ => ⟨h1, pl, h2, fun _ => rfl⟩
  · exact (take_83 m pl p w hs h hp hl).mono fun e w' ⟨h1, h2⟩ => ⟨h1, pl, h2, fun _ => rfl⟩
  · exact (take_69 m pl p w hs h hp).mono fun e w' ⟨h1, h2⟩ => ⟨h1, pl, h2, fun _ => rfl⟩
  · obtain ⟨rfl, h3, h4⟩ := hn (.inl rfl)
    exact (take_76 m p w hs h hp h3 h4).mono fun e w' ⟨h1, pl', h2⟩ => ⟨h1, pl', h2, fun hh => absurd rfl hh.1⟩
  · obtain ⟨rfl, h3, h4⟩ := hn (.inr rfl)
    exact (take_73 m p w hs h hp h3 h4).mono fun e w' ⟨h1, pl', h2⟩ => ⟨h1, pl', h2, fun hh => absurd rfl hh.2⟩
  · exact (take_66 m pl p w hs h hp ga rfl).mono fun e w' ⟨h1, h2⟩ => ⟨h1, pl, h2, fun _ => rfl⟩
end Go.Proofs.YtcildaeiogdfdaaGreatDoor
/-
  The program's Decode.
-/
namespace Go.Proofs.YtcildaeiogdfdaaGreatDoor
open Go.RowKit
set_option maxRecDepth 10000

theorem bytes_rdP {W : World} {g : Nat} {T : ByteArray} {k : Nat} (h : FRow W g 5 (bvs (sb T) ++ List.replicate k (.int .u8 0))) : Rd W W.heap.size (some ⟨g, 0, none⟩) (bvs (sb T)) := fun _ =>
  ⟨g, 0, rfl, h.lt, fun j u hu => by rw [h.cell, Nat.zero_add, List.getElem?_append_left (List.getElem?_eq_some_iff.1 hu).1]; exact hu⟩
theorem z33_ms0 : z33 = ms0.cells p0P := rfl
theorem hsize17P : (Tryz.prog.info? 42).map (·.size) = some 12 := by kernel_rfl
theorem kind_nnP {h : Hd} (hf : Fits h.nums) (hh : h.fits) : 0 ≤ h.kind := by
  have h1 := ((fits_iff h hh.2.2).1 hf).1.1
  have h2 := hh.1.1
  unfold un at h1
  have e : IntKind.u64.wrap h.kind = h.kind % 18446744073709551616 := rfl
  rw [e] at h1
  unfold In64 at h2
  omega
theorem pl0P (w : World) (D : Nat) : PlOk w D ms0 p0P := ⟨Rd.nil, Rd.nil, by decide, by decide, by decide, by decide⟩
/-- what the first signs say -/
def foldK (b : List UInt8) (h : Hd) (k : Nat) : Ms × Nat := ((sgK h.kind).take k).foldl (stepT b) (headP h, 0)
theorem foldK_all (b : List UInt8) (h : Hd) : (foldK b h (sgK h.kind).length).1 = readP h b := by unfold foldK readP; rw [List.take_length]
theorem foldK_next (b : List UInt8) (h : Hd) (k c : Nat) (e : (sgK h.kind).take (k + 1) = (sgK h.kind).take k ++ [c]) : foldK b h (k + 1) = stepT b (foldK b h k) c := by
  unfold foldK
  rw [e, List.foldl_append]
  rfl
theorem sl_check (m : Ms) (k : Mk) (q : Nat) (h : m.sums.length = 6) : (({ m with check := k } : Ms), q).1.sums.length = 6 := h
theorem sl_sums (m : Ms) (k : List Nat) (q : Nat) (h : k.length = 6) : (({ m with sums := k } : Ms), q).1.sums.length = 6 := h
theorem sl_entry (m : Ms) (k : En) (q : Nat) (h : m.sums.length = 6) : (({ m with entry := k } : Ms), q).1.sums.length = 6 := h
theorem sl_es (m : Ms) (k : List En) (q : Nat) (h : m.sums.length = 6) : (({ m with es := k } : Ms), q).1.sums.length = 6 := h
theorem sl_xs (m : Ms) (k : List It) (q : Nat) (h : m.sums.length = 6) : (({ m with xs := k } : Ms), q).1.sums.length = 6 := h
theorem sl_body (m : Ms) (k : ByteArray) (q : Nat) (h : m.sums.length = 6) : (({ m with body := k } : Ms), q).1.sums.length = 6 := h
theorem stepT_sums (b : List UInt8) (m : Ms) (p s : Nat) (h : m.sums.length = 6) : (stepT b (m, p) s).1.sums.length = 6 := by
  by_cases hc : s ∈ sgB
  · have e1 : (numsT b p 6).1.length = 6 := numsT_len _ _ _
    simp only [sgB, List.mem_cons, List.not_mem_nil, or_false] at hc
    rcases hc with rfl | rfl | rfl | rfl | rfl | rfl
    · rw [step_67]; exact sl_check _ _ _ h
    · rw [step_83]; exact sl_sums _ _ _ e1
    · rw [step_69]; exact sl_entry _ _ _ h
    · rw [step_76]; exact sl_es _ _ _ h
    · rw [step_73]; exact sl_xs _ _ _ h
    · rw [step_66]; exact sl_body _ _ _ h
  · rw [step_no b (m, p) s hc]; exact h
section
variable {w0 : World} {gr gm D : Nat} {K : Nat → Option Obj} {A : Option Addr} {c : Nat} {b : List UInt8} {m : Ms} {pl : Pl} {p : Nat} {W W1 : World} {g : Nat}
/-- a step of the signs' iterator, which lies behind the message -/
theorem RP.step (h : RP w0 gr gm D K A c b m pl p W) (hs : RS w0 gr gm D c b) (hst : Stepped g W W1) (h1 : gm < g) (h2 : g < D) : RP w0 gr gm D (fun j => W1.heap[j]?) A c b m pl p W1 :=
  ⟨⟨hst.row (by have := hs.lt; omega) h.rd.row, h.rd.bytes.below (hst.below (by have := hs.lt; omega) (Below.refl gr W)) (Nat.le_refl _)⟩,
   ⟨hst.row (by omega) h.mr.row, own_stepM h.mr.oa hst h2, own_stepM h.mr.ob hst h2⟩, hst.below (by have := hs.base; have := hs.lt; omega) h.below, by rw [hst.size]; exact h.size, fun _ _ _ => rfl⟩
end
set_option maxHeartbeats 2000000 in
theorem mdec_err (s : ByteArray) (h : Hd) (T : ByteArray) (f : Int) (w : World) (hfd : Fd w) (hne : f ≠ 0 ∨ 17 ≤ h.kind)
    (HU : Hid (∀ W : World, Fd W → Calls Tryz.prog 10 #[.string s] W fun x W' => x = .returned (.tuple #[h.val, .string T, .int .i64 f]) ∧ Below W.heap.size W W')) :
    Calls Tryz.prog 5 #[.string s] w (DMp w (ms0, 4)) := by
  have HZS := hid mssize
  have HZH := hid hsize17P
  have hz := zero33
  have hzs := z33_size
  have hzn := z33_ne
  have HB0 : Hid (Below w.heap.size w (w.alloc (.cells z33 32))) := hid ((Below.refl _ _).alloc (Nat.le_refl _) _)
  have R0 : Hid (Row (w.alloc (.cells z33 32)) w.heap.size 32 z33.toList) := hid (Row.new _ _ _)
  have HFD0 := hid (hfd.below HB0.out hfd.1)
  by_cases hf : f = 0
  · have hf0 : (f != 0) = false := by simp [hf]
    have h17 : 17 ≤ h.kind := by
      rcases hne with h1 | h1
      · exact absurd hf h1
      · exact h1
    clear hne hfd hf
    go_enter Tryz.func5, Tryz.ntmps5
    go_wp2_with (first
      | (go_at_call 10; refine (HU.out _ HFD0.out).mono ?_; rintro e w1 ⟨rfl, hb1⟩; have R1 := hid (R0.out.below hb1 R0.out.lt); have HB1 := hid (HB0.out.trans (hb1.mono HB0.out.size)); clear hb1)
      | (refine wpl_store_head rfl (.tmp 4) (.tmp 16) rfl w1.heap.size h rfl rfl (Row.new _ _ _) ?_; intro w2 hr2 hg2; have hl1 := R1.out.lt; have RZ2 := hid ((R1.out.alloc (.cells #[.int .i64 0, .int .i64 0, .int .i64 0, .int .i64 0, .int .i64 0, .int .i64 0, .int .i64 0, .int .i64 0, .int .i64 0, .int .i64 0, .int .i64 0, .int .u64 0] 42)).grown hg2 (by intro e; have := Option.some.inj e; omega)); have HB2 := hid ((HB1.out.alloc HB1.out.size (.cells #[.int .i64 0, .int .i64 0, .int .i64 0, .int .i64 0, .int .i64 0, .int .i64 0, .int .i64 0, .int .i64 0, .int .i64 0, .int .i64 0, .int .i64 0, .int .u64 0] 42)).trans (below_grown hg2 HB1.out.size (by have := HB1.out.size; simp; omega))); have RH2 := hid hr2; have k0 : w2.cell? ⟨w1.heap.size, 0, none⟩ = some (.int .i64 h.kind) := hr2.cell 0; clear hr2 hg2)
      | ((with_reducible show wpList _ _ _ ({ dst := none, op := .store _ (.tmp 2) _, type := _, pos := _, after := _, guard := _ } :: _) _ _); refine wpl_store_st rfl (.tmp 2) (.tmp 26) rfl HZS.out w.heap.size z33 z33 rfl rfl RZ2.out ?_ (hid (by simp [z33])) (hid rfl) (hid (by rw [z33_ms0]; exact msOneP _ _)); intro wz hrz hgz; have HBZ := hid (HB2.out.trans (below_grown hgz (Nat.le_refl _) HB2.out.size))))
    refine bodyPost_ret (v := .tuple #[.agg (ms0.cells p0P), .int .i64 4]) (results_cell1 rfl _ _ w.heap.size 32 z33 (0, 0) _ (.int .i64 4) rfl rfl (Row.arr hrz) Tryz.underlying32 rfl HZS.out) rfl ⟨p0P, rfl, pl0P _ _, HBZ.out⟩
  · have hf0 : (f != 0) = true := by simp [hf]
    clear hne hfd hf
    go_enter Tryz.func5, Tryz.ntmps5
    go_wp2_with (first
      | (go_at_call 10; refine (HU.out _ HFD0.out).mono ?_; rintro e w1 ⟨rfl, hb1⟩; have R1 := hid (R0.out.below hb1 R0.out.lt); have HB1 := hid (HB0.out.trans (hb1.mono HB0.out.size)); clear hb1)
      | (refine wpl_store_head rfl (.tmp 4) (.tmp 16) rfl w1.heap.size h rfl rfl (Row.new _ _ _) ?_; intro w2 hr2 hg2; have hl1 := R1.out.lt; have RZ2 := hid ((R1.out.alloc (.cells #[.int .i64 0, .int .i64 0, .int .i64 0, .int .i64 0, .int .i64 0, .int .i64 0, .int .i64 0, .int .i64 0, .int .i64 0, .int .i64 0, .int .i64 0, .int .u64 0] 42)).grown hg2 (by intro e; have := Option.some.inj e; omega)); have HB2 := hid ((HB1.out.alloc HB1.out.size (.cells #[.int .i64 0, .int .i64 0, .int .i64 0, .int .i64 0, .int .i64 0, .int .i64 0, .int .i64 0, .int .i64 0, .int .i64 0, .int .i64 0, .int .i64 0, .int .u64 0] 42)).trans (below_grown hg2 HB1.out.size (by have := HB1.out.size; simp; omega))); have RH2 := hid hr2; have k0 : w2.cell? ⟨w1.heap.size, 0, none⟩ = some (.int .i64 h.kind) := hr2.cell 0; clear hr2 hg2)
      | ((with_reducible show wpList _ _ _ ({ dst := none, op := .store _ (.tmp 2) _, type := _, pos := _, after := _, guard := _ } :: _) _ _); refine wpl_store_st rfl (.tmp 2) (.tmp 26) rfl HZS.out w.heap.size z33 z33 rfl rfl RZ2.out ?_ (hid (by simp [z33])) (hid rfl) (hid (by rw [z33_ms0]; exact msOneP _ _)); intro wz hrz hgz; have HBZ := hid (HB2.out.trans (below_grown hgz (Nat.le_refl _) HB2.out.size))))
    refine bodyPost_ret (v := .tuple #[.agg (ms0.cells p0P), .int .i64 4]) (results_cell1 rfl _ _ w.heap.size 32 z33 (0, 0) _ (.int .i64 4) rfl rfl (Row.arr hrz) Tryz.underlying32 rfl HZS.out) rfl ⟨p0P, rfl, pl0P _ _, HBZ.out⟩
set_option maxHeartbeats 8000000 in
theorem mdec_ok (s : ByteArray) (h : Hd) (T : ByteArray) (w : World) (hfd : Fd w) (hmd : Md w) (hT : T.size ≤ 100000) (hh : h.fits) (hk0 : 0 ≤ h.kind) (hk16h : Hid (h.kind ≤ 16)) (hu : Hid (unpackS (sb s) = (h, sb T, 0)))
    (HU : Hid (∀ W : World, Fd W → Calls Tryz.prog 10 #[.string s] W fun x W' => x = .returned (.tuple #[h.val, .string T, .int .i64 0]) ∧ Below W.heap.size W W')) :
    Calls Tryz.prog 5 #[.string s] w (DMp w (decP (sb s))) := by
  have hk16 := hk16h.out
  have HZS := hid mssize
  have HZH := hid hsize17P
  have hz := zero33
  have hzs := z33_size
  have hzn := z33_ne
  have HB0 : Hid (Below w.heap.size w (w.alloc (.cells z33 32))) := hid ((Below.refl _ _).alloc (Nat.le_refl _) _)
  have R0 : Hid (Row (w.alloc (.cells z33 32)) w.heap.size 32 z33.toList) := hid (Row.new _ _ _)
  have HFD0 := hid (hfd.below HB0.out hfd.1)
  have HMO := hid (fun W => msgOf_any h W)
  have HFDW : Hid (∀ W, Below w.heap.size w W → Fd W ∧ Md W) := hid fun W hW => ⟨hfd.below hW hfd.1, hmd.below hW hmd.1⟩
  have HT := hid hT
  have HHF := hid hh
  have hf0 : ((0 : Int) != 0) = false := rfl
  have hk17 : ¬ (17 ≤ h.kind) := by omega
  have hk17b : ¬ (h.kind ≥ 17) := by omega
  obtain ⟨n, hn⟩ : ∃ n : Nat, h.kind = (n : Int) := ⟨h.kind.toNat, by omega⟩
  have hn17 : n < 17 := by omega
  have HN := hid hn
  have HN17 := hid hn17
  clear hfd hmd hT hh
  go_enter Tryz.func5, Tryz.ntmps5
  go_upto_region 5 with (first
    | (go_at_call 10; refine (HU.out _ HFD0.out).mono ?_; rintro e w1 ⟨rfl, hb1⟩; have R1 := hid (R0.out.below hb1 R0.out.lt); have HB1 := hid (HB0.out.trans (hb1.mono HB0.out.size)); clear hb1)
    | (refine wpl_store_head rfl (.tmp 4) (.tmp 16) rfl w1.heap.size h rfl rfl (Row.new _ _ _) ?_; intro w2 hr2 hg2; have hl1 := R1.out.lt; have RZ2 := hid ((R1.out.alloc (.cells #[.int .i64 0, .int .i64 0, .int .i64 0, .int .i64 0, .int .i64 0, .int .i64 0, .int .i64 0, .int .i64 0, .int .i64 0, .int .i64 0, .int .i64 0, .int .u64 0] 42)).grown hg2 (by intro e; have := Option.some.inj e; omega)); have HB2 := hid ((HB1.out.alloc HB1.out.size (.cells #[.int .i64 0, .int .i64 0, .int .i64 0, .int .i64 0, .int .i64 0, .int .i64 0, .int .i64 0, .int .i64 0, .int .i64 0, .int .i64 0, .int .i64 0, .int .u64 0] 42)).trans (below_grown hg2 HB1.out.size (by have := HB1.out.size; simp; omega))); have RH2 := hid hr2; have k0 : w2.cell? ⟨w1.heap.size, 0, none⟩ = some (.int .i64 h.kind) := hr2.cell 0; clear hr2 hg2)
    | ((with_reducible show wpList _ _ _ ({ dst := some 27, op := _, type := _, pos := _, after := _, guard := _ } :: _) _ _); refine wpList_load_row rfl 42 (.tmp 4) rfl w1.heap.size rfl 42 h.cells (0, 0) _ (Row.arr RH2.out) Tryz.underlying42 rfl HZH.out ?_)
    | (go_at_call 11; refine (HMO.out _).mono ?_; rintro e w3 ⟨rfl, hb3⟩; have RZ3 := hid (RZ2.out.below hb3 RZ2.out.lt); have RH3 := hid (RH2.out.below hb3 RH2.out.lt); have HB3 := hid (HB2.out.trans (hb3.mono HB2.out.size)); clear hb3)
    | (with_reducible refine wpl_bytes rfl (.tmp 29) 9 47 rfl 5 Tryz.underlying9 Tryz.underlying47 Tryz.underlying5 T rfl ?_; intro ga c4 k4 w4 hg4 hc4 hrow4 hb4; have RZ4 := hid (RZ3.out.below hb4 RZ3.out.lt); have RH4 := hid (RH3.out.below hb4 RH3.out.lt); have HB4 := hid (HB3.out.trans (hb4.mono HB3.out.size)); have HBY := hid hrow4; clear hb4 hrow4)
    | ((with_reducible show wpList _ _ _ ({ dst := none, op := .store _ (.tmp 7) _, type := _, pos := _, after := _, guard := _ } :: _) _ _); refine wpl_store_st rfl (.tmp 7) (.tmp 28) rfl HZS.out (w4.heap.size + 1) z33 ((headP h).cells p0P) rfl rfl (by have := Row.new (w4.alloc (.cells #[.slice (some ⟨ga, 0, none⟩) T.size c4, .int .i64 0] 49)) 32 z33; simpa using this) ?_ (hid (by simp [z33])) (hid rfl) (hid (msOneP _ _)); intro w7 hr7 hg7))
  have hla := HBY.out.lt
  have RS0 : Hid (RS w4 w4.heap.size (w4.heap.size + 1) (w7.heap.size + 1) c4 (sb T)) := hid ⟨by omega, by have := hr7.lt; omega, Nat.le_refl _, (HFDW.out w4 HB4.out).1, by rw [sb_len]; exact HT.out, by rw [sb_len]; exact hc4.out⟩
  have RP0 : Hid (RP w4 w4.heap.size (w4.heap.size + 1) (w7.heap.size + 1) (fun j => (w7.iter (strL (sgK (n : Int))) 0).heap[j]?) (some ⟨ga, 0, none⟩) c4 (sb T) (headP h) p0P 0 (w7.iter (strL (sgK (n : Int))) 0)) := hid (by
    have hb7 : Below (w4.heap.size + 1) (w4.alloc (.cells #[.slice (some ⟨ga, 0, none⟩) T.size c4, .int .i64 0] 49)) w7 := ((Below.refl _ _).alloc (by simp) (.cells z33 32)).trans (below_grown hg7 (Nat.le_refl _) (by simp))
    have hrr : Row w7 w4.heap.size 49 [.slice (some ⟨ga, 0, none⟩) (sb T).length c4, .int .i64 ((0 : Nat) : Int)] := by
      rw [sb_len]
      exact (Row.new w4 49 #[.slice (some ⟨ga, 0, none⟩) T.size c4, .int .i64 0]).below hb7 (Nat.lt_succ_self _)
    have hby : Rd w7 w4.heap.size (some ⟨ga, 0, none⟩) (bvs (sb T)) := ((bytes_rdP HBY.out).below ((Below.refl w4.heap.size w4).alloc (Nat.le_refl _) (.cells #[.slice (some ⟨ga, 0, none⟩) T.size c4, .int .i64 0] 49)) (Nat.le_refl _)).below (hb7.mono (Nat.le_succ _)) (Nat.le_refl _)
    have hb47 : Below w4.heap.size w4 w7 := ((Below.refl w4.heap.size w4).alloc (Nat.le_refl _) (.cells #[.slice (some ⟨ga, 0, none⟩) T.size c4, .int .i64 0] 49)).trans (hb7.mono (Nat.le_succ _))
    refine ⟨⟨hrr.alloc _, hby.below ((Below.refl _ _).alloc (by have := hr7.lt; omega) _) (Nat.le_refl _)⟩, ⟨Row.alloc hr7 _, own_nilQ _ _ _ _, own_nilQ _ _ _ _⟩, hb47.alloc hb47.size _, ?_, fun _ _ _ => rfl⟩
    show _ ≤ (w7.alloc _).heap.size
    simp)
  have hb47 : Below w4.heap.size w4 w7 := (((Below.refl w4.heap.size w4).alloc (Nat.le_refl _) (.cells #[.slice (some ⟨ga, 0, none⟩) T.size c4, .int .i64 0] 49)).alloc (by simp) (.cells z33 32)).trans (below_grown hg7 (by omega) (by simp; omega))
  have HLW4 := hid (show w.heap.size < w4.heap.size from RZ4.out.lt)
  have HB7 := hid (HB4.out.trans (hb47.mono HB4.out.size))
  have c0 : w7.cell? ⟨w1.heap.size, 0, none⟩ = some (.int .i64 (n : Int)) := by rw [(RH4.out.below hb47 RH4.out.lt).cell]; show some (Value.int .i64 h.kind) = _; rw [HN.out]
  have ct : w7.cell? ⟨0, n, none⟩ = some (.string (strL (sgK (n : Int)))) := ((HFDW.out w7 HB7.out).2.get HN17.out).trans rfl
  have hi0 : (0 : Int) ≤ (n : Int) := by omega
  have hi17 : (n : Int) < 17 := by omega
  have HKC : Hid (sgK (n : Int) = sgK h.kind) := hid (by rw [HN.out])
  have HGM := hid (show w4.heap.size + 1 < w7.heap.size from hr7.lt)
  have HSG : Hid ((headP h).sums.length = 6) := hid rfl
  clear hn hk17 hk17b hb47 hr7 hg7 hg4 hc4 hla RZ2 RZ3 RH2 RH3 RH4 HB2 HB3 HBY R0 R1 HB0 HB1 k0
  go_wp2_with fail
  go_loopw [] (fun wr => ∃ (k : Nat) (pl : Pl), k ≤ (sgK h.kind).length ∧ Hid (wr.heap[w7.heap.size]? = some (.stringIter (strL (sgK (n : Int))) k)) ∧ Hid (∃ K, RP w4 w4.heap.size (w4.heap.size + 1) (w7.heap.size + 1) K (some ⟨ga, 0, none⟩) c4 (sb T) (foldK (sb T) h k).1 pl (foldK (sb T) h k).2 wr) ∧ Hid ((foldK (sb T) h k).2 ≤ (sb T).length) ∧
    Hid (k < (sgK h.kind).length → pl = p0P ∧ (foldK (sb T) h k).1.es = [] ∧ (foldK (sb T) h k).1.xs = []) ∧ Hid ((foldK (sb T) h k).1.sums.length = 6) ∧ Hid ((foldK (sb T) h k).1.es.length ≤ 255 * k ∧ (foldK (sb T) h k).1.xs.length ≤ 8 * k)) (fun wr => (sgK h.kind).length - wr.iterPos w7.heap.size)
  case atStart => exact ⟨0, p0P, by omega, hid (World.iter_heap _ _ _), hid ⟨_, RP0.out⟩, hid (Nat.zero_le _), hid (fun _ => ⟨rfl, rfl, rfl⟩), HSG, hid ⟨Nat.zero_le _, Nat.zero_le _⟩⟩
  case round =>
    clear RP0 c0 ct
    obtain ⟨k, pl, hk, HI, HRP, HPL, HNL, HSU, HLE⟩ := hrel
    have hps := iterPos_of HI.out
    by_cases hlt : k < (sgK h.kind).length
    · obtain ⟨cc, W1, hc, htk, hnx, hI1, hst⟩ := sign_next Tryz.prog (sgK (n : Int)) (sgK_lt _) HI.out (by rw [HKC.out]; exact hlt)
      obtain ⟨K, hrp⟩ := HRP.out
      have HRP1 := hid (hrp.step RS0.out hst HGM.out (Nat.lt_succ_self _))
      have HI1 := hid hI1
      rw [HKC.out] at hc htk
      have HFN := hid (foldK_next (sb T) h k cc htk)
      have HCA := sgK_all _ cc hc
      have HCK : Hid (cc = (sgK h.kind).getD k 0) := hid (by
        have e := congrArg (fun l : List Nat => l[k]?) htk
        simp only [List.getElem?_take] at e
        rw [if_pos (Nat.lt_succ_self k), List.getElem?_append_right (by simp; omega)] at e
        rw [List.getD_eq_getElem?_getD, e]
        simp [List.length_take, Nat.min_eq_left (Nat.le_of_lt hlt)])
      have HLS : Hid (k + 1 < (sgK h.kind).length → cc ≠ 76 ∧ cc ≠ 73) := hid (fun hh => by rw [HCK.out, ← HKC.out]; rw [← HKC.out] at hh; exact last_sign n HN17.out k hh)
      obtain ⟨hpl, hes, hxs⟩ := HNL.out hlt
      have HM := hid (take_any17 (foldK (sb T) h k).1 pl (foldK (sb T) h k).2 W1 RS0.out HRP1.out HPL.out HSU.out cc HCA (fun _ => ⟨hpl, hes, hxs⟩))
      have HP2 := hid (stepT_place (sb T) (foldK (sb T) h k).1 (foldK (sb T) h k).2 cc HPL.out)
      have HS2 := hid (stepT_sums (sb T) (foldK (sb T) h k).1 (foldK (sb T) h k).2 cc HSU.out)
      have HF2 := hid (stepT_few (sb T) (foldK (sb T) h k).1 (foldK (sb T) h k).2 cc)
      have HL2 := hid (stepT_lists (sb T) (foldK (sb T) h k).1 (foldK (sb T) h k).2 cc)
      have HEQ : Hid (stepT (sb T) ((foldK (sb T) h k).1, (foldK (sb T) h k).2) cc = foldK (sb T) h (k + 1)) := hid HFN.out.symm
      rw [HEQ.out] at HM HP2 HS2 HF2 HL2
      have HES := hid hes
      have HXS := hid hxs
      have HPP := hid hpl
      clear hst hI1 hrp HRP htk hc HCK hpl hes hxs HNL HEQ HFN HPL HSU
      go_wp2_with (go_at_call 12; refine HM.out.mono ?_; rintro e w9 ⟨rfl, pl9, hrp9, hpl9⟩)
      have hit : w9.heap[w7.heap.size]? = some (.stringIter (strL (sgK (n : Int))) (k + 1)) := (hrp9.keep w7.heap.size HGM.out (Nat.lt_succ_self _)).trans HI1.out
      go_roundw
      case rel =>
        refine ⟨k + 1, pl9, by omega, hid hit, hid ⟨_, hrp9⟩, HP2, hid (fun hh => ?_), HS2, hid ?_⟩
        · have h1 := HLS.out hh
          obtain ⟨h2, h3⟩ := HL2.out h1
          exact ⟨(hpl9 h1).trans HPP.out, h2.trans HES.out, h3.trans HXS.out⟩
        · have h1 := HF2.out
          have h2 := HLE.out
          omega
      case measure =>
        rw [hps, iterPos_of hit]
        omega
    · obtain rfl : k = (sgK h.kind).length := by omega
      have hnx := sign_end Tryz.prog (sgK (n : Int)) HI.out (by rw [HKC.out]; omega)
      obtain ⟨K, hrp⟩ := HRP.out
      have h6 : (sgK h.kind).length ≤ 6 := by rw [← HKC.out]; exact sgK_six n HN17.out
      have hle := HLE.out
      have HOK := hid (Mrow.ok hrp.mr (by omega) (by omega))
      have HMR := hid hrp.mr
      have HBW := hid (HB4.out.trans (hrp.below.mono HB4.out.size))
      have RZW := hid (RZ4.out.below hrp.below HLW4.out)
      have HRD := hid (foldK_all (sb T) h)
      have HFT := hid (readP_fits HHF.out (sb T))
      have hll : (foldK (sb T) h (sgK h.kind).length).1.es.length ≤ 2000 ∧ (foldK (sb T) h (sgK h.kind).length).1.xs.length ≤ 2000 := ⟨by omega, by omega⟩
      rw [HRD.out] at HOK HMR hll
      have HLL := hid hll
      clear hrp HRP HPL HNL HSU HLE hlt hle hll h6
      have HDP : Hid (decP (sb s) = if encM (readP h (sb T)) = (sb s, 0) then (readP h (sb T), 0) else (ms0, 4)) := hid (by
        unfold decP
        rw [hu.out]
        show (if (0 : Int) = 0 ∧ h.kind ≤ 16 then _ else _) = _
        rw [if_pos ⟨rfl, hk16h.out⟩])
      generalize readP h (sb T) = m at *
      obtain ⟨X, f, hX⟩ : ∃ X f, encM m = (X, f) := ⟨_, _, rfl⟩
      have HEN := hid (menc_any m pl wr.heap.size wr HOK.out (Nat.le_refl _) HFT.out (HFDW.out _ HBW.out).1 (HFDW.out _ HBW.out).2)
      rw [hX] at HEN
      have HX := hid hX
      clear hX
      go_upto_region 10 with (first
        | ((with_reducible show wpList _ _ _ ({ dst := some 45, op := _, type := _, pos := _, after := _, guard := _ } :: _) _ _); refine wpList_load_row rfl 32 (.tmp 7) rfl (w4.heap.size + 1) rfl 32 (m.cells pl) (0, 0) _ (Row.arr HMR.out.row) Tryz.underlying32 rfl HZS.out ?_)
        | (go_at_call 8; refine HEN.out.mono ?_; rintro e w9 ⟨rfl, hb9⟩; have HM9 := hid (HMR.out.below hb9); have RZ9 := hid (RZW.out.below hb9 RZW.out.lt); have HB9 := hid (HBW.out.trans (hb9.mono HBW.out.size)); clear hb9))
      obtain ⟨PT, hPT⟩ : ∃ PT : ByteArray, (⟨X.toArray⟩ : ByteArray) = PT := ⟨_, rfl⟩
      rw [hPT]
      have HPT := hid hPT
      clear hPT HEN HFT
      by_cases h1 : f = 0
      · subst h1
        by_cases h2 : X = sb s
        · have hs : (PT.toList == s.toList) = true := by rw [← HPT.out, h2, mk_sb]; simp
          have HD : Hid (decP (sb s) = (m, 0)) := hid (by rw [HDP.out, HX.out, h2, if_pos rfl])
          clear h2
          go_wp2_with (first
            | ((with_reducible show wpList _ _ _ ({ dst := some 57, op := _, type := _, pos := _, after := _, guard := _ } :: _) _ _); refine wpList_load_row rfl 32 (.tmp 7) rfl (w4.heap.size + 1) rfl 32 (m.cells pl) (0, 0) _ (Row.arr HM9.out.row) Tryz.underlying32 rfl HZS.out ?_)
            | ((with_reducible show wpList _ _ _ ({ dst := none, op := .store _ (.tmp 2) _, type := _, pos := _, after := _, guard := _ } :: _) _ _); refine wpl_store_st rfl (.tmp 2) (.tmp 57) rfl HZS.out w.heap.size z33 (m.cells pl) rfl rfl RZ9.out ?_ (hid rfl) (hid rfl) (hid (msOneP _ _)); intro wz hrz hgz; have HBZ := hid (HB9.out.trans (below_grown hgz (Nat.le_refl _) HB9.out.size)); have HMZ := hid (HM9.out.grown hgz (by have := HLW4.out; omega) (by have := HGM.out; omega))))
          refine bodyPost_ret (v := .tuple #[.agg (m.cells pl), .int .i64 0]) (results_cell1 rfl _ _ w.heap.size 32 (m.cells pl) (0, 0) _ (.int .i64 0) rfl rfl (Row.arr hrz) Tryz.underlying32 rfl HZS.out) rfl ⟨pl, by rw [HD.out], by rw [HD.out]; exact Mrow.ok HMZ.out (Nat.le_trans HLL.out.1 (by decide)) (Nat.le_trans HLL.out.2 (by decide)), HBZ.out⟩
        · have hs : (PT.toList == s.toList) = false := by rw [← HPT.out]; exact str_ne (fun c => h2 (by rw [← c, sb_mk]))
          have HD : Hid (decP (sb s) = (ms0, 4)) := hid (by rw [HDP.out, HX.out, if_neg (fun e => h2 (Prod.mk.inj e).1)])
          clear h2
          go_wp2_with ((with_reducible show wpList _ _ _ ({ dst := none, op := .store _ (.tmp 2) _, type := _, pos := _, after := _, guard := _ } :: _) _ _); refine wpl_store_st rfl (.tmp 2) (.tmp 56) rfl HZS.out w.heap.size z33 z33 rfl rfl RZ9.out ?_ (hid (by simp [z33])) (hid rfl) (hid (by rw [z33_ms0]; exact msOneP _ _)); intro wz hrz hgz; have HBZ := hid (HB9.out.trans (below_grown hgz (Nat.le_refl _) HB9.out.size)))
          refine bodyPost_ret (v := .tuple #[.agg (ms0.cells p0P), .int .i64 4]) (results_cell1 rfl _ _ w.heap.size 32 z33 (0, 0) _ (.int .i64 4) rfl rfl (Row.arr hrz) Tryz.underlying32 rfl HZS.out) rfl ⟨p0P, by rw [HD.out], by rw [HD.out]; exact pl0P _ _, HBZ.out⟩
      · have he : (f != 0) = true := by simpa using h1
        have HD : Hid (decP (sb s) = (ms0, 4)) := hid (by rw [HDP.out, HX.out, if_neg (fun e => h1 (Prod.mk.inj e).2)])
        clear h1
        go_wp2_with ((with_reducible show wpList _ _ _ ({ dst := none, op := .store _ (.tmp 2) _, type := _, pos := _, after := _, guard := _ } :: _) _ _); refine wpl_store_st rfl (.tmp 2) (.tmp 56) rfl HZS.out w.heap.size z33 z33 rfl rfl RZ9.out ?_ (hid (by simp [z33])) (hid rfl) (hid (by rw [z33_ms0]; exact msOneP _ _)); intro wz hrz hgz; have HBZ := hid (HB9.out.trans (below_grown hgz (Nat.le_refl _) HB9.out.size)))
        refine bodyPost_ret (v := .tuple #[.agg (ms0.cells p0P), .int .i64 4]) (results_cell1 rfl _ _ w.heap.size 32 z33 (0, 0) _ (.int .i64 4) rfl rfl (Row.arr hrz) Tryz.underlying32 rfl HZS.out) rfl ⟨p0P, by rw [HD.out], by rw [HD.out]; exact pl0P _ _, HBZ.out⟩
theorem mdec_any (s : ByteArray) (w : World) (hfd : Fd w) (hmd : Md w) (hs : s.size ≤ 100000) : Calls Tryz.prog 5 #[.string s] w (DMp w (decM (sb s))) := by
  rw [← decP_eq]
  have HU : Hid (∀ W : World, Fd W → Calls Tryz.prog 10 #[.string s] W (HE W (unpackS (sb s)))) := hid (fun W hW => unp_any s W hW (by omega))
  obtain ⟨⟨h, b, f⟩, hr⟩ : ∃ r, unpackS (sb s) = r := ⟨_, rfl⟩
  rw [hr] at HU
  by_cases h0 : f = 0 ∧ h.kind ≤ 16
  · obtain ⟨rfl, hk⟩ := h0
    obtain ⟨h1, h2⟩ := unpM_ok hr
    obtain ⟨hft, -, h3⟩ := packS_ok h1
    have hl := congrArg List.length h3
    rw [List.length_append, headB_len, sb_len] at hl
    have hb : sb (⟨b.toArray⟩ : ByteArray) = b := sb_mk b
    exact mdec_ok s h ⟨b.toArray⟩ w hfd hmd (by rw [← sb_len, hb]; omega) h2 (kind_nnP hft h2) (hid hk) (hid (by rw [hb]; exact hr)) HU
  · have hd : decP (sb s) = (ms0, 4) := by
      unfold decP
      rw [hr, if_neg h0]
    rw [hd]
    have hne : f ≠ 0 ∨ 17 ≤ h.kind := by
      by_cases hf : f = 0
      · right
        have hk : ¬ h.kind ≤ 16 := fun hk => h0 ⟨hf, hk⟩
        omega
      · exact .inl hf
    exact mdec_err s h ⟨b.toArray⟩ f w hfd hne HU
end Go.Proofs.YtcildaeiogdfdaaGreatDoor
