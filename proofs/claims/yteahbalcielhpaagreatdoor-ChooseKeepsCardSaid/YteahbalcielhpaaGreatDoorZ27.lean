/-
  The law's sure.
-/
import Derived.Test.YteahbalcielhpaaGreatDoorZ26
namespace Go.Proofs.YteahbalcielhpaaGreatDoor
open Go.RowKit
set_option maxRecDepth 10000

/-- the first entry that a log of a view of v or more holds -/
def isF (n v : Int) (x : LP) : Bool := decide (v ≤ x.1.lv ∧ (saysC x.1 n).kind = 1)
def fstQ (M : List LP) (n v : Int) : En := match M.find? (isF n v) with | some x => (saysC x.1 n).entry | none => en0
theorem fstQ_eq (M : List LP) (n v : Int) : fstQ M n v = firstC (M.map Prod.fst) n v := by
  unfold fstQ firstC
  rw [List.find?_map]
  have e : (fun m : Ms => decide (v ≤ m.lv ∧ (saysC m n).kind = 1)) ∘ Prod.fst = isF n v := rfl
  rw [e]
  cases M.find? (isF n v) <;> rfl
theorem fstQ_snoc {M : List LP} (hM : LogF M) (n v : Int) (k : Nat) (h : k < M.length) :
    fstQ (M.take (k + 1)) n v = if v ≤ M[k].1.lv ∧ (saysC M[k].1 n).kind = 1 ∧ (fstQ (M.take k) n v).opn = 0 then (saysC M[k].1 n).entry else fstQ (M.take k) n v := by
  have hs : (M.take (k + 1)).find? (isF n v) = ((M.take k).find? (isF n v)).or (if isF n v M[k] = true then some M[k] else none) := by
    rw [List.take_succ_eq_append_getElem h]
    exact find_snoc _ _ _
  cases hp : (M.take k).find? (isF n v) with
  | some x =>
    have h1 := List.mem_of_find?_eq_some hp
    have h2 := List.find?_some hp
    have h3 : v ≤ x.1.lv ∧ (saysC x.1 n).kind = 1 := by simpa [isF] using h2
    have hx := hM x (List.mem_of_mem_take h1)
    have h4 := (held_entry hx.1.1 hx.1.2 n h3.2).1.1.1
    have e1 : fstQ (M.take k) n v = (saysC x.1 n).entry := by unfold fstQ; rw [hp]
    have e2 : fstQ (M.take (k + 1)) n v = (saysC x.1 n).entry := by unfold fstQ; rw [hs, hp]; rfl
    rw [e1, e2, if_neg (by rintro ⟨_, _, h5⟩; omega)]
  | none =>
    have e1 : fstQ (M.take k) n v = en0 := by unfold fstQ; rw [hp]
    rw [e1]
    unfold fstQ
    rw [hs, hp, Option.none_or]
    by_cases hc : v ≤ M[k].1.lv ∧ (saysC M[k].1 n).kind = 1
    · rw [if_pos (by simpa [isF] using hc), if_pos ⟨hc.1, hc.2, rfl⟩]
    · rw [if_neg (by simpa [isF] using hc), if_neg (fun h => hc ⟨h.1, h.2.1⟩)]
theorem fstQ_fits {M : List LP} (hM : LogF M) (n v : Int) : (fstQ M n v).fits := by
  unfold fstQ
  split
  · rename_i x hx
    have h1 := List.mem_of_find?_eq_some hx
    have h2 := List.find?_some hx
    have h3 : v ≤ x.1.lv ∧ (saysC x.1 n).kind = 1 := by simpa [isF] using h2
    exact ((hM x h1).2.2.2.2.2.2.2 _ (saysC_mem h3.2)).2.2
  · exact en0_fitsM
/-- a log says nothing against it -/
def okF (n v : Int) (s : St) (x : LP) : Prop := (x.1.lv < v ∨ (saysC x.1 n).kind = 3) ∨ ((saysC x.1 n).kind ≠ 0 ∧ (saysC x.1 n).stub = s)
theorem sureQ_iff (M : List LP) (n v : Int) : sureC (M.map Prod.fst) n v ↔ (∀ x ∈ M, okF n v (stubS (fstQ M n v)) x) ∧ (fstQ M n v).opn = n := by
  unfold sureC
  rw [← fstQ_eq]
  constructor
  · rintro ⟨h1, h2⟩
    exact ⟨fun x hx => h1 x.1 (List.mem_map_of_mem hx), h2⟩
  · rintro ⟨h1, h2⟩
    refine ⟨fun m hm => ?_, h2⟩
    obtain ⟨x, hx, rfl⟩ := List.mem_map.1 hm
    exact h1 x hx
theorem okF_snoc {M : List LP} {n v : Int} {s : St} {k : Nat} (h : k < M.length) (ht : ∀ x ∈ M.take k, okF n v s x) (hk : okF n v s M[k]) : ∀ x ∈ M.take (k + 1), okF n v s x := by
  intro x hx
  rw [List.take_succ_eq_append_getElem h] at hx
  rcases List.mem_append.1 hx with hx | hx
  · exact ht x hx
  · rw [List.mem_singleton.1 hx]; exact hk
/-- what sure answers -/
def SQ (w : World) (x : En) (b : Bool) (e : Ending) (w' : World) : Prop := e = .returned (.tuple #[.agg x.cells, .bool b]) ∧ Below w.heap.size w w'
set_option maxHeartbeats 8000000 in
theorem sure_any (n v : Int) (A : Option Addr) (M : List LP) (q c B : Nat) (w : World) (hr : Lm w B A M) (hf : LogF M) (hn : q = M.length) (hc : q ≤ c) (hB : B ≤ w.heap.size) (hb : q ≤ 100) (hfd : Fd w) :
    Calls Tryz.prog 13 #[.slice A q c, .int .i64 n, .int .i64 v] w (SQ w (fstQ M n v) (decide (sureC (M.map Prod.fst) n v))) := by
  have HZS := hid mssize
  have HZE := hid esize
  have HZI := hid isize
  have HZT := hid stsizeM
  have HN := hid hn
  have HR : Hid (∀ W, Below w.heap.size w W → Lm W B A M) := hid fun W hW => hr.below hW hB
  have HSY := hid (fun (x : LP) (hx : x ∈ M) (W : World) (hW : Below w.heap.size w W) => rsays_any x n B W ((hr.pl x hx).below hW hB) (Nat.le_trans hB hW.size) (hf.xs hx) (hf.chk hx))
  have HSN := hid (fun (k : Nat) (h : k < M.length) => fstQ_snoc hf n v k h)
  have HEND : Hid (fstQ (M.take q) n v = fstQ M n v) := hid (by rw [hn, List.take_length])
  have HSB := hid (fun (W : World) (hW : Below w.heap.size w W) => sstub_any (fstQ M n v) (fstQ_fits hf n v) W (hfd.below hW hfd.1))
  have hsq := (decide_eq_true_iff (p := sureC (M.map Prod.fst) n v)).trans (sureQ_iff M n v)
  generalize decide (sureC (M.map Prod.fst) n v) = sb at *
  obtain ⟨END, hE⟩ : ∃ e, fstQ M n v = e := ⟨_, rfl⟩
  rw [hE] at HEND HSB hsq ⊢
  have HSQ := hid hsq
  have HB0 : Hid (Below w.heap.size w (w.alloc (.cells #[.int .i64 0, .int .i64 0, .int .i64 0, .int .u64 0, .int .i64 0, .int .i64 0, .int .i64 0, .int .i64 0, .string ⟨#[]⟩] 35))) := hid ((Below.refl _ _).alloc (Nat.le_refl _) _)
  have R0 : Hid (Row (w.alloc (.cells #[.int .i64 0, .int .i64 0, .int .i64 0, .int .u64 0, .int .i64 0, .int .i64 0, .int .i64 0, .int .i64 0, .string ⟨#[]⟩] 35)) w.heap.size 35 (#[.int .i64 0, .int .i64 0, .int .i64 0, .int .u64 0, .int .i64 0, .int .i64 0, .int .i64 0, .int .i64 0, .string ⟨#[]⟩] : Array Value).toList) := hid (Row.new _ _ _)
  clear hr hf hn hfd hE hsq
  go_enter Tryz.func13, Tryz.ntmps13
  go_wp2_with (first
      | ((with_reducible show wpList _ _ _ ({ dst := none, op := .store _ (.tmp 8) (.tmp 13), type := _, pos := _, after := _, guard := _ } :: _) _ _); refine wpl_store_st rfl (.tmp 8) (.tmp 13) rfl HZE.out (w.heap.size + 1) (#[.int .i64 0, .int .i64 0, .int .i64 0, .int .u64 0, .int .i64 0, .int .i64 0, .int .i64 0, .int .i64 0, .string ⟨#[]⟩]) (en0.cells) rfl rfl (by have h := Row.new (w.alloc (.cells #[.int .i64 0, .int .i64 0, .int .i64 0, .int .u64 0, .int .i64 0, .int .i64 0, .int .i64 0, .int .i64 0, .string ⟨#[]⟩] 35)) 35 #[.int .i64 0, .int .i64 0, .int .i64 0, .int .u64 0, .int .i64 0, .int .i64 0, .int .i64 0, .int .i64 0, .string ⟨#[]⟩]; rw [World.size_alloc] at h; exact h) ?_ (hid (by first | rfl | simp)) (hid (by first | rfl | simp)) (hid (ecells_one _)); intro w1 hr1 hg; have RT := hid hr1; have R1 := hid ((R0.out.alloc (.cells #[.int .i64 0, .int .i64 0, .int .i64 0, .int .u64 0, .int .i64 0, .int .i64 0, .int .i64 0, .int .i64 0, .string ⟨#[]⟩] 35)).grown hg (by intro y; have := Option.some.inj y; omega)); have HB1 := hid ((HB0.out.alloc HB0.out.size (.cells #[.int .i64 0, .int .i64 0, .int .i64 0, .int .u64 0, .int .i64 0, .int .i64 0, .int .i64 0, .int .i64 0, .string ⟨#[]⟩] 35)).trans (below_grown hg (by omega) (by simp; omega))); clear hr1 hg))
  go_loopw [9] (fun i wr => ∃ k : Nat, k ≤ q ∧ i = .int .i64 (k : Int) ∧ ∃ e : En, Hid (fstQ (M.take k) n v = e) ∧ Hid (Row wr w.heap.size 35 (#[.int .i64 0, .int .i64 0, .int .i64 0, .int .u64 0, .int .i64 0, .int .i64 0, .int .i64 0, .int .i64 0, .string ⟨#[]⟩] : Array Value).toList) ∧ Hid (Row wr (w.heap.size + 1) 35 e.cells.toList) ∧ Hid (Below w.heap.size w wr)) (fun i _ => q - (intOf i).toNat)
  case atStart => exact ⟨0, by omega, rfl, en0, hid rfl, R1, RT, HB1⟩
  case round =>
    clear R0 HB0 R1 RT HB1
    obtain ⟨k, hk, rfl, e, HT, RS, RE, HBE⟩ := hrel
    by_cases hlt : k < q
    · have hkl : k < M.length := by rw [← HN.out]; exact hlt
      obtain ⟨g, o, rfl, -, hrg⟩ := (HR.out wr HBE.out).at_ k hkl
      have HRG : Hid (∀ W, Below w.heap.size w W → W.rangeAt g (o + k * 33) (Array.toList (M[k].1.cells M[k].2))) := hid fun W hW => by
        obtain ⟨g', o', e', -, h⟩ := (HR.out W hW).at_ k hkl
        cases e'
        exact h
      have HS := hid (HSY.out M[k] (List.getElem_mem hkl))
      have HQ := hid (HSN.out k hkl)
      rw [HT.out] at HQ
      generalize M[k] = X at *
      have hi : (k : Int) < (q : Int) := by omega
      have hi0 : (0 : Int) ≤ (k : Int) := by omega
      have HLT : Hid (w.heap.size + 1 < wr.heap.size) := hid RE.out.lt
      generalize saysC X.1 n = x at *
      clear hrg hkl HR HT HSN HSY
      by_cases h1 : v ≤ X.1.lv
      case neg =>
        have d1 : decide (v ≤ X.1.lv) = false := decide_eq_false h1
        have HX : Hid (fstQ (M.take (k + 1)) n v = e) := hid (by rw [HQ.out, if_neg (fun h => h1 h.1)])
        clear HQ h1
        go_wp2_with (first
          | ((with_reducible show wpList _ _ _ ({ dst := some 23, op := _, type := _, pos := _, after := _, guard := _ } :: _) _ _); refine wpList_load_mid rfl 45 (.tmp 22) rfl g (o + k * 33) rfl (Array.toList (X.1.cells X.2)) _ (HRG.out _ HBE.out) Tryz.underlying45 rfl (by exact HZS.out) ?_)
          | (go_at_call 12; refine (HS.out _ HBE.out).mono ?_; rintro y w2 ⟨rfl, hb⟩; have HB2 := hid (HBE.out.trans (hb.mono HBE.out.size)); have RS2 := hid (RS.out.below hb RS.out.lt); have RE2 := hid (RE.out.below hb RE.out.lt); have HLT2 := hid (show w.heap.size + 1 < w2.heap.size by have := RE2.out.lt; omega); clear hb)
          | ((with_reducible show wpList _ _ _ ({ dst := none, op := .store _ (.tmp 10) (.tmp 25), type := _, pos := _, after := _, guard := _ } :: _) _ _); refine wpl_store_st rfl (.tmp 10) (.tmp 25) rfl HZI.out (w2.heap.size) (#[.int .i64 0, .int .i64 0, .int .i64 0, .int .i64 0, .int .u64 0, .int .u64 0, .int .i64 0, .int .i64 0, .int .i64 0, .int .u64 0, .int .i64 0, .int .i64 0, .int .i64 0, .int .i64 0, .string ⟨#[]⟩]) (x.cells) rfl rfl (Row.new _ _ _) ?_ (hid (by first | rfl | simp)) (hid (by first | rfl | simp)) (hid (itc_one _)); intro w3 hr3 hg; have R3 := hid hr3; have HB3 := hid ((HB2.out.alloc HB2.out.size (.cells #[.int .i64 0, .int .i64 0, .int .i64 0, .int .i64 0, .int .u64 0, .int .u64 0, .int .i64 0, .int .i64 0, .int .i64 0, .int .u64 0, .int .i64 0, .int .i64 0, .int .i64 0, .int .i64 0, .string ⟨#[]⟩] 40)).trans (below_grown hg (by have := HB2.out.size; omega) (by simp; have := HB2.out.size; omega))); have RS3 := hid ((RS2.out.alloc (.cells #[.int .i64 0, .int .i64 0, .int .i64 0, .int .i64 0, .int .u64 0, .int .u64 0, .int .i64 0, .int .i64 0, .int .i64 0, .int .u64 0, .int .i64 0, .int .i64 0, .int .i64 0, .int .i64 0, .string ⟨#[]⟩] 40)).grown hg (by intro y; have := Option.some.inj y; have := HLT2.out; omega)); have RE3 := hid ((RE2.out.alloc (.cells #[.int .i64 0, .int .i64 0, .int .i64 0, .int .i64 0, .int .u64 0, .int .u64 0, .int .i64 0, .int .i64 0, .int .i64 0, .int .u64 0, .int .i64 0, .int .i64 0, .int .i64 0, .int .i64 0, .string ⟨#[]⟩] 40)).grown hg (by intro y; have := Option.some.inj y; have := HLT2.out; omega)); have c0 : w3.cell? ⟨w2.heap.size, 0, none⟩ = some (.int .i64 x.kind) := hr3.cell 0; have ce : w3.cell? ⟨w.heap.size + 1, 1, none⟩ = some (.int .i64 e.opn) := RE3.out.cell 1; have clv : w3.cell? ⟨g, o + k * 33 + 3, none⟩ = some (.int .i64 X.1.lv) := HRG.out _ HB3.out 3 _ rfl; clear hr3 hg))
        go_roundw
        case rel => exact ⟨k + 1, by omega, by go_num, e, HX, RS3, RE3, HB3⟩
        case measure => simp [intOf]; omega
      have d1 : decide (v ≤ X.1.lv) = true := decide_eq_true h1
      cases hk1 : (x.kind == 1)
      case false =>
        have HX : Hid (fstQ (M.take (k + 1)) n v = e) := hid (by rw [HQ.out, if_neg (fun h => by rw [h.2.1] at hk1; cases hk1)])
        clear HQ h1
        go_wp2_with (first
          | ((with_reducible show wpList _ _ _ ({ dst := some 23, op := _, type := _, pos := _, after := _, guard := _ } :: _) _ _); refine wpList_load_mid rfl 45 (.tmp 22) rfl g (o + k * 33) rfl (Array.toList (X.1.cells X.2)) _ (HRG.out _ HBE.out) Tryz.underlying45 rfl (by exact HZS.out) ?_)
          | (go_at_call 12; refine (HS.out _ HBE.out).mono ?_; rintro y w2 ⟨rfl, hb⟩; have HB2 := hid (HBE.out.trans (hb.mono HBE.out.size)); have RS2 := hid (RS.out.below hb RS.out.lt); have RE2 := hid (RE.out.below hb RE.out.lt); have HLT2 := hid (show w.heap.size + 1 < w2.heap.size by have := RE2.out.lt; omega); clear hb)
          | ((with_reducible show wpList _ _ _ ({ dst := none, op := .store _ (.tmp 10) (.tmp 25), type := _, pos := _, after := _, guard := _ } :: _) _ _); refine wpl_store_st rfl (.tmp 10) (.tmp 25) rfl HZI.out (w2.heap.size) (#[.int .i64 0, .int .i64 0, .int .i64 0, .int .i64 0, .int .u64 0, .int .u64 0, .int .i64 0, .int .i64 0, .int .i64 0, .int .u64 0, .int .i64 0, .int .i64 0, .int .i64 0, .int .i64 0, .string ⟨#[]⟩]) (x.cells) rfl rfl (Row.new _ _ _) ?_ (hid (by first | rfl | simp)) (hid (by first | rfl | simp)) (hid (itc_one _)); intro w3 hr3 hg; have R3 := hid hr3; have HB3 := hid ((HB2.out.alloc HB2.out.size (.cells #[.int .i64 0, .int .i64 0, .int .i64 0, .int .i64 0, .int .u64 0, .int .u64 0, .int .i64 0, .int .i64 0, .int .i64 0, .int .u64 0, .int .i64 0, .int .i64 0, .int .i64 0, .int .i64 0, .string ⟨#[]⟩] 40)).trans (below_grown hg (by have := HB2.out.size; omega) (by simp; have := HB2.out.size; omega))); have RS3 := hid ((RS2.out.alloc (.cells #[.int .i64 0, .int .i64 0, .int .i64 0, .int .i64 0, .int .u64 0, .int .u64 0, .int .i64 0, .int .i64 0, .int .i64 0, .int .u64 0, .int .i64 0, .int .i64 0, .int .i64 0, .int .i64 0, .string ⟨#[]⟩] 40)).grown hg (by intro y; have := Option.some.inj y; have := HLT2.out; omega)); have RE3 := hid ((RE2.out.alloc (.cells #[.int .i64 0, .int .i64 0, .int .i64 0, .int .i64 0, .int .u64 0, .int .u64 0, .int .i64 0, .int .i64 0, .int .i64 0, .int .u64 0, .int .i64 0, .int .i64 0, .int .i64 0, .int .i64 0, .string ⟨#[]⟩] 40)).grown hg (by intro y; have := Option.some.inj y; have := HLT2.out; omega)); have c0 : w3.cell? ⟨w2.heap.size, 0, none⟩ = some (.int .i64 x.kind) := hr3.cell 0; have ce : w3.cell? ⟨w.heap.size + 1, 1, none⟩ = some (.int .i64 e.opn) := RE3.out.cell 1; have clv : w3.cell? ⟨g, o + k * 33 + 3, none⟩ = some (.int .i64 X.1.lv) := HRG.out _ HB3.out 3 _ rfl; clear hr3 hg))
        go_roundw
        case rel => exact ⟨k + 1, by omega, by go_num, e, HX, RS3, RE3, HB3⟩
        case measure => simp [intOf]; omega
      cases hop : (e.opn == 0)
      case false =>
        have HX : Hid (fstQ (M.take (k + 1)) n v = e) := hid (by rw [HQ.out, if_neg (fun h => by rw [h.2.2] at hop; cases hop)])
        clear HQ h1
        go_wp2_with (first
          | ((with_reducible show wpList _ _ _ ({ dst := some 23, op := _, type := _, pos := _, after := _, guard := _ } :: _) _ _); refine wpList_load_mid rfl 45 (.tmp 22) rfl g (o + k * 33) rfl (Array.toList (X.1.cells X.2)) _ (HRG.out _ HBE.out) Tryz.underlying45 rfl (by exact HZS.out) ?_)
          | (go_at_call 12; refine (HS.out _ HBE.out).mono ?_; rintro y w2 ⟨rfl, hb⟩; have HB2 := hid (HBE.out.trans (hb.mono HBE.out.size)); have RS2 := hid (RS.out.below hb RS.out.lt); have RE2 := hid (RE.out.below hb RE.out.lt); have HLT2 := hid (show w.heap.size + 1 < w2.heap.size by have := RE2.out.lt; omega); clear hb)
          | ((with_reducible show wpList _ _ _ ({ dst := none, op := .store _ (.tmp 10) (.tmp 25), type := _, pos := _, after := _, guard := _ } :: _) _ _); refine wpl_store_st rfl (.tmp 10) (.tmp 25) rfl HZI.out (w2.heap.size) (#[.int .i64 0, .int .i64 0, .int .i64 0, .int .i64 0, .int .u64 0, .int .u64 0, .int .i64 0, .int .i64 0, .int .i64 0, .int .u64 0, .int .i64 0, .int .i64 0, .int .i64 0, .int .i64 0, .string ⟨#[]⟩]) (x.cells) rfl rfl (Row.new _ _ _) ?_ (hid (by first | rfl | simp)) (hid (by first | rfl | simp)) (hid (itc_one _)); intro w3 hr3 hg; have R3 := hid hr3; have HB3 := hid ((HB2.out.alloc HB2.out.size (.cells #[.int .i64 0, .int .i64 0, .int .i64 0, .int .i64 0, .int .u64 0, .int .u64 0, .int .i64 0, .int .i64 0, .int .i64 0, .int .u64 0, .int .i64 0, .int .i64 0, .int .i64 0, .int .i64 0, .string ⟨#[]⟩] 40)).trans (below_grown hg (by have := HB2.out.size; omega) (by simp; have := HB2.out.size; omega))); have RS3 := hid ((RS2.out.alloc (.cells #[.int .i64 0, .int .i64 0, .int .i64 0, .int .i64 0, .int .u64 0, .int .u64 0, .int .i64 0, .int .i64 0, .int .i64 0, .int .u64 0, .int .i64 0, .int .i64 0, .int .i64 0, .int .i64 0, .string ⟨#[]⟩] 40)).grown hg (by intro y; have := Option.some.inj y; have := HLT2.out; omega)); have RE3 := hid ((RE2.out.alloc (.cells #[.int .i64 0, .int .i64 0, .int .i64 0, .int .i64 0, .int .u64 0, .int .u64 0, .int .i64 0, .int .i64 0, .int .i64 0, .int .u64 0, .int .i64 0, .int .i64 0, .int .i64 0, .int .i64 0, .string ⟨#[]⟩] 40)).grown hg (by intro y; have := Option.some.inj y; have := HLT2.out; omega)); have c0 : w3.cell? ⟨w2.heap.size, 0, none⟩ = some (.int .i64 x.kind) := hr3.cell 0; have ce : w3.cell? ⟨w.heap.size + 1, 1, none⟩ = some (.int .i64 e.opn) := RE3.out.cell 1; have clv : w3.cell? ⟨g, o + k * 33 + 3, none⟩ = some (.int .i64 X.1.lv) := HRG.out _ HB3.out 3 _ rfl; clear hr3 hg))
        go_roundw
        case rel => exact ⟨k + 1, by omega, by go_num, e, HX, RS3, RE3, HB3⟩
        case measure => simp [intOf]; omega
      have HX : Hid (fstQ (M.take (k + 1)) n v = x.entry) := hid (by rw [HQ.out, if_pos ⟨h1, by simpa using hk1, by simpa using hop⟩])
      clear HQ h1
      go_wp2_with (first
        | ((with_reducible show wpList _ _ _ ({ dst := some 23, op := _, type := _, pos := _, after := _, guard := _ } :: _) _ _); refine wpList_load_mid rfl 45 (.tmp 22) rfl g (o + k * 33) rfl (Array.toList (X.1.cells X.2)) _ (HRG.out _ HBE.out) Tryz.underlying45 rfl (by exact HZS.out) ?_)
        | (go_at_call 12; refine (HS.out _ HBE.out).mono ?_; rintro y w2 ⟨rfl, hb⟩; have HB2 := hid (HBE.out.trans (hb.mono HBE.out.size)); have RS2 := hid (RS.out.below hb RS.out.lt); have RE2 := hid (RE.out.below hb RE.out.lt); have HLT2 := hid (show w.heap.size + 1 < w2.heap.size by have := RE2.out.lt; omega); clear hb)
        | ((with_reducible show wpList _ _ _ ({ dst := none, op := .store _ (.tmp 10) (.tmp 25), type := _, pos := _, after := _, guard := _ } :: _) _ _); refine wpl_store_st rfl (.tmp 10) (.tmp 25) rfl HZI.out (w2.heap.size) (#[.int .i64 0, .int .i64 0, .int .i64 0, .int .i64 0, .int .u64 0, .int .u64 0, .int .i64 0, .int .i64 0, .int .i64 0, .int .u64 0, .int .i64 0, .int .i64 0, .int .i64 0, .int .i64 0, .string ⟨#[]⟩]) (x.cells) rfl rfl (Row.new _ _ _) ?_ (hid (by first | rfl | simp)) (hid (by first | rfl | simp)) (hid (itc_one _)); intro w3 hr3 hg; have R3 := hid hr3; have HB3 := hid ((HB2.out.alloc HB2.out.size (.cells #[.int .i64 0, .int .i64 0, .int .i64 0, .int .i64 0, .int .u64 0, .int .u64 0, .int .i64 0, .int .i64 0, .int .i64 0, .int .u64 0, .int .i64 0, .int .i64 0, .int .i64 0, .int .i64 0, .string ⟨#[]⟩] 40)).trans (below_grown hg (by have := HB2.out.size; omega) (by simp; have := HB2.out.size; omega))); have RS3 := hid ((RS2.out.alloc (.cells #[.int .i64 0, .int .i64 0, .int .i64 0, .int .i64 0, .int .u64 0, .int .u64 0, .int .i64 0, .int .i64 0, .int .i64 0, .int .u64 0, .int .i64 0, .int .i64 0, .int .i64 0, .int .i64 0, .string ⟨#[]⟩] 40)).grown hg (by intro y; have := Option.some.inj y; have := HLT2.out; omega)); have RE3 := hid ((RE2.out.alloc (.cells #[.int .i64 0, .int .i64 0, .int .i64 0, .int .i64 0, .int .u64 0, .int .u64 0, .int .i64 0, .int .i64 0, .int .i64 0, .int .u64 0, .int .i64 0, .int .i64 0, .int .i64 0, .int .i64 0, .string ⟨#[]⟩] 40)).grown hg (by intro y; have := Option.some.inj y; have := HLT2.out; omega)); have c0 : w3.cell? ⟨w2.heap.size, 0, none⟩ = some (.int .i64 x.kind) := hr3.cell 0; have ce : w3.cell? ⟨w.heap.size + 1, 1, none⟩ = some (.int .i64 e.opn) := RE3.out.cell 1; have clv : w3.cell? ⟨g, o + k * 33 + 3, none⟩ = some (.int .i64 X.1.lv) := HRG.out _ HB3.out 3 _ rfl; clear hr3 hg)
        | ((with_reducible show wpList _ _ _ ({ dst := some 44, op := _, type := _, pos := _, after := _, guard := _ } :: _) _ _); refine wpList_load_mid rfl 35 (.tmp 43) rfl w2.heap.size (6) rfl (x.entry.cells.toList) _ (it_entry R3.out) Tryz.underlying35 rfl (by exact HZE.out) ?_)
        | ((with_reducible show wpList _ _ _ ({ dst := none, op := .store _ (.tmp 8) (.tmp 44), type := _, pos := _, after := _, guard := _ } :: _) _ _); refine wpl_store_st rfl (.tmp 8) (.tmp 44) rfl HZE.out (w.heap.size + 1) (e.cells) (x.entry.cells) rfl rfl (RE3.out) ?_ (hid (by first | rfl | simp)) (hid (by first | rfl | simp)) (hid (ecells_one _)); intro w9 hr9 hg9))
      go_roundw
      case rel => exact ⟨k + 1, by omega, by go_num, x.entry, HX, hid (RS3.out.grown hg9 (by intro y; have := Option.some.inj y; omega)), hid hr9, hid (HB3.out.trans (below_grown hg9 (by omega) HB3.out.size))⟩
      case measure => simp [intOf]; omega
    · obtain rfl : k = q := by omega
      have HE : Hid (END = e) := hid (by rw [← HEND.out]; exact HT.out)
      obtain rfl := HE.out
      clear HE HT HSN HEND
      obtain ⟨wL, hwL⟩ : ∃ W, W = wr := ⟨wr, rfl⟩
      subst hwL
      have HOS := hid (fun (j : Nat) (h : j < M.length) => @okF_snoc M n v (stubS END) j h)
      generalize stubS END = s at *
      go_wp2_with fail
      go_loopw [11] (fun i wr => ∃ j : Nat, j ≤ k ∧ i = .int .i64 (j : Int) ∧ Hid (∀ x ∈ M.take j, okF n v s x) ∧ Hid (Row wr w.heap.size 35 (#[.int .i64 0, .int .i64 0, .int .i64 0, .int .u64 0, .int .i64 0, .int .i64 0, .int .i64 0, .int .i64 0, .string ⟨#[]⟩] : Array Value).toList) ∧ Hid (Row wr (w.heap.size + 1) 35 END.cells.toList) ∧ Hid (Below w.heap.size w wr)) (fun i _ => k - (intOf i).toNat)
      case atStart => exact ⟨0, by omega, rfl, hid (fun x hx => by cases hx), RS, RE, HBE⟩
      case round =>
        clear RS RE HBE
        obtain ⟨j, hj, rfl, HT, RS, RE, HBE⟩ := hrel
        by_cases hlt : j < k
        · have hkl : j < M.length := by rw [← HN.out]; exact hlt
          obtain ⟨g, o, rfl, -, hrg⟩ := (HR.out wr HBE.out).at_ j hkl
          have HRG : Hid (∀ W, Below w.heap.size w W → W.rangeAt g (o + j * 33) (Array.toList (M[j].1.cells M[j].2))) := hid fun W hW => by
            obtain ⟨g', o', e', -, h⟩ := (HR.out W hW).at_ j hkl
            cases e'
            exact h
          have HS := hid (HSY.out M[j] (List.getElem_mem hkl))
          have HOK := hid (HOS.out j hkl HT.out)
          have HNO : Hid (¬ okF n v s M[j] → sb = false) := hid fun h => by
            cases hsb : sb
            · rfl
            · exact absurd ((HSQ.out.1 hsb).1 _ (List.getElem_mem hkl)) h
          have HOF : Hid (okF n v s M[j] ↔ (M[j].1.lv < v ∨ (saysC M[j].1 n).kind = 3) ∨ ((saysC M[j].1 n).kind ≠ 0 ∧ (saysC M[j].1 n).stub = s)) := hid Iff.rfl
          generalize M[j] = X at *
          have hi : (j : Int) < (k : Int) := by omega
          have hi0 : (0 : Int) ≤ (j : Int) := by omega
          have HLT : Hid (w.heap.size + 1 < wr.heap.size) := hid RE.out.lt
          generalize saysC X.1 n = x at *
          clear hrg hkl HR HT HSY HOS HSQ
          by_cases h1 : X.1.lv < v
          · have d1 : decide (X.1.lv < v) = true := decide_eq_true h1
            have HX := hid (HOK.out (HOF.out.2 (.inl (.inl h1))))
            clear h1
            go_wp2_with (first
              | ((with_reducible show wpList _ _ _ ({ dst := some 54, op := _, type := _, pos := _, after := _, guard := _ } :: _) _ _); refine wpList_load_mid rfl 45 (.tmp 53) rfl g (o + j * 33) rfl (Array.toList (X.1.cells X.2)) _ (HRG.out _ HBE.out) Tryz.underlying45 rfl (by exact HZS.out) ?_)
              | (go_at_call 12; refine (HS.out _ HBE.out).mono ?_; rintro y w2 ⟨rfl, hb⟩; have HB2 := hid (HBE.out.trans (hb.mono HBE.out.size)); have RS2 := hid (RS.out.below hb RS.out.lt); have RE2 := hid (RE.out.below hb RE.out.lt); have HLT2 := hid (show w.heap.size + 1 < w2.heap.size by have := RE2.out.lt; omega); clear hb)
              | ((with_reducible show wpList _ _ _ ({ dst := none, op := .store _ (.tmp 12) (.tmp 56), type := _, pos := _, after := _, guard := _ } :: _) _ _); refine wpl_store_st rfl (.tmp 12) (.tmp 56) rfl HZI.out (w2.heap.size) (#[.int .i64 0, .int .i64 0, .int .i64 0, .int .i64 0, .int .u64 0, .int .u64 0, .int .i64 0, .int .i64 0, .int .i64 0, .int .u64 0, .int .i64 0, .int .i64 0, .int .i64 0, .int .i64 0, .string ⟨#[]⟩]) (x.cells) rfl rfl (Row.new _ _ _) ?_ (hid (by first | rfl | simp)) (hid (by first | rfl | simp)) (hid (itc_one _)); intro w3 hr3 hg; have R3 := hid hr3; have HB3 := hid ((HB2.out.alloc HB2.out.size (.cells #[.int .i64 0, .int .i64 0, .int .i64 0, .int .i64 0, .int .u64 0, .int .u64 0, .int .i64 0, .int .i64 0, .int .i64 0, .int .u64 0, .int .i64 0, .int .i64 0, .int .i64 0, .int .i64 0, .string ⟨#[]⟩] 40)).trans (below_grown hg (by have := HB2.out.size; omega) (by simp; have := HB2.out.size; omega))); have RS3 := hid ((RS2.out.alloc (.cells #[.int .i64 0, .int .i64 0, .int .i64 0, .int .i64 0, .int .u64 0, .int .u64 0, .int .i64 0, .int .i64 0, .int .i64 0, .int .u64 0, .int .i64 0, .int .i64 0, .int .i64 0, .int .i64 0, .string ⟨#[]⟩] 40)).grown hg (by intro y; have := Option.some.inj y; have := HLT2.out; omega)); have RE3 := hid ((RE2.out.alloc (.cells #[.int .i64 0, .int .i64 0, .int .i64 0, .int .i64 0, .int .u64 0, .int .u64 0, .int .i64 0, .int .i64 0, .int .i64 0, .int .u64 0, .int .i64 0, .int .i64 0, .int .i64 0, .int .i64 0, .string ⟨#[]⟩] 40)).grown hg (by intro y; have := Option.some.inj y; have := HLT2.out; omega)); have c0 : w3.cell? ⟨w2.heap.size, 0, none⟩ = some (.int .i64 x.kind) := hr3.cell 0; have ce : w3.cell? ⟨w.heap.size + 1, 1, none⟩ = some (.int .i64 END.opn) := RE3.out.cell 1; have clv : w3.cell? ⟨g, o + j * 33 + 3, none⟩ = some (.int .i64 X.1.lv) := HRG.out _ HB3.out 3 _ rfl; clear hr3 hg))
            go_roundw
            case rel => exact ⟨j + 1, by omega, by go_num, HX, RS3, RE3, HB3⟩
            case measure => simp [intOf]; omega
          have d1 : decide (X.1.lv < v) = false := decide_eq_false h1
          cases hk3 : (x.kind == 3)
          case true =>
            have HX := hid (HOK.out (HOF.out.2 (.inl (.inr (by simpa using hk3)))))
            clear h1
            go_wp2_with (first
              | ((with_reducible show wpList _ _ _ ({ dst := some 54, op := _, type := _, pos := _, after := _, guard := _ } :: _) _ _); refine wpList_load_mid rfl 45 (.tmp 53) rfl g (o + j * 33) rfl (Array.toList (X.1.cells X.2)) _ (HRG.out _ HBE.out) Tryz.underlying45 rfl (by exact HZS.out) ?_)
              | (go_at_call 12; refine (HS.out _ HBE.out).mono ?_; rintro y w2 ⟨rfl, hb⟩; have HB2 := hid (HBE.out.trans (hb.mono HBE.out.size)); have RS2 := hid (RS.out.below hb RS.out.lt); have RE2 := hid (RE.out.below hb RE.out.lt); have HLT2 := hid (show w.heap.size + 1 < w2.heap.size by have := RE2.out.lt; omega); clear hb)
              | ((with_reducible show wpList _ _ _ ({ dst := none, op := .store _ (.tmp 12) (.tmp 56), type := _, pos := _, after := _, guard := _ } :: _) _ _); refine wpl_store_st rfl (.tmp 12) (.tmp 56) rfl HZI.out (w2.heap.size) (#[.int .i64 0, .int .i64 0, .int .i64 0, .int .i64 0, .int .u64 0, .int .u64 0, .int .i64 0, .int .i64 0, .int .i64 0, .int .u64 0, .int .i64 0, .int .i64 0, .int .i64 0, .int .i64 0, .string ⟨#[]⟩]) (x.cells) rfl rfl (Row.new _ _ _) ?_ (hid (by first | rfl | simp)) (hid (by first | rfl | simp)) (hid (itc_one _)); intro w3 hr3 hg; have R3 := hid hr3; have HB3 := hid ((HB2.out.alloc HB2.out.size (.cells #[.int .i64 0, .int .i64 0, .int .i64 0, .int .i64 0, .int .u64 0, .int .u64 0, .int .i64 0, .int .i64 0, .int .i64 0, .int .u64 0, .int .i64 0, .int .i64 0, .int .i64 0, .int .i64 0, .string ⟨#[]⟩] 40)).trans (below_grown hg (by have := HB2.out.size; omega) (by simp; have := HB2.out.size; omega))); have RS3 := hid ((RS2.out.alloc (.cells #[.int .i64 0, .int .i64 0, .int .i64 0, .int .i64 0, .int .u64 0, .int .u64 0, .int .i64 0, .int .i64 0, .int .i64 0, .int .u64 0, .int .i64 0, .int .i64 0, .int .i64 0, .int .i64 0, .string ⟨#[]⟩] 40)).grown hg (by intro y; have := Option.some.inj y; have := HLT2.out; omega)); have RE3 := hid ((RE2.out.alloc (.cells #[.int .i64 0, .int .i64 0, .int .i64 0, .int .i64 0, .int .u64 0, .int .u64 0, .int .i64 0, .int .i64 0, .int .i64 0, .int .u64 0, .int .i64 0, .int .i64 0, .int .i64 0, .int .i64 0, .string ⟨#[]⟩] 40)).grown hg (by intro y; have := Option.some.inj y; have := HLT2.out; omega)); have c0 : w3.cell? ⟨w2.heap.size, 0, none⟩ = some (.int .i64 x.kind) := hr3.cell 0; have ce : w3.cell? ⟨w.heap.size + 1, 1, none⟩ = some (.int .i64 END.opn) := RE3.out.cell 1; have clv : w3.cell? ⟨g, o + j * 33 + 3, none⟩ = some (.int .i64 X.1.lv) := HRG.out _ HB3.out 3 _ rfl; clear hr3 hg))
            go_roundw
            case rel => exact ⟨j + 1, by omega, by go_num, HX, RS3, RE3, HB3⟩
            case measure => simp [intOf]; omega
          have hk3' : x.kind ≠ 3 := by intro h; rw [h] at hk3; cases hk3
          cases hk0 : (x.kind == 0)
          case true =>
            have HX := hid (HNO.out (fun h => by
              rcases HOF.out.1 h with (h | h) | h
              · exact h1 h
              · exact hk3' h
              · exact h.1 (by simpa using hk0)))
            have HK0 := hid hk0
            clear h1 hk3'
            go_wp2_with (first
              | ((with_reducible show wpList _ _ _ ({ dst := some 54, op := _, type := _, pos := _, after := _, guard := _ } :: _) _ _); refine wpList_load_mid rfl 45 (.tmp 53) rfl g (o + j * 33) rfl (Array.toList (X.1.cells X.2)) _ (HRG.out _ HBE.out) Tryz.underlying45 rfl (by exact HZS.out) ?_)
              | (go_at_call 12; refine (HS.out _ HBE.out).mono ?_; rintro y w2 ⟨rfl, hb⟩; have HB2 := hid (HBE.out.trans (hb.mono HBE.out.size)); have RS2 := hid (RS.out.below hb RS.out.lt); have RE2 := hid (RE.out.below hb RE.out.lt); have HLT2 := hid (show w.heap.size + 1 < w2.heap.size by have := RE2.out.lt; omega); clear hb)
              | ((with_reducible show wpList _ _ _ ({ dst := none, op := .store _ (.tmp 12) (.tmp 56), type := _, pos := _, after := _, guard := _ } :: _) _ _); refine wpl_store_st rfl (.tmp 12) (.tmp 56) rfl HZI.out (w2.heap.size) (#[.int .i64 0, .int .i64 0, .int .i64 0, .int .i64 0, .int .u64 0, .int .u64 0, .int .i64 0, .int .i64 0, .int .i64 0, .int .u64 0, .int .i64 0, .int .i64 0, .int .i64 0, .int .i64 0, .string ⟨#[]⟩]) (x.cells) rfl rfl (Row.new _ _ _) ?_ (hid (by first | rfl | simp)) (hid (by first | rfl | simp)) (hid (itc_one _)); intro w3 hr3 hg; have R3 := hid hr3; have HB3 := hid ((HB2.out.alloc HB2.out.size (.cells #[.int .i64 0, .int .i64 0, .int .i64 0, .int .i64 0, .int .u64 0, .int .u64 0, .int .i64 0, .int .i64 0, .int .i64 0, .int .u64 0, .int .i64 0, .int .i64 0, .int .i64 0, .int .i64 0, .string ⟨#[]⟩] 40)).trans (below_grown hg (by have := HB2.out.size; omega) (by simp; have := HB2.out.size; omega))); have RS3 := hid ((RS2.out.alloc (.cells #[.int .i64 0, .int .i64 0, .int .i64 0, .int .i64 0, .int .u64 0, .int .u64 0, .int .i64 0, .int .i64 0, .int .i64 0, .int .u64 0, .int .i64 0, .int .i64 0, .int .i64 0, .int .i64 0, .string ⟨#[]⟩] 40)).grown hg (by intro y; have := Option.some.inj y; have := HLT2.out; omega)); have RE3 := hid ((RE2.out.alloc (.cells #[.int .i64 0, .int .i64 0, .int .i64 0, .int .i64 0, .int .u64 0, .int .u64 0, .int .i64 0, .int .i64 0, .int .i64 0, .int .u64 0, .int .i64 0, .int .i64 0, .int .i64 0, .int .i64 0, .string ⟨#[]⟩] 40)).grown hg (by intro y; have := Option.some.inj y; have := HLT2.out; omega)); have c0 : w3.cell? ⟨w2.heap.size, 0, none⟩ = some (.int .i64 x.kind) := hr3.cell 0; have ce : w3.cell? ⟨w.heap.size + 1, 1, none⟩ = some (.int .i64 END.opn) := RE3.out.cell 1; have clv : w3.cell? ⟨g, o + j * 33 + 3, none⟩ = some (.int .i64 X.1.lv) := HRG.out _ HB3.out 3 _ rfl; clear hr3 hg))
            refine wp_region_held_drew (S := (fun W => Row W w2.heap.size 40 x.cells.toList ∧ Row W (w.heap.size + 1) 35 END.cells.toList ∧ Row W w.heap.size 35 (#[.int .i64 0, .int .i64 0, .int .i64 0, .int .u64 0, .int .i64 0, .int .i64 0, .int .i64 0, .int .i64 0, .string ⟨#[]⟩] : Array Value).toList ∧ Below w.heap.size w W)) (by kernel_rfl) (⟨R3.out.drew, RE3.out.drew, RS3.out.drew, HB3.out.drew⟩) (fun hH => ?_)
            refine tk_ (i := 0) (v := .pointer (some ⟨w2.heap.size, 0, none⟩)) rfl (Or.inl ⟨by rfl, fun w' hw' => by clear hw'; go_simp⟩) hH ?_
            simp only [Act.put, la1, la3, la4, la5, la6]
            refine tk_ (i := 1) (v := .int .i64 x.kind) rfl (Or.inl ⟨by rfl, fun w' hw' => by have h : w'.cell? ⟨w2.heap.size, 0, none⟩ = some (.int .i64 x.kind) := hw'.1.cell 0; clear hw'; go_simp⟩) hH ?_
            simp only [Act.put, la1, la2, la3, la4, la5, la6]
            refine tk_ (i := 2) (v := .bool true) rfl (Or.inl ⟨by rfl, fun w' hw' => by clear hw'; have h := HK0.out; go_simp⟩) hH ?_
            simp only [Act.put, la1, la2, la3, la4, la5, la6]
            refine tk_ (i := 3) (v := .bool true) rfl (Or.inl ⟨by kernel_rfl, fun w' _ => by kernel_rfl⟩) hH ?_
            simp only [Act.put, la1, la2, la3, la4, la5, la6]
            refine tk_ (i := 4) (v := undef) rfl (Or.inr ⟨by kernel_rfl, rfl⟩) hH ?_
            simp only [Act.put, la1, la2, la3, la4, la5, la6]
            refine tk_ (i := 5) (v := undef) rfl (Or.inr ⟨by kernel_rfl, rfl⟩) hH ?_
            simp only [Act.put, la1, la2, la3, la4, la5, la6]
            refine tk_ (i := 6) (v := undef) rfl (Or.inr ⟨by kernel_rfl, rfl⟩) hH ?_
            simp only [Act.put, la1, la2, la3, la4, la5, la6]
            refine tk_ (i := 7) (v := undef) rfl (Or.inr ⟨by kernel_rfl, rfl⟩) hH ?_
            simp only [Act.put, la1, la2, la3, la4, la5, la6]
            refine tk_ (i := 8) (v := undef) rfl (Or.inr ⟨by kernel_rfl, rfl⟩) hH ?_
            simp only [Act.put, la1, la2, la3, la4, la5, la6]
            refine tk_ (i := 9) (v := .bool true) rfl (Or.inl ⟨by kernel_rfl, fun w' _ => by kernel_rfl⟩) hH ?_
            simp only [Act.put, la1, la2, la3, la4, la5, la6]
            refine wpAnyH_done (by kernel_rfl) ?_ _
            try simp only [Act.put, la1, la2, la3, la4, la5, la6]
            have RE4 := hid hH.2.1
            have RS4 := hid hH.2.2.1
            have HB4 := hid hH.2.2.2
            clear hH
            go_wp2_with (first
              | ((with_reducible show wpList _ _ _ ({ dst := some 79, op := _, type := _, pos := _, after := _, guard := _ } :: _) _ _); refine wpList_load_row rfl 35 (.tmp 8) rfl (w.heap.size + 1) rfl 35 (END.cells) (0, 0) _ (Row.arr RE4.out) Tryz.underlying35 rfl HZE.out ?_)
              | ((with_reducible show wpList _ _ _ ({ dst := none, op := .store _ (.tmp 6) (.tmp 79), type := _, pos := _, after := _, guard := _ } :: _) _ _); refine wpl_store_st rfl (.tmp 6) (.tmp 79) rfl HZE.out (w.heap.size) (#[.int .i64 0, .int .i64 0, .int .i64 0, .int .u64 0, .int .i64 0, .int .i64 0, .int .i64 0, .int .i64 0, .string ⟨#[]⟩]) (END.cells) rfl rfl (RS4.out) ?_ (hid (by first | rfl | simp)) (hid (by first | rfl | simp)) (hid (ecells_one _)); intro w9 hr9 hg9))
            rw [HX.out]
            exact bodyPost_ret (v := .tuple #[.agg END.cells, .bool false]) (results_cell1 rfl _ _ w.heap.size 35 END.cells (0, 0) _ _ rfl rfl (Row.arr (cs := END.cells) hr9) Tryz.underlying35 rfl HZE.out) rfl ⟨rfl, HB4.out.trans (below_grown hg9 (Nat.le_refl _) HB4.out.size)⟩
          case false =>
            have hk0' : x.kind ≠ 0 := by intro h; rw [h] at hk0; cases hk0
            have HK0 := hid hk0
            by_cases hst : x.stub = s
            · have HX := hid (HOK.out (HOF.out.2 (.inr ⟨hk0', hst⟩)))
              have HEQ : Hid (decide (x.stub = s) = true) := hid (decide_eq_true hst)
              clear h1 hk3' hk0' hst hk0
              go_wp2_with (first
              | ((with_reducible show wpList _ _ _ ({ dst := some 54, op := _, type := _, pos := _, after := _, guard := _ } :: _) _ _); refine wpList_load_mid rfl 45 (.tmp 53) rfl g (o + j * 33) rfl (Array.toList (X.1.cells X.2)) _ (HRG.out _ HBE.out) Tryz.underlying45 rfl (by exact HZS.out) ?_)
              | (go_at_call 12; refine (HS.out _ HBE.out).mono ?_; rintro y w2 ⟨rfl, hb⟩; have HB2 := hid (HBE.out.trans (hb.mono HBE.out.size)); have RS2 := hid (RS.out.below hb RS.out.lt); have RE2 := hid (RE.out.below hb RE.out.lt); have HLT2 := hid (show w.heap.size + 1 < w2.heap.size by have := RE2.out.lt; omega); clear hb)
              | ((with_reducible show wpList _ _ _ ({ dst := none, op := .store _ (.tmp 12) (.tmp 56), type := _, pos := _, after := _, guard := _ } :: _) _ _); refine wpl_store_st rfl (.tmp 12) (.tmp 56) rfl HZI.out (w2.heap.size) (#[.int .i64 0, .int .i64 0, .int .i64 0, .int .i64 0, .int .u64 0, .int .u64 0, .int .i64 0, .int .i64 0, .int .i64 0, .int .u64 0, .int .i64 0, .int .i64 0, .int .i64 0, .int .i64 0, .string ⟨#[]⟩]) (x.cells) rfl rfl (Row.new _ _ _) ?_ (hid (by first | rfl | simp)) (hid (by first | rfl | simp)) (hid (itc_one _)); intro w3 hr3 hg; have R3 := hid hr3; have HB3 := hid ((HB2.out.alloc HB2.out.size (.cells #[.int .i64 0, .int .i64 0, .int .i64 0, .int .i64 0, .int .u64 0, .int .u64 0, .int .i64 0, .int .i64 0, .int .i64 0, .int .u64 0, .int .i64 0, .int .i64 0, .int .i64 0, .int .i64 0, .string ⟨#[]⟩] 40)).trans (below_grown hg (by have := HB2.out.size; omega) (by simp; have := HB2.out.size; omega))); have RS3 := hid ((RS2.out.alloc (.cells #[.int .i64 0, .int .i64 0, .int .i64 0, .int .i64 0, .int .u64 0, .int .u64 0, .int .i64 0, .int .i64 0, .int .i64 0, .int .u64 0, .int .i64 0, .int .i64 0, .int .i64 0, .int .i64 0, .string ⟨#[]⟩] 40)).grown hg (by intro y; have := Option.some.inj y; have := HLT2.out; omega)); have RE3 := hid ((RE2.out.alloc (.cells #[.int .i64 0, .int .i64 0, .int .i64 0, .int .i64 0, .int .u64 0, .int .u64 0, .int .i64 0, .int .i64 0, .int .i64 0, .int .u64 0, .int .i64 0, .int .i64 0, .int .i64 0, .int .i64 0, .string ⟨#[]⟩] 40)).grown hg (by intro y; have := Option.some.inj y; have := HLT2.out; omega)); have c0 : w3.cell? ⟨w2.heap.size, 0, none⟩ = some (.int .i64 x.kind) := hr3.cell 0; have ce : w3.cell? ⟨w.heap.size + 1, 1, none⟩ = some (.int .i64 END.opn) := RE3.out.cell 1; have clv : w3.cell? ⟨g, o + j * 33 + 3, none⟩ = some (.int .i64 X.1.lv) := HRG.out _ HB3.out 3 _ rfl; clear hr3 hg))
              refine wp_region_held_drew (S := (fun W => Row W w2.heap.size 40 x.cells.toList ∧ Row W (w.heap.size + 1) 35 END.cells.toList ∧ Row W w.heap.size 35 (#[.int .i64 0, .int .i64 0, .int .i64 0, .int .u64 0, .int .i64 0, .int .i64 0, .int .i64 0, .int .i64 0, .string ⟨#[]⟩] : Array Value).toList ∧ Below w.heap.size w W)) (by kernel_rfl) (⟨R3.out.drew, RE3.out.drew, RS3.out.drew, HB3.out.drew⟩) (fun hH => ?_)
              refine tk_ (i := 0) (v := .pointer (some ⟨w2.heap.size, 0, none⟩)) rfl (Or.inl ⟨by rfl, fun w' hw' => by clear hw'; go_simp⟩) hH ?_
              simp only [Act.put, la1, la3, la4, la5, la6]
              refine tk_ (i := 1) (v := .int .i64 x.kind) rfl (Or.inl ⟨by rfl, fun w' hw' => by have h : w'.cell? ⟨w2.heap.size, 0, none⟩ = some (.int .i64 x.kind) := hw'.1.cell 0; clear hw'; go_simp⟩) hH ?_
              simp only [Act.put, la1, la2, la3, la4, la5, la6]
              refine tk_ (i := 2) (v := .bool false) rfl (Or.inl ⟨by rfl, fun w' hw' => by clear hw'; have h := HK0.out; go_simp⟩) hH ?_
              simp only [Act.put, la1, la2, la3, la4, la5, la6]
              refine tk_ (i := 3) (v := .bool false) rfl (Or.inl ⟨by kernel_rfl, fun w' _ => by kernel_rfl⟩) hH ?_
              simp only [Act.put, la1, la2, la3, la4, la5, la6]
              refine tk_ (i := 4) (v := .pointer (some ⟨w2.heap.size, 1, none⟩)) rfl (Or.inl ⟨by kernel_rfl, fun w' _ => by kernel_rfl⟩) hH ?_
              simp only [Act.put, la1, la2, la3, la4, la5, la6]
              refine tk_ (i := 5) (v := .agg (x.stub.cells)) rfl (yieldsIf_load_mid (by kernel_rfl) 38 (.tmp 73) rfl (w2.heap.size) 1 rfl (Array.toList (x.stub.cells)) _ (fun W hW => it_stub hW.1) Tryz.underlying38 rfl (by exact HZT.out)) hH ?_
              simp only [Act.put, la1, la2, la3, la4, la5, la6]
              refine tk_ (i := 6) (v := .agg (END.cells)) rfl (yieldsIf_load_mid (by kernel_rfl) 35 (.tmp 8) rfl (w.heap.size + 1) 0 rfl (Array.toList (END.cells)) _ (fun W hW => Row.range hW.2.1) Tryz.underlying35 rfl (by exact HZE.out)) hH ?_
              simp only [Act.put, la1, la2, la3, la4, la5, la6]
              refine rd1 (i := 7) (by kernel_rfl) rfl (fun K hK => ?_)
              rw [if_pos (by kernel_rfl)]
              go_simp
              go_at_call 14
              refine (HSB.out _ hH.2.2.2).mono ?_
              rintro y w4 ⟨rfl, hb⟩
              go_wp2_with fail
              refine hK.out _ _ (⟨hH.1.below hb hH.1.lt, hH.2.1.below hb hH.2.1.lt, hH.2.2.1.below hb hH.2.2.1.lt, hH.2.2.2.trans (hb.mono hH.2.2.2.size)⟩) (fun hH => ?_)
              clear hK K
              try simp only [Act.put, la1, la2, la3, la4, la5, la6]
              refine tk_ (i := 8) (v := .bool (!true)) rfl (yields_nes (by kernel_rfl) x.stub s true HEQ (.tmp 74) (.tmp 76) _ rfl (by kernel_rfl) (by kernel_rfl)) hH ?_
              simp only [Act.put, la1, la2, la3, la4, la5, la6]
              refine tk_ (i := 9) (v := .bool false) rfl (Or.inl ⟨by kernel_rfl, fun w' _ => by kernel_rfl⟩) hH ?_
              simp only [Act.put, la1, la2, la3, la4, la5, la6]
              refine wpAnyH_done (by kernel_rfl) ?_ _
              try simp only [Act.put, la1, la2, la3, la4, la5, la6]
              have RE4 := hid hH.2.1
              have RS4 := hid hH.2.2.1
              have HB4 := hid hH.2.2.2
              clear hH
              go_wp2_with fail
              go_roundw
              case rel => exact ⟨j + 1, by omega, by go_num, HX, RS4, RE4, HB4⟩
              case measure => simp [intOf]; omega
            · have HX := hid (HNO.out (fun h => by
                rcases HOF.out.1 h with (h | h) | h
                · exact h1 h
                · exact hk3' h
                · exact hst h.2))
              have HEQ : Hid (decide (x.stub = s) = false) := hid (decide_eq_false hst)
              clear h1 hk3' hk0' hst hk0
              go_wp2_with (first
              | ((with_reducible show wpList _ _ _ ({ dst := some 54, op := _, type := _, pos := _, after := _, guard := _ } :: _) _ _); refine wpList_load_mid rfl 45 (.tmp 53) rfl g (o + j * 33) rfl (Array.toList (X.1.cells X.2)) _ (HRG.out _ HBE.out) Tryz.underlying45 rfl (by exact HZS.out) ?_)
              | (go_at_call 12; refine (HS.out _ HBE.out).mono ?_; rintro y w2 ⟨rfl, hb⟩; have HB2 := hid (HBE.out.trans (hb.mono HBE.out.size)); have RS2 := hid (RS.out.below hb RS.out.lt); have RE2 := hid (RE.out.below hb RE.out.lt); have HLT2 := hid (show w.heap.size + 1 < w2.heap.size by have := RE2.out.lt; omega); clear hb)
              | ((with_reducible show wpList _ _ _ ({ dst := none, op := .store _ (.tmp 12) (.tmp 56), type := _, pos := _, after := _, guard := _ } :: _) _ _); refine wpl_store_st rfl (.tmp 12) (.tmp 56) rfl HZI.out (w2.heap.size) (#[.int .i64 0, .int .i64 0, .int .i64 0, .int .i64 0, .int .u64 0, .int .u64 0, .int .i64 0, .int .i64 0, .int .i64 0, .int .u64 0, .int .i64 0, .int .i64 0, .int .i64 0, .int .i64 0, .string ⟨#[]⟩]) (x.cells) rfl rfl (Row.new _ _ _) ?_ (hid (by first | rfl | simp)) (hid (by first | rfl | simp)) (hid (itc_one _)); intro w3 hr3 hg; have R3 := hid hr3; have HB3 := hid ((HB2.out.alloc HB2.out.size (.cells #[.int .i64 0, .int .i64 0, .int .i64 0, .int .i64 0, .int .u64 0, .int .u64 0, .int .i64 0, .int .i64 0, .int .i64 0, .int .u64 0, .int .i64 0, .int .i64 0, .int .i64 0, .int .i64 0, .string ⟨#[]⟩] 40)).trans (below_grown hg (by have := HB2.out.size; omega) (by simp; have := HB2.out.size; omega))); have RS3 := hid ((RS2.out.alloc (.cells #[.int .i64 0, .int .i64 0, .int .i64 0, .int .i64 0, .int .u64 0, .int .u64 0, .int .i64 0, .int .i64 0, .int .i64 0, .int .u64 0, .int .i64 0, .int .i64 0, .int .i64 0, .int .i64 0, .string ⟨#[]⟩] 40)).grown hg (by intro y; have := Option.some.inj y; have := HLT2.out; omega)); have RE3 := hid ((RE2.out.alloc (.cells #[.int .i64 0, .int .i64 0, .int .i64 0, .int .i64 0, .int .u64 0, .int .u64 0, .int .i64 0, .int .i64 0, .int .i64 0, .int .u64 0, .int .i64 0, .int .i64 0, .int .i64 0, .int .i64 0, .string ⟨#[]⟩] 40)).grown hg (by intro y; have := Option.some.inj y; have := HLT2.out; omega)); have c0 : w3.cell? ⟨w2.heap.size, 0, none⟩ = some (.int .i64 x.kind) := hr3.cell 0; have ce : w3.cell? ⟨w.heap.size + 1, 1, none⟩ = some (.int .i64 END.opn) := RE3.out.cell 1; have clv : w3.cell? ⟨g, o + j * 33 + 3, none⟩ = some (.int .i64 X.1.lv) := HRG.out _ HB3.out 3 _ rfl; clear hr3 hg))
              refine wp_region_held_drew (S := (fun W => Row W w2.heap.size 40 x.cells.toList ∧ Row W (w.heap.size + 1) 35 END.cells.toList ∧ Row W w.heap.size 35 (#[.int .i64 0, .int .i64 0, .int .i64 0, .int .u64 0, .int .i64 0, .int .i64 0, .int .i64 0, .int .i64 0, .string ⟨#[]⟩] : Array Value).toList ∧ Below w.heap.size w W)) (by kernel_rfl) (⟨R3.out.drew, RE3.out.drew, RS3.out.drew, HB3.out.drew⟩) (fun hH => ?_)
              refine tk_ (i := 0) (v := .pointer (some ⟨w2.heap.size, 0, none⟩)) rfl (Or.inl ⟨by rfl, fun w' hw' => by clear hw'; go_simp⟩) hH ?_
              simp only [Act.put, la1, la3, la4, la5, la6]
              refine tk_ (i := 1) (v := .int .i64 x.kind) rfl (Or.inl ⟨by rfl, fun w' hw' => by have h : w'.cell? ⟨w2.heap.size, 0, none⟩ = some (.int .i64 x.kind) := hw'.1.cell 0; clear hw'; go_simp⟩) hH ?_
              simp only [Act.put, la1, la2, la3, la4, la5, la6]
              refine tk_ (i := 2) (v := .bool false) rfl (Or.inl ⟨by rfl, fun w' hw' => by clear hw'; have h := HK0.out; go_simp⟩) hH ?_
              simp only [Act.put, la1, la2, la3, la4, la5, la6]
              refine tk_ (i := 3) (v := .bool false) rfl (Or.inl ⟨by kernel_rfl, fun w' _ => by kernel_rfl⟩) hH ?_
              simp only [Act.put, la1, la2, la3, la4, la5, la6]
              refine tk_ (i := 4) (v := .pointer (some ⟨w2.heap.size, 1, none⟩)) rfl (Or.inl ⟨by kernel_rfl, fun w' _ => by kernel_rfl⟩) hH ?_
              simp only [Act.put, la1, la2, la3, la4, la5, la6]
              refine tk_ (i := 5) (v := .agg (x.stub.cells)) rfl (yieldsIf_load_mid (by kernel_rfl) 38 (.tmp 73) rfl (w2.heap.size) 1 rfl (Array.toList (x.stub.cells)) _ (fun W hW => it_stub hW.1) Tryz.underlying38 rfl (by exact HZT.out)) hH ?_
              simp only [Act.put, la1, la2, la3, la4, la5, la6]
              refine tk_ (i := 6) (v := .agg (END.cells)) rfl (yieldsIf_load_mid (by kernel_rfl) 35 (.tmp 8) rfl (w.heap.size + 1) 0 rfl (Array.toList (END.cells)) _ (fun W hW => Row.range hW.2.1) Tryz.underlying35 rfl (by exact HZE.out)) hH ?_
              simp only [Act.put, la1, la2, la3, la4, la5, la6]
              refine rd1 (i := 7) (by kernel_rfl) rfl (fun K hK => ?_)
              rw [if_pos (by kernel_rfl)]
              go_simp
              go_at_call 14
              refine (HSB.out _ hH.2.2.2).mono ?_
              rintro y w4 ⟨rfl, hb⟩
              go_wp2_with fail
              refine hK.out _ _ (⟨hH.1.below hb hH.1.lt, hH.2.1.below hb hH.2.1.lt, hH.2.2.1.below hb hH.2.2.1.lt, hH.2.2.2.trans (hb.mono hH.2.2.2.size)⟩) (fun hH => ?_)
              clear hK K
              try simp only [Act.put, la1, la2, la3, la4, la5, la6]
              refine tk_ (i := 8) (v := .bool (!false)) rfl (yields_nes (by kernel_rfl) x.stub s false HEQ (.tmp 74) (.tmp 76) _ rfl (by kernel_rfl) (by kernel_rfl)) hH ?_
              simp only [Act.put, la1, la2, la3, la4, la5, la6]
              refine tk_ (i := 9) (v := .bool true) rfl (Or.inl ⟨by kernel_rfl, fun w' _ => by kernel_rfl⟩) hH ?_
              simp only [Act.put, la1, la2, la3, la4, la5, la6]
              refine wpAnyH_done (by kernel_rfl) ?_ _
              try simp only [Act.put, la1, la2, la3, la4, la5, la6]
              have RE4 := hid hH.2.1
              have RS4 := hid hH.2.2.1
              have HB4 := hid hH.2.2.2
              clear hH
              go_wp2_with (first
                | ((with_reducible show wpList _ _ _ ({ dst := some 79, op := _, type := _, pos := _, after := _, guard := _ } :: _) _ _); refine wpList_load_row rfl 35 (.tmp 8) rfl (w.heap.size + 1) rfl 35 (END.cells) (0, 0) _ (Row.arr RE4.out) Tryz.underlying35 rfl HZE.out ?_)
                | ((with_reducible show wpList _ _ _ ({ dst := none, op := .store _ (.tmp 6) (.tmp 79), type := _, pos := _, after := _, guard := _ } :: _) _ _); refine wpl_store_st rfl (.tmp 6) (.tmp 79) rfl HZE.out (w.heap.size) (#[.int .i64 0, .int .i64 0, .int .i64 0, .int .u64 0, .int .i64 0, .int .i64 0, .int .i64 0, .int .i64 0, .string ⟨#[]⟩]) (END.cells) rfl rfl (RS4.out) ?_ (hid (by first | rfl | simp)) (hid (by first | rfl | simp)) (hid (ecells_one _)); intro w9 hr9 hg9))
              rw [HX.out]
              exact bodyPost_ret (v := .tuple #[.agg END.cells, .bool false]) (results_cell1 rfl _ _ w.heap.size 35 END.cells (0, 0) _ _ rfl rfl (Row.arr (cs := END.cells) hr9) Tryz.underlying35 rfl HZE.out) rfl ⟨rfl, HB4.out.trans (below_grown hg9 (Nat.le_refl _) HB4.out.size)⟩
        · obtain rfl : j = k := by omega
          have HX : Hid (sb = (END.opn == n)) := hid (by
            have h := HT.out
            rw [List.take_of_length_le (by rw [HN.out]; exact Nat.le_refl _)] at h
            rw [Bool.eq_iff_iff, beq_iff_eq, HSQ.out]
            exact ⟨fun h2 => h2.2, fun h2 => ⟨h, h2⟩⟩)
          clear HT HOS HSQ HSY HR
          go_wp2_with fail
          refine wp_region_held_drew (S := (fun W => Row W (w.heap.size + 1) 35 END.cells.toList ∧ (∃ z : Array Value, z.size = 9 ∧ Row W w.heap.size 35 z.toList) ∧ Below w.heap.size w W)) (by kernel_rfl) (⟨RE.out.drew, ⟨_, (rfl : (#[.int .i64 0, .int .i64 0, .int .i64 0, .int .u64 0, .int .i64 0, .int .i64 0, .int .i64 0, .int .i64 0, .string ⟨#[]⟩] : Array Value).size = 9), RS.out.drew⟩, HBE.out.drew⟩) (fun hH => ?_)
          refine tk_ (i := 0) (v := .agg (END.cells)) rfl (yieldsIf_load_mid rfl 35 (.tmp 8) rfl (w.heap.size + 1) 0 rfl (Array.toList (END.cells)) _ (fun W hW => Row.range hW.1) Tryz.underlying35 rfl (by exact HZE.out)) hH ?_
          simp only [Act.put, la1, la3, la4, la5, la6]
          refine wpAnyH_ready (rs := [1, 3, 5]) (by kernel_rfl) (by simp) ?_
          refine AllReadyH.cons rfl (fun K hK => ?_) (AllReadyH.cons rfl (fun K hK => ?_) (AllReadyH.cons rfl (fun K hK => ?_) AllReadyH.nil))
          · go_simp
            refine hK.out _ _ hH (fun hH => ?_)
            clear hK K
            try simp only [Act.put, la1, la2, la3, la4, la5, la6]
            refine wpAnyH_ready (rs := [2, 3, 5]) (by kernel_rfl) (by simp) ?_
            refine AllReadyH.cons rfl (fun K hK => ?_) (AllReadyH.cons rfl (fun K hK => ?_) (AllReadyH.cons rfl (fun K hK => ?_) AllReadyH.nil))
            · have h : World.cell? _ ⟨w.heap.size + 1, 1, none⟩ = some (.int .i64 END.opn) := hH.1.cell 1
              go_simp
              clear h
              refine hK.out _ _ hH (fun hH => ?_)
              clear hK K
              try simp only [Act.put, la1, la2, la3, la4, la5, la6]
              refine wpAnyH_ready (rs := [3, 5]) (by kernel_rfl) (by simp) ?_
              refine AllReadyH.cons rfl (fun K hK => ?_) (AllReadyH.cons rfl (fun K hK => ?_) AllReadyH.nil)
              · go_simp
                refine hK.out _ _ hH (fun hH => ?_)
                clear hK K
                try simp only [Act.put, la1, la2, la3, la4, la5, la6]
                refine wpAnyH_ready (rs := [4, 5]) (by kernel_rfl) (by simp) ?_
                refine AllReadyH.cons rfl (fun K hK => ?_) (AllReadyH.cons rfl (fun K hK => ?_) AllReadyH.nil)
                · go_simp
                  refine hK.out _ _ hH (fun hH => ?_)
                  clear hK K
                  try simp only [Act.put, la1, la2, la3, la4, la5, la6]
                  refine wpAnyH_ready (rs := [5]) (by kernel_rfl) (by simp) ?_
                  refine AllReadyH.cons rfl (fun K hK => ?_) AllReadyH.nil
                  obtain ⟨h81, ⟨z, hz9, h82⟩, h83⟩ := hH
                  rw [if_pos (by kernel_rfl)]
                  refine wp_store_st (.tmp 6) (.tmp 80) rfl HZE.out w.heap.size z END.cells rfl rfl h82 hz9 rfl (ecells_one _) (fun w9 hr9 hg9 => ?_)
                  have hb9 : Below w.heap.size w w9 := h83.trans (below_grown hg9 (Nat.le_refl _) h83.size)
                  refine hK.out _ _ ⟨h81.grown hg9 (by intro y; have := Option.some.inj y; omega), ⟨_, (rfl : END.cells.size = 9), hr9⟩, hb9⟩ (fun hH => ?_)
                  clear hK K
                  try simp only [Act.put, la1, la2, la3]
                  refine rd1 (i := 6) (by kernel_rfl) rfl (fun K hK => ?_)
                  go_simp
                  refine hK.out _ _ hH (fun hH => ?_)
                  clear hK K hH
                  try simp only [Act.put, la1, la2, la3, la4, la5, la6]
                  refine wpAnyH_done (by kernel_rfl) ?_ _
                  try simp only [Act.put, la1, la2, la3, la4, la5, la6]
                  go_wp2_with fail
                  rw [HX.out]
                  exact bodyPost_ret (v := .tuple #[.agg END.cells, .bool (END.opn == n)]) (results_cell1 rfl _ _ w.heap.size 35 END.cells (0, 0) _ _ rfl rfl (Row.arr (cs := END.cells) hr9) Tryz.underlying35 rfl HZE.out) rfl ⟨rfl, hb9⟩
                · obtain ⟨h81, ⟨z, hz9, h82⟩, h83⟩ := hH
                  rw [if_pos (by kernel_rfl)]
                  refine wp_store_st (.tmp 6) (.tmp 80) rfl HZE.out w.heap.size z END.cells rfl rfl h82 hz9 rfl (ecells_one _) (fun w9 hr9 hg9 => ?_)
                  have hb9 : Below w.heap.size w w9 := h83.trans (below_grown hg9 (Nat.le_refl _) h83.size)
                  refine hK.out _ _ ⟨h81.grown hg9 (by intro y; have := Option.some.inj y; omega), ⟨_, (rfl : END.cells.size = 9), hr9⟩, hb9⟩ (fun hH => ?_)
                  clear hK K
                  try simp only [Act.put, la1, la2, la3]
                  refine tk_ (i := 4) (v := .bool (END.opn == n)) rfl (Or.inl ⟨by kernel_rfl, fun w' hw' => by clear hw'; go_simp⟩) hH ?_
                  simp only [Act.put, la1, la2, la3, la4, la5, la6]
                  refine rd1 (i := 6) (by kernel_rfl) rfl (fun K hK => ?_)
                  go_simp
                  refine hK.out _ _ hH (fun hH => ?_)
                  clear hK K hH
                  try simp only [Act.put, la1, la2, la3, la4, la5, la6]
                  refine wpAnyH_done (by kernel_rfl) ?_ _
                  try simp only [Act.put, la1, la2, la3, la4, la5, la6]
                  go_wp2_with fail
                  rw [HX.out]
                  exact bodyPost_ret (v := .tuple #[.agg END.cells, .bool (END.opn == n)]) (results_cell1 rfl _ _ w.heap.size 35 END.cells (0, 0) _ _ rfl rfl (Row.arr (cs := END.cells) hr9) Tryz.underlying35 rfl HZE.out) rfl ⟨rfl, hb9⟩
              · obtain ⟨h81, ⟨z, hz9, h82⟩, h83⟩ := hH
                rw [if_pos (by kernel_rfl)]
                refine wp_store_st (.tmp 6) (.tmp 80) rfl HZE.out w.heap.size z END.cells rfl rfl h82 hz9 rfl (ecells_one _) (fun w9 hr9 hg9 => ?_)
                have hb9 : Below w.heap.size w w9 := h83.trans (below_grown hg9 (Nat.le_refl _) h83.size)
                refine hK.out _ _ ⟨h81.grown hg9 (by intro y; have := Option.some.inj y; omega), ⟨_, (rfl : END.cells.size = 9), hr9⟩, hb9⟩ (fun hH => ?_)
                clear hK K
                try simp only [Act.put, la1, la2, la3]
                refine tk_ (i := 3) (v := .int .i64 n) rfl (Or.inl ⟨by kernel_rfl, fun w' hw' => by clear hw'; go_simp⟩) hH ?_
                simp only [Act.put, la1, la2, la3, la4, la5, la6]
                refine tk_ (i := 4) (v := .bool (END.opn == n)) rfl (Or.inl ⟨by kernel_rfl, fun w' hw' => by clear hw'; go_simp⟩) hH ?_
                simp only [Act.put, la1, la2, la3, la4, la5, la6]
                refine rd1 (i := 6) (by kernel_rfl) rfl (fun K hK => ?_)
                go_simp
                refine hK.out _ _ hH (fun hH => ?_)
                clear hK K hH
                try simp only [Act.put, la1, la2, la3, la4, la5, la6]
                refine wpAnyH_done (by kernel_rfl) ?_ _
                try simp only [Act.put, la1, la2, la3, la4, la5, la6]
                go_wp2_with fail
                rw [HX.out]
                exact bodyPost_ret (v := .tuple #[.agg END.cells, .bool (END.opn == n)]) (results_cell1 rfl _ _ w.heap.size 35 END.cells (0, 0) _ _ rfl rfl (Row.arr (cs := END.cells) hr9) Tryz.underlying35 rfl HZE.out) rfl ⟨rfl, hb9⟩
            · go_simp
              refine hK.out _ _ hH (fun hH => ?_)
              clear hK K
              try simp only [Act.put, la1, la2, la3, la4, la5, la6]
              refine wpAnyH_ready (rs := [2, 5]) (by kernel_rfl) (by simp) ?_
              refine AllReadyH.cons rfl (fun K hK => ?_) (AllReadyH.cons rfl (fun K hK => ?_) AllReadyH.nil)
              · have h : World.cell? _ ⟨w.heap.size + 1, 1, none⟩ = some (.int .i64 END.opn) := hH.1.cell 1
                go_simp
                clear h
                refine hK.out _ _ hH (fun hH => ?_)
                clear hK K
                try simp only [Act.put, la1, la2, la3, la4, la5, la6]
                refine wpAnyH_ready (rs := [4, 5]) (by kernel_rfl) (by simp) ?_
                refine AllReadyH.cons rfl (fun K hK => ?_) (AllReadyH.cons rfl (fun K hK => ?_) AllReadyH.nil)
                · go_simp
                  refine hK.out _ _ hH (fun hH => ?_)
                  clear hK K
                  try simp only [Act.put, la1, la2, la3, la4, la5, la6]
                  refine wpAnyH_ready (rs := [5]) (by kernel_rfl) (by simp) ?_
                  refine AllReadyH.cons rfl (fun K hK => ?_) AllReadyH.nil
                  obtain ⟨h81, ⟨z, hz9, h82⟩, h83⟩ := hH
                  rw [if_pos (by kernel_rfl)]
                  refine wp_store_st (.tmp 6) (.tmp 80) rfl HZE.out w.heap.size z END.cells rfl rfl h82 hz9 rfl (ecells_one _) (fun w9 hr9 hg9 => ?_)
                  have hb9 : Below w.heap.size w w9 := h83.trans (below_grown hg9 (Nat.le_refl _) h83.size)
                  refine hK.out _ _ ⟨h81.grown hg9 (by intro y; have := Option.some.inj y; omega), ⟨_, (rfl : END.cells.size = 9), hr9⟩, hb9⟩ (fun hH => ?_)
                  clear hK K
                  try simp only [Act.put, la1, la2, la3]
                  refine rd1 (i := 6) (by kernel_rfl) rfl (fun K hK => ?_)
                  go_simp
                  refine hK.out _ _ hH (fun hH => ?_)
                  clear hK K hH
                  try simp only [Act.put, la1, la2, la3, la4, la5, la6]
                  refine wpAnyH_done (by kernel_rfl) ?_ _
                  try simp only [Act.put, la1, la2, la3, la4, la5, la6]
                  go_wp2_with fail
                  rw [HX.out]
                  exact bodyPost_ret (v := .tuple #[.agg END.cells, .bool (END.opn == n)]) (results_cell1 rfl _ _ w.heap.size 35 END.cells (0, 0) _ _ rfl rfl (Row.arr (cs := END.cells) hr9) Tryz.underlying35 rfl HZE.out) rfl ⟨rfl, hb9⟩
                · obtain ⟨h81, ⟨z, hz9, h82⟩, h83⟩ := hH
                  rw [if_pos (by kernel_rfl)]
                  refine wp_store_st (.tmp 6) (.tmp 80) rfl HZE.out w.heap.size z END.cells rfl rfl h82 hz9 rfl (ecells_one _) (fun w9 hr9 hg9 => ?_)
                  have hb9 : Below w.heap.size w w9 := h83.trans (below_grown hg9 (Nat.le_refl _) h83.size)
                  refine hK.out _ _ ⟨h81.grown hg9 (by intro y; have := Option.some.inj y; omega), ⟨_, (rfl : END.cells.size = 9), hr9⟩, hb9⟩ (fun hH => ?_)
                  clear hK K
                  try simp only [Act.put, la1, la2, la3]
                  refine tk_ (i := 4) (v := .bool (END.opn == n)) rfl (Or.inl ⟨by kernel_rfl, fun w' hw' => by clear hw'; go_simp⟩) hH ?_
                  simp only [Act.put, la1, la2, la3, la4, la5, la6]
                  refine rd1 (i := 6) (by kernel_rfl) rfl (fun K hK => ?_)
                  go_simp
                  refine hK.out _ _ hH (fun hH => ?_)
                  clear hK K hH
                  try simp only [Act.put, la1, la2, la3, la4, la5, la6]
                  refine wpAnyH_done (by kernel_rfl) ?_ _
                  try simp only [Act.put, la1, la2, la3, la4, la5, la6]
                  go_wp2_with fail
                  rw [HX.out]
                  exact bodyPost_ret (v := .tuple #[.agg END.cells, .bool (END.opn == n)]) (results_cell1 rfl _ _ w.heap.size 35 END.cells (0, 0) _ _ rfl rfl (Row.arr (cs := END.cells) hr9) Tryz.underlying35 rfl HZE.out) rfl ⟨rfl, hb9⟩
              · obtain ⟨h81, ⟨z, hz9, h82⟩, h83⟩ := hH
                rw [if_pos (by kernel_rfl)]
                refine wp_store_st (.tmp 6) (.tmp 80) rfl HZE.out w.heap.size z END.cells rfl rfl h82 hz9 rfl (ecells_one _) (fun w9 hr9 hg9 => ?_)
                have hb9 : Below w.heap.size w w9 := h83.trans (below_grown hg9 (Nat.le_refl _) h83.size)
                refine hK.out _ _ ⟨h81.grown hg9 (by intro y; have := Option.some.inj y; omega), ⟨_, (rfl : END.cells.size = 9), hr9⟩, hb9⟩ (fun hH => ?_)
                clear hK K
                try simp only [Act.put, la1, la2, la3]
                refine tk_ (i := 2) (v := .int .i64 END.opn) rfl (Or.inl ⟨by kernel_rfl, fun w' hw' => by have h : w'.cell? ⟨w.heap.size + 1, 1, none⟩ = some (.int .i64 END.opn) := hw'.1.cell 1; clear hw'; go_simp⟩) hH ?_
                simp only [Act.put, la1, la2, la3, la4, la5, la6]
                refine tk_ (i := 4) (v := .bool (END.opn == n)) rfl (Or.inl ⟨by kernel_rfl, fun w' hw' => by clear hw'; go_simp⟩) hH ?_
                simp only [Act.put, la1, la2, la3, la4, la5, la6]
                refine rd1 (i := 6) (by kernel_rfl) rfl (fun K hK => ?_)
                go_simp
                refine hK.out _ _ hH (fun hH => ?_)
                clear hK K hH
                try simp only [Act.put, la1, la2, la3, la4, la5, la6]
                refine wpAnyH_done (by kernel_rfl) ?_ _
                try simp only [Act.put, la1, la2, la3, la4, la5, la6]
                go_wp2_with fail
                rw [HX.out]
                exact bodyPost_ret (v := .tuple #[.agg END.cells, .bool (END.opn == n)]) (results_cell1 rfl _ _ w.heap.size 35 END.cells (0, 0) _ _ rfl rfl (Row.arr (cs := END.cells) hr9) Tryz.underlying35 rfl HZE.out) rfl ⟨rfl, hb9⟩
            · obtain ⟨h81, ⟨z, hz9, h82⟩, h83⟩ := hH
              rw [if_pos (by kernel_rfl)]
              refine wp_store_st (.tmp 6) (.tmp 80) rfl HZE.out w.heap.size z END.cells rfl rfl h82 hz9 rfl (ecells_one _) (fun w9 hr9 hg9 => ?_)
              have hb9 : Below w.heap.size w w9 := h83.trans (below_grown hg9 (Nat.le_refl _) h83.size)
              refine hK.out _ _ ⟨h81.grown hg9 (by intro y; have := Option.some.inj y; omega), ⟨_, (rfl : END.cells.size = 9), hr9⟩, hb9⟩ (fun hH => ?_)
              clear hK K
              try simp only [Act.put, la1, la2, la3]
              refine tk_ (i := 2) (v := .int .i64 END.opn) rfl (Or.inl ⟨by kernel_rfl, fun w' hw' => by have h : w'.cell? ⟨w.heap.size + 1, 1, none⟩ = some (.int .i64 END.opn) := hw'.1.cell 1; clear hw'; go_simp⟩) hH ?_
              simp only [Act.put, la1, la2, la3, la4, la5, la6]
              refine tk_ (i := 3) (v := .int .i64 n) rfl (Or.inl ⟨by kernel_rfl, fun w' hw' => by clear hw'; go_simp⟩) hH ?_
              simp only [Act.put, la1, la2, la3, la4, la5, la6]
              refine tk_ (i := 4) (v := .bool (END.opn == n)) rfl (Or.inl ⟨by kernel_rfl, fun w' hw' => by clear hw'; go_simp⟩) hH ?_
              simp only [Act.put, la1, la2, la3, la4, la5, la6]
              refine rd1 (i := 6) (by kernel_rfl) rfl (fun K hK => ?_)
              go_simp
              refine hK.out _ _ hH (fun hH => ?_)
              clear hK K hH
              try simp only [Act.put, la1, la2, la3, la4, la5, la6]
              refine wpAnyH_done (by kernel_rfl) ?_ _
              try simp only [Act.put, la1, la2, la3, la4, la5, la6]
              go_wp2_with fail
              rw [HX.out]
              exact bodyPost_ret (v := .tuple #[.agg END.cells, .bool (END.opn == n)]) (results_cell1 rfl _ _ w.heap.size 35 END.cells (0, 0) _ _ rfl rfl (Row.arr (cs := END.cells) hr9) Tryz.underlying35 rfl HZE.out) rfl ⟨rfl, hb9⟩
          · go_simp
            refine hK.out _ _ hH (fun hH => ?_)
            clear hK K
            try simp only [Act.put, la1, la2, la3, la4, la5, la6]
            refine wpAnyH_ready (rs := [1, 5]) (by kernel_rfl) (by simp) ?_
            refine AllReadyH.cons rfl (fun K hK => ?_) (AllReadyH.cons rfl (fun K hK => ?_) AllReadyH.nil)
            · go_simp
              refine hK.out _ _ hH (fun hH => ?_)
              clear hK K
              try simp only [Act.put, la1, la2, la3, la4, la5, la6]
              refine wpAnyH_ready (rs := [2, 5]) (by kernel_rfl) (by simp) ?_
              refine AllReadyH.cons rfl (fun K hK => ?_) (AllReadyH.cons rfl (fun K hK => ?_) AllReadyH.nil)
              · have h : World.cell? _ ⟨w.heap.size + 1, 1, none⟩ = some (.int .i64 END.opn) := hH.1.cell 1
                go_simp
                clear h
                refine hK.out _ _ hH (fun hH => ?_)
                clear hK K
                try simp only [Act.put, la1, la2, la3, la4, la5, la6]
                refine wpAnyH_ready (rs := [4, 5]) (by kernel_rfl) (by simp) ?_
                refine AllReadyH.cons rfl (fun K hK => ?_) (AllReadyH.cons rfl (fun K hK => ?_) AllReadyH.nil)
                · go_simp
                  refine hK.out _ _ hH (fun hH => ?_)
                  clear hK K
                  try simp only [Act.put, la1, la2, la3, la4, la5, la6]
                  refine wpAnyH_ready (rs := [5]) (by kernel_rfl) (by simp) ?_
                  refine AllReadyH.cons rfl (fun K hK => ?_) AllReadyH.nil
                  obtain ⟨h81, ⟨z, hz9, h82⟩, h83⟩ := hH
                  rw [if_pos (by kernel_rfl)]
                  refine wp_store_st (.tmp 6) (.tmp 80) rfl HZE.out w.heap.size z END.cells rfl rfl h82 hz9 rfl (ecells_one _) (fun w9 hr9 hg9 => ?_)
                  have hb9 : Below w.heap.size w w9 := h83.trans (below_grown hg9 (Nat.le_refl _) h83.size)
                  refine hK.out _ _ ⟨h81.grown hg9 (by intro y; have := Option.some.inj y; omega), ⟨_, (rfl : END.cells.size = 9), hr9⟩, hb9⟩ (fun hH => ?_)
                  clear hK K
                  try simp only [Act.put, la1, la2, la3]
                  refine rd1 (i := 6) (by kernel_rfl) rfl (fun K hK => ?_)
                  go_simp
                  refine hK.out _ _ hH (fun hH => ?_)
                  clear hK K hH
                  try simp only [Act.put, la1, la2, la3, la4, la5, la6]
                  refine wpAnyH_done (by kernel_rfl) ?_ _
                  try simp only [Act.put, la1, la2, la3, la4, la5, la6]
                  go_wp2_with fail
                  rw [HX.out]
                  exact bodyPost_ret (v := .tuple #[.agg END.cells, .bool (END.opn == n)]) (results_cell1 rfl _ _ w.heap.size 35 END.cells (0, 0) _ _ rfl rfl (Row.arr (cs := END.cells) hr9) Tryz.underlying35 rfl HZE.out) rfl ⟨rfl, hb9⟩
                · obtain ⟨h81, ⟨z, hz9, h82⟩, h83⟩ := hH
                  rw [if_pos (by kernel_rfl)]
                  refine wp_store_st (.tmp 6) (.tmp 80) rfl HZE.out w.heap.size z END.cells rfl rfl h82 hz9 rfl (ecells_one _) (fun w9 hr9 hg9 => ?_)
                  have hb9 : Below w.heap.size w w9 := h83.trans (below_grown hg9 (Nat.le_refl _) h83.size)
                  refine hK.out _ _ ⟨h81.grown hg9 (by intro y; have := Option.some.inj y; omega), ⟨_, (rfl : END.cells.size = 9), hr9⟩, hb9⟩ (fun hH => ?_)
                  clear hK K
                  try simp only [Act.put, la1, la2, la3]
                  refine tk_ (i := 4) (v := .bool (END.opn == n)) rfl (Or.inl ⟨by kernel_rfl, fun w' hw' => by clear hw'; go_simp⟩) hH ?_
                  simp only [Act.put, la1, la2, la3, la4, la5, la6]
                  refine rd1 (i := 6) (by kernel_rfl) rfl (fun K hK => ?_)
                  go_simp
                  refine hK.out _ _ hH (fun hH => ?_)
                  clear hK K hH
                  try simp only [Act.put, la1, la2, la3, la4, la5, la6]
                  refine wpAnyH_done (by kernel_rfl) ?_ _
                  try simp only [Act.put, la1, la2, la3, la4, la5, la6]
                  go_wp2_with fail
                  rw [HX.out]
                  exact bodyPost_ret (v := .tuple #[.agg END.cells, .bool (END.opn == n)]) (results_cell1 rfl _ _ w.heap.size 35 END.cells (0, 0) _ _ rfl rfl (Row.arr (cs := END.cells) hr9) Tryz.underlying35 rfl HZE.out) rfl ⟨rfl, hb9⟩
              · obtain ⟨h81, ⟨z, hz9, h82⟩, h83⟩ := hH
                rw [if_pos (by kernel_rfl)]
                refine wp_store_st (.tmp 6) (.tmp 80) rfl HZE.out w.heap.size z END.cells rfl rfl h82 hz9 rfl (ecells_one _) (fun w9 hr9 hg9 => ?_)
                have hb9 : Below w.heap.size w w9 := h83.trans (below_grown hg9 (Nat.le_refl _) h83.size)
                refine hK.out _ _ ⟨h81.grown hg9 (by intro y; have := Option.some.inj y; omega), ⟨_, (rfl : END.cells.size = 9), hr9⟩, hb9⟩ (fun hH => ?_)
                clear hK K
                try simp only [Act.put, la1, la2, la3]
                refine tk_ (i := 2) (v := .int .i64 END.opn) rfl (Or.inl ⟨by kernel_rfl, fun w' hw' => by have h : w'.cell? ⟨w.heap.size + 1, 1, none⟩ = some (.int .i64 END.opn) := hw'.1.cell 1; clear hw'; go_simp⟩) hH ?_
                simp only [Act.put, la1, la2, la3, la4, la5, la6]
                refine tk_ (i := 4) (v := .bool (END.opn == n)) rfl (Or.inl ⟨by kernel_rfl, fun w' hw' => by clear hw'; go_simp⟩) hH ?_
                simp only [Act.put, la1, la2, la3, la4, la5, la6]
                refine rd1 (i := 6) (by kernel_rfl) rfl (fun K hK => ?_)
                go_simp
                refine hK.out _ _ hH (fun hH => ?_)
                clear hK K hH
                try simp only [Act.put, la1, la2, la3, la4, la5, la6]
                refine wpAnyH_done (by kernel_rfl) ?_ _
                try simp only [Act.put, la1, la2, la3, la4, la5, la6]
                go_wp2_with fail
                rw [HX.out]
                exact bodyPost_ret (v := .tuple #[.agg END.cells, .bool (END.opn == n)]) (results_cell1 rfl _ _ w.heap.size 35 END.cells (0, 0) _ _ rfl rfl (Row.arr (cs := END.cells) hr9) Tryz.underlying35 rfl HZE.out) rfl ⟨rfl, hb9⟩
            · obtain ⟨h81, ⟨z, hz9, h82⟩, h83⟩ := hH
              rw [if_pos (by kernel_rfl)]
              refine wp_store_st (.tmp 6) (.tmp 80) rfl HZE.out w.heap.size z END.cells rfl rfl h82 hz9 rfl (ecells_one _) (fun w9 hr9 hg9 => ?_)
              have hb9 : Below w.heap.size w w9 := h83.trans (below_grown hg9 (Nat.le_refl _) h83.size)
              refine hK.out _ _ ⟨h81.grown hg9 (by intro y; have := Option.some.inj y; omega), ⟨_, (rfl : END.cells.size = 9), hr9⟩, hb9⟩ (fun hH => ?_)
              clear hK K
              try simp only [Act.put, la1, la2, la3]
              refine tk_ (i := 1) (v := .pointer (some ⟨w.heap.size + 1, 1, none⟩)) rfl (Or.inl ⟨by kernel_rfl, fun w' hw' => by clear hw'; go_simp⟩) hH ?_
              simp only [Act.put, la1, la2, la3, la4, la5, la6]
              refine tk_ (i := 2) (v := .int .i64 END.opn) rfl (Or.inl ⟨by kernel_rfl, fun w' hw' => by have h : w'.cell? ⟨w.heap.size + 1, 1, none⟩ = some (.int .i64 END.opn) := hw'.1.cell 1; clear hw'; go_simp⟩) hH ?_
              simp only [Act.put, la1, la2, la3, la4, la5, la6]
              refine tk_ (i := 4) (v := .bool (END.opn == n)) rfl (Or.inl ⟨by kernel_rfl, fun w' hw' => by clear hw'; go_simp⟩) hH ?_
              simp only [Act.put, la1, la2, la3, la4, la5, la6]
              refine rd1 (i := 6) (by kernel_rfl) rfl (fun K hK => ?_)
              go_simp
              refine hK.out _ _ hH (fun hH => ?_)
              clear hK K hH
              try simp only [Act.put, la1, la2, la3, la4, la5, la6]
              refine wpAnyH_done (by kernel_rfl) ?_ _
              try simp only [Act.put, la1, la2, la3, la4, la5, la6]
              go_wp2_with fail
              rw [HX.out]
              exact bodyPost_ret (v := .tuple #[.agg END.cells, .bool (END.opn == n)]) (results_cell1 rfl _ _ w.heap.size 35 END.cells (0, 0) _ _ rfl rfl (Row.arr (cs := END.cells) hr9) Tryz.underlying35 rfl HZE.out) rfl ⟨rfl, hb9⟩
          · obtain ⟨h81, ⟨z, hz9, h82⟩, h83⟩ := hH
            rw [if_pos (by kernel_rfl)]
            refine wp_store_st (.tmp 6) (.tmp 80) rfl HZE.out w.heap.size z END.cells rfl rfl h82 hz9 rfl (ecells_one _) (fun w9 hr9 hg9 => ?_)
            have hb9 : Below w.heap.size w w9 := h83.trans (below_grown hg9 (Nat.le_refl _) h83.size)
            refine hK.out _ _ ⟨h81.grown hg9 (by intro y; have := Option.some.inj y; omega), ⟨_, (rfl : END.cells.size = 9), hr9⟩, hb9⟩ (fun hH => ?_)
            clear hK K
            try simp only [Act.put, la1, la2, la3]
            refine tk_ (i := 1) (v := .pointer (some ⟨w.heap.size + 1, 1, none⟩)) rfl (Or.inl ⟨by kernel_rfl, fun w' hw' => by clear hw'; go_simp⟩) hH ?_
            simp only [Act.put, la1, la2, la3, la4, la5, la6]
            refine tk_ (i := 2) (v := .int .i64 END.opn) rfl (Or.inl ⟨by kernel_rfl, fun w' hw' => by have h : w'.cell? ⟨w.heap.size + 1, 1, none⟩ = some (.int .i64 END.opn) := hw'.1.cell 1; clear hw'; go_simp⟩) hH ?_
            simp only [Act.put, la1, la2, la3, la4, la5, la6]
            refine tk_ (i := 3) (v := .int .i64 n) rfl (Or.inl ⟨by kernel_rfl, fun w' hw' => by clear hw'; go_simp⟩) hH ?_
            simp only [Act.put, la1, la2, la3, la4, la5, la6]
            refine tk_ (i := 4) (v := .bool (END.opn == n)) rfl (Or.inl ⟨by kernel_rfl, fun w' hw' => by clear hw'; go_simp⟩) hH ?_
            simp only [Act.put, la1, la2, la3, la4, la5, la6]
            refine rd1 (i := 6) (by kernel_rfl) rfl (fun K hK => ?_)
            go_simp
            refine hK.out _ _ hH (fun hH => ?_)
            clear hK K hH
            try simp only [Act.put, la1, la2, la3, la4, la5, la6]
            refine wpAnyH_done (by kernel_rfl) ?_ _
            try simp only [Act.put, la1, la2, la3, la4, la5, la6]
            go_wp2_with fail
            rw [HX.out]
            exact bodyPost_ret (v := .tuple #[.agg END.cells, .bool (END.opn == n)]) (results_cell1 rfl _ _ w.heap.size 35 END.cells (0, 0) _ _ rfl rfl (Row.arr (cs := END.cells) hr9) Tryz.underlying35 rfl HZE.out) rfl ⟨rfl, hb9⟩
end Go.Proofs.YteahbalcielhpaaGreatDoor
