/-
  The program's stub.
-/
import Derived.Test.YteahbalcielhpaaGreatDoorZ21
namespace Go.Proofs.YteahbalcielhpaaGreatDoor
open Go.RowKit
set_option maxRecDepth 10000

def stbQ (L : List LP) (n : Int) : Int × St := L.foldl (fun r x => stepT18 n r x.1) (-1, st0)
theorem stbQ_eq (L : List LP) (n : Int) : stbQ L n = stbP18 (L.map Prod.fst) n := by
  unfold stbQ stbP18
  rw [List.foldl_map]
theorem stbQ_snoc (L : List LP) (n : Int) (k : Nat) (h : k < L.length) : stbQ (L.take (k + 1)) n = stepT18 n (stbQ (L.take k) n) L[k].1 := by
  unfold stbQ
  rw [List.take_succ_eq_append_getElem h, List.foldl_append]
  rfl
theorem st_size18 (s : St) : s.cells.size = 5 := rfl
set_option maxHeartbeats 8000000 in
theorem stub_any18 (n : Int) (A : Option Addr) (L : List LP) (q c B : Nat) (w : World) (hr : Lm w B A L) (hf : LogF L) (hn : q = L.length) (hc : q ≤ c) (hB : B ≤ w.heap.size) (hb : q ≤ 9223372036854775807) (hn1 : 1 ≤ n ∧ n ≤ 1152921504606846976) :
    Calls Tryz.prog 37 #[.int .i64 n, .slice A q c] w (VE w (.agg (stbQ L n).2.cells)) := by
  have hz := zero33
  have hzs := z33_size
  have hzn := z33_ne
  have HZS := hid mssize
  have HZI := hid isize
  have HZT := hid stsizeM
  have HN := hid hn
  have HR : Hid (∀ W, Below w.heap.size w W → Lm W B A L) := hid fun W hW => hr.below hW hB
  have HSY := hid (fun (x : LP) (hx : x ∈ L) (W : World) (hW : Below w.heap.size w W) => says_any x.1 x.2 B n W ((hr.pl x hx).below hW hB) (Nat.le_trans hB hW.size) (hf.xs hx) hn1 (hf.chk hx))
  have HSN := hid (fun (k : Nat) (h : k < L.length) => stbQ_snoc L n k h)
  have HEND : Hid (stbQ (L.take q) n = stbQ L n) := hid (by rw [hn, List.take_length])
  generalize stbQ L n = END at *
  have HB0 : Hid (Below w.heap.size w (w.alloc (.cells #[.int .i64 0, .int .i64 0, .int .i64 0, .int .u64 0, .int .u64 0] 38))) := hid ((Below.refl _ _).alloc (Nat.le_refl _) _)
  have R0 : Hid (Row (w.alloc (.cells #[.int .i64 0, .int .i64 0, .int .i64 0, .int .u64 0, .int .u64 0] 38)) w.heap.size 38 (#[.int .i64 0, .int .i64 0, .int .i64 0, .int .u64 0, .int .u64 0] : Array Value).toList) := hid (Row.new _ _ _)
  clear hr hn hf hn1
  go_enter Tryz.func37, Tryz.ntmps37
  go_wp2_with (first
        | ((with_reducible show wpList _ _ _ ({ dst := none, op := .store _ (.tmp 6) (.tmp 10), type := _, pos := _, after := _, guard := _ } :: _) _ _); refine wpl_store_st rfl (.tmp 6) (.tmp 10) rfl HZT.out (w.heap.size + 1) (#[.int .i64 0, .int .i64 0, .int .i64 0, .int .u64 0, .int .u64 0]) (st0.cells) rfl rfl (by have h := Row.new (w.alloc (.cells #[.int .i64 0, .int .i64 0, .int .i64 0, .int .u64 0, .int .u64 0] 38)) 38 #[.int .i64 0, .int .i64 0, .int .i64 0, .int .u64 0, .int .u64 0]; rw [World.size_alloc] at h; exact h) ?_ (hid (by first | rfl | simp)) (hid (by first | rfl | simp)) (hid (stc_one _)); intro w1 hr1 hg; have RT := hid hr1; have R1 := hid ((R0.out.alloc (.cells #[.int .i64 0, .int .i64 0, .int .i64 0, .int .u64 0, .int .u64 0] 38)).grown hg (by intro e; have := Option.some.inj e; omega)); have HB1 := hid ((HB0.out.alloc HB0.out.size (.cells #[.int .i64 0, .int .i64 0, .int .i64 0, .int .u64 0, .int .u64 0] 38)).trans (below_grown hg (by omega) (by simp; omega))); clear hr1 hg))
  go_loopw [5, 13] (fun v i wr => ∃ k : Nat, k ≤ q ∧ i = .int .i64 (k : Int) ∧ ∃ (lv : Int) (s : St), v = .int .i64 lv ∧ Hid (stbQ (L.take k) n = (lv, s)) ∧ Hid (Row wr w.heap.size 38 (#[.int .i64 0, .int .i64 0, .int .i64 0, .int .u64 0, .int .u64 0] : Array Value).toList) ∧ Hid (Row wr (w.heap.size + 1) 38 s.cells.toList) ∧ Hid (Below w.heap.size w wr)) (fun _ i _ => q - (intOf i).toNat)
  case atStart => exact ⟨0, by omega, rfl, -1, st0, rfl, hid rfl, R1, RT, HB1⟩
  case round =>
    clear R0 HB0 R1 RT HB1
    obtain ⟨k, hk, rfl, lv, s, rfl, HT, RS, RE, HBE⟩ := hrel
    by_cases hlt : k < q
    · have hkl : k < L.length := by rw [← HN.out]; exact hlt
      obtain ⟨g, o, rfl, hg, hrg⟩ := (HR.out wr HBE.out).at_ k hkl
      have HRG : Hid (wr.rangeAt g (o + k * 33) (Array.toList (L[k].1.cells L[k].2))) := hid hrg
      have HS := hid (HSY.out L[k] (List.getElem_mem hkl))
      have HQ := hid (HSN.out k hkl)
      rw [HT.out] at HQ
      generalize L[k] = X at *
      have hi : (k : Int) < (q : Int) := by omega
      have hi0 : (0 : Int) ≤ (k : Int) := by omega
      have HLT : Hid (w.heap.size + 1 < wr.heap.size) := hid RE.out.lt
      have HSTEP : Hid (stepT18 n (lv, s) X.1 = if (saysC X.1 n).kind = 3 ∨ X.1.lv < lv then (lv, s) else if lv < X.1.lv ∨ s = st0 then (X.1.lv, (saysC X.1 n).stub) else (lv, s)) := hid rfl
      generalize saysC X.1 n = x at *
      clear hrg hkl hg HR HT HSN HSY
      cases h3 : (x.kind == 3)
      case true =>
        have HX : Hid (stbQ (L.take (k + 1)) n = (lv, s)) := hid (by rw [HQ.out, HSTEP.out, if_pos (.inl (by simpa using h3))])
        clear HQ HSTEP
        go_wp2_with (first
              | ((with_reducible show wpList _ _ _ ({ dst := some 16, op := _, type := _, pos := _, after := _, guard := _ } :: _) _ _); refine wpList_load_mid rfl 45 (.tmp 15) rfl g (o + k * 33) rfl (Array.toList (X.1.cells X.2)) _ (HRG.out) Tryz.underlying45 rfl (by exact HZS.out) ?_)
              | ((with_reducible show wpList _ _ _ ({ dst := none, op := .store _ (.tmp 8) (.tmp 16), type := _, pos := _, after := _, guard := _ } :: _) _ _); refine wpl_store_st rfl (.tmp 8) (.tmp 16) rfl HZS.out (wr.heap.size) (z33) (X.1.cells X.2) rfl rfl (Row.new _ _ _) ?_ (hid (by first | rfl | simp)) (hid (by first | rfl | simp)) (hid (msc_one _ _)); intro w1 hr1 hg; have RM := hid hr1; have HB1 := hid ((HBE.out.alloc HBE.out.size (.cells z33 45)).trans (below_grown hg (by have := HBE.out.size; omega) (by simp; have := HBE.out.size; omega))); have RS1 := hid ((RS.out.alloc (.cells z33 45)).grown hg (by intro e; have := Option.some.inj e; have := HLT.out; omega)); have RE1 := hid ((RE.out.alloc (.cells z33 45)).grown hg (by intro e; have := Option.some.inj e; have := HLT.out; omega)); clear hr1 hg)
              | ((with_reducible show wpList _ _ _ ({ dst := some 18, op := _, type := _, pos := _, after := _, guard := _ } :: _) _ _); refine wpList_load_row rfl 45 (.tmp 8) rfl (wr.heap.size) rfl 45 (X.1.cells X.2) (0, 0) _ (Row.arr RM.out) Tryz.underlying45 rfl HZS.out ?_)
              | (go_at_call 56; refine (HS.out _ HB1.out).mono ?_; rintro e w2 ⟨rfl, hb⟩; have HB2 := hid (HB1.out.trans (hb.mono HB1.out.size)); have RS2 := hid (RS1.out.below hb RS1.out.lt); have RE2 := hid (RE1.out.below hb RE1.out.lt); have RM2 := hid (RM.out.below hb RM.out.lt); have HLT2 := hid (show w.heap.size + 1 < w2.heap.size by have := RE2.out.lt; omega); have HLM := hid (show wr.heap.size < w2.heap.size by have := RM2.out.lt; omega); clear hb)
              | ((with_reducible show wpList _ _ _ ({ dst := none, op := .store _ (.tmp 9) (.tmp 19), type := _, pos := _, after := _, guard := _ } :: _) _ _); refine wpl_store_st rfl (.tmp 9) (.tmp 19) rfl HZI.out (w2.heap.size) (#[.int .i64 0, .int .i64 0, .int .i64 0, .int .i64 0, .int .u64 0, .int .u64 0, .int .i64 0, .int .i64 0, .int .i64 0, .int .u64 0, .int .i64 0, .int .i64 0, .int .i64 0, .int .i64 0, .string ⟨#[]⟩]) (x.cells) rfl rfl (Row.new _ _ _) ?_ (hid (by first | rfl | simp)) (hid (by first | rfl | simp)) (hid (itc_one _)); intro w3 hr3 hg; have R3 := hid hr3; have HB3 := hid ((HB2.out.alloc HB2.out.size (.cells #[.int .i64 0, .int .i64 0, .int .i64 0, .int .i64 0, .int .u64 0, .int .u64 0, .int .i64 0, .int .i64 0, .int .i64 0, .int .u64 0, .int .i64 0, .int .i64 0, .int .i64 0, .int .i64 0, .string ⟨#[]⟩] 40)).trans (below_grown hg (by have := HB2.out.size; omega) (by simp; have := HB2.out.size; omega))); have RS3 := hid ((RS2.out.alloc (.cells #[.int .i64 0, .int .i64 0, .int .i64 0, .int .i64 0, .int .u64 0, .int .u64 0, .int .i64 0, .int .i64 0, .int .i64 0, .int .u64 0, .int .i64 0, .int .i64 0, .int .i64 0, .int .i64 0, .string ⟨#[]⟩] 40)).grown hg (by intro e; have := Option.some.inj e; have := HLT2.out; omega)); have RE3 := hid ((RE2.out.alloc (.cells #[.int .i64 0, .int .i64 0, .int .i64 0, .int .i64 0, .int .u64 0, .int .u64 0, .int .i64 0, .int .i64 0, .int .i64 0, .int .u64 0, .int .i64 0, .int .i64 0, .int .i64 0, .int .i64 0, .string ⟨#[]⟩] 40)).grown hg (by intro e; have := Option.some.inj e; have := HLT2.out; omega)); have RM3 := hid ((RM2.out.alloc (.cells #[.int .i64 0, .int .i64 0, .int .i64 0, .int .i64 0, .int .u64 0, .int .u64 0, .int .i64 0, .int .i64 0, .int .i64 0, .int .u64 0, .int .i64 0, .int .i64 0, .int .i64 0, .int .i64 0, .string ⟨#[]⟩] 40)).grown hg (by intro e; have := Option.some.inj e; have := HLM.out; omega)); have c0 : w3.cell? ⟨w2.heap.size, 0, none⟩ = some (.int .i64 x.kind) := hr3.cell 0; have c3 : w3.cell? ⟨wr.heap.size, 3, none⟩ = some (.int .i64 X.1.lv) := RM3.out.cell 3; clear hr3 hg))
        go_roundw
        case rel => exact ⟨k + 1, by omega, by go_num, lv, s, rfl, HX, RS3, RE3, HB3⟩
        case measure => simp [intOf]; omega
      case false =>
        have h3' : ¬ x.kind = 3 := by simpa using h3
        by_cases h4 : X.1.lv < lv
        · have HX : Hid (stbQ (L.take (k + 1)) n = (lv, s)) := hid (by rw [HQ.out, HSTEP.out, if_pos (.inr h4)])
          clear HQ HSTEP h3'
          go_wp2_with (first
              | ((with_reducible show wpList _ _ _ ({ dst := some 16, op := _, type := _, pos := _, after := _, guard := _ } :: _) _ _); refine wpList_load_mid rfl 45 (.tmp 15) rfl g (o + k * 33) rfl (Array.toList (X.1.cells X.2)) _ (HRG.out) Tryz.underlying45 rfl (by exact HZS.out) ?_)
              | ((with_reducible show wpList _ _ _ ({ dst := none, op := .store _ (.tmp 8) (.tmp 16), type := _, pos := _, after := _, guard := _ } :: _) _ _); refine wpl_store_st rfl (.tmp 8) (.tmp 16) rfl HZS.out (wr.heap.size) (z33) (X.1.cells X.2) rfl rfl (Row.new _ _ _) ?_ (hid (by first | rfl | simp)) (hid (by first | rfl | simp)) (hid (msc_one _ _)); intro w1 hr1 hg; have RM := hid hr1; have HB1 := hid ((HBE.out.alloc HBE.out.size (.cells z33 45)).trans (below_grown hg (by have := HBE.out.size; omega) (by simp; have := HBE.out.size; omega))); have RS1 := hid ((RS.out.alloc (.cells z33 45)).grown hg (by intro e; have := Option.some.inj e; have := HLT.out; omega)); have RE1 := hid ((RE.out.alloc (.cells z33 45)).grown hg (by intro e; have := Option.some.inj e; have := HLT.out; omega)); clear hr1 hg)
              | ((with_reducible show wpList _ _ _ ({ dst := some 18, op := _, type := _, pos := _, after := _, guard := _ } :: _) _ _); refine wpList_load_row rfl 45 (.tmp 8) rfl (wr.heap.size) rfl 45 (X.1.cells X.2) (0, 0) _ (Row.arr RM.out) Tryz.underlying45 rfl HZS.out ?_)
              | (go_at_call 56; refine (HS.out _ HB1.out).mono ?_; rintro e w2 ⟨rfl, hb⟩; have HB2 := hid (HB1.out.trans (hb.mono HB1.out.size)); have RS2 := hid (RS1.out.below hb RS1.out.lt); have RE2 := hid (RE1.out.below hb RE1.out.lt); have RM2 := hid (RM.out.below hb RM.out.lt); have HLT2 := hid (show w.heap.size + 1 < w2.heap.size by have := RE2.out.lt; omega); have HLM := hid (show wr.heap.size < w2.heap.size by have := RM2.out.lt; omega); clear hb)
              | ((with_reducible show wpList _ _ _ ({ dst := none, op := .store _ (.tmp 9) (.tmp 19), type := _, pos := _, after := _, guard := _ } :: _) _ _); refine wpl_store_st rfl (.tmp 9) (.tmp 19) rfl HZI.out (w2.heap.size) (#[.int .i64 0, .int .i64 0, .int .i64 0, .int .i64 0, .int .u64 0, .int .u64 0, .int .i64 0, .int .i64 0, .int .i64 0, .int .u64 0, .int .i64 0, .int .i64 0, .int .i64 0, .int .i64 0, .string ⟨#[]⟩]) (x.cells) rfl rfl (Row.new _ _ _) ?_ (hid (by first | rfl | simp)) (hid (by first | rfl | simp)) (hid (itc_one _)); intro w3 hr3 hg; have R3 := hid hr3; have HB3 := hid ((HB2.out.alloc HB2.out.size (.cells #[.int .i64 0, .int .i64 0, .int .i64 0, .int .i64 0, .int .u64 0, .int .u64 0, .int .i64 0, .int .i64 0, .int .i64 0, .int .u64 0, .int .i64 0, .int .i64 0, .int .i64 0, .int .i64 0, .string ⟨#[]⟩] 40)).trans (below_grown hg (by have := HB2.out.size; omega) (by simp; have := HB2.out.size; omega))); have RS3 := hid ((RS2.out.alloc (.cells #[.int .i64 0, .int .i64 0, .int .i64 0, .int .i64 0, .int .u64 0, .int .u64 0, .int .i64 0, .int .i64 0, .int .i64 0, .int .u64 0, .int .i64 0, .int .i64 0, .int .i64 0, .int .i64 0, .string ⟨#[]⟩] 40)).grown hg (by intro e; have := Option.some.inj e; have := HLT2.out; omega)); have RE3 := hid ((RE2.out.alloc (.cells #[.int .i64 0, .int .i64 0, .int .i64 0, .int .i64 0, .int .u64 0, .int .u64 0, .int .i64 0, .int .i64 0, .int .i64 0, .int .u64 0, .int .i64 0, .int .i64 0, .int .i64 0, .int .i64 0, .string ⟨#[]⟩] 40)).grown hg (by intro e; have := Option.some.inj e; have := HLT2.out; omega)); have RM3 := hid ((RM2.out.alloc (.cells #[.int .i64 0, .int .i64 0, .int .i64 0, .int .i64 0, .int .u64 0, .int .u64 0, .int .i64 0, .int .i64 0, .int .i64 0, .int .u64 0, .int .i64 0, .int .i64 0, .int .i64 0, .int .i64 0, .string ⟨#[]⟩] 40)).grown hg (by intro e; have := Option.some.inj e; have := HLM.out; omega)); have c0 : w3.cell? ⟨w2.heap.size, 0, none⟩ = some (.int .i64 x.kind) := hr3.cell 0; have c3 : w3.cell? ⟨wr.heap.size, 3, none⟩ = some (.int .i64 X.1.lv) := RM3.out.cell 3; clear hr3 hg))
          go_roundw
          case rel => exact ⟨k + 1, by omega, by go_num, lv, s, rfl, HX, RS3, RE3, HB3⟩
          case measure => simp [intOf]; omega
        · by_cases h5 : lv < X.1.lv
          · have HX : Hid (stbQ (L.take (k + 1)) n = (X.1.lv, x.stub)) := hid (by rw [HQ.out, HSTEP.out, if_neg (by rintro (h | h); exact h3' h; exact h4 h), if_pos (.inl h5)])
            clear HQ HSTEP h3'
            go_wp2_with (first
              | ((with_reducible show wpList _ _ _ ({ dst := some 16, op := _, type := _, pos := _, after := _, guard := _ } :: _) _ _); refine wpList_load_mid rfl 45 (.tmp 15) rfl g (o + k * 33) rfl (Array.toList (X.1.cells X.2)) _ (HRG.out) Tryz.underlying45 rfl (by exact HZS.out) ?_)
              | ((with_reducible show wpList _ _ _ ({ dst := none, op := .store _ (.tmp 8) (.tmp 16), type := _, pos := _, after := _, guard := _ } :: _) _ _); refine wpl_store_st rfl (.tmp 8) (.tmp 16) rfl HZS.out (wr.heap.size) (z33) (X.1.cells X.2) rfl rfl (Row.new _ _ _) ?_ (hid (by first | rfl | simp)) (hid (by first | rfl | simp)) (hid (msc_one _ _)); intro w1 hr1 hg; have RM := hid hr1; have HB1 := hid ((HBE.out.alloc HBE.out.size (.cells z33 45)).trans (below_grown hg (by have := HBE.out.size; omega) (by simp; have := HBE.out.size; omega))); have RS1 := hid ((RS.out.alloc (.cells z33 45)).grown hg (by intro e; have := Option.some.inj e; have := HLT.out; omega)); have RE1 := hid ((RE.out.alloc (.cells z33 45)).grown hg (by intro e; have := Option.some.inj e; have := HLT.out; omega)); clear hr1 hg)
              | ((with_reducible show wpList _ _ _ ({ dst := some 18, op := _, type := _, pos := _, after := _, guard := _ } :: _) _ _); refine wpList_load_row rfl 45 (.tmp 8) rfl (wr.heap.size) rfl 45 (X.1.cells X.2) (0, 0) _ (Row.arr RM.out) Tryz.underlying45 rfl HZS.out ?_)
              | (go_at_call 56; refine (HS.out _ HB1.out).mono ?_; rintro e w2 ⟨rfl, hb⟩; have HB2 := hid (HB1.out.trans (hb.mono HB1.out.size)); have RS2 := hid (RS1.out.below hb RS1.out.lt); have RE2 := hid (RE1.out.below hb RE1.out.lt); have RM2 := hid (RM.out.below hb RM.out.lt); have HLT2 := hid (show w.heap.size + 1 < w2.heap.size by have := RE2.out.lt; omega); have HLM := hid (show wr.heap.size < w2.heap.size by have := RM2.out.lt; omega); clear hb)
              | ((with_reducible show wpList _ _ _ ({ dst := none, op := .store _ (.tmp 9) (.tmp 19), type := _, pos := _, after := _, guard := _ } :: _) _ _); refine wpl_store_st rfl (.tmp 9) (.tmp 19) rfl HZI.out (w2.heap.size) (#[.int .i64 0, .int .i64 0, .int .i64 0, .int .i64 0, .int .u64 0, .int .u64 0, .int .i64 0, .int .i64 0, .int .i64 0, .int .u64 0, .int .i64 0, .int .i64 0, .int .i64 0, .int .i64 0, .string ⟨#[]⟩]) (x.cells) rfl rfl (Row.new _ _ _) ?_ (hid (by first | rfl | simp)) (hid (by first | rfl | simp)) (hid (itc_one _)); intro w3 hr3 hg; have R3 := hid hr3; have HB3 := hid ((HB2.out.alloc HB2.out.size (.cells #[.int .i64 0, .int .i64 0, .int .i64 0, .int .i64 0, .int .u64 0, .int .u64 0, .int .i64 0, .int .i64 0, .int .i64 0, .int .u64 0, .int .i64 0, .int .i64 0, .int .i64 0, .int .i64 0, .string ⟨#[]⟩] 40)).trans (below_grown hg (by have := HB2.out.size; omega) (by simp; have := HB2.out.size; omega))); have RS3 := hid ((RS2.out.alloc (.cells #[.int .i64 0, .int .i64 0, .int .i64 0, .int .i64 0, .int .u64 0, .int .u64 0, .int .i64 0, .int .i64 0, .int .i64 0, .int .u64 0, .int .i64 0, .int .i64 0, .int .i64 0, .int .i64 0, .string ⟨#[]⟩] 40)).grown hg (by intro e; have := Option.some.inj e; have := HLT2.out; omega)); have RE3 := hid ((RE2.out.alloc (.cells #[.int .i64 0, .int .i64 0, .int .i64 0, .int .i64 0, .int .u64 0, .int .u64 0, .int .i64 0, .int .i64 0, .int .i64 0, .int .u64 0, .int .i64 0, .int .i64 0, .int .i64 0, .int .i64 0, .string ⟨#[]⟩] 40)).grown hg (by intro e; have := Option.some.inj e; have := HLT2.out; omega)); have RM3 := hid ((RM2.out.alloc (.cells #[.int .i64 0, .int .i64 0, .int .i64 0, .int .i64 0, .int .u64 0, .int .u64 0, .int .i64 0, .int .i64 0, .int .i64 0, .int .u64 0, .int .i64 0, .int .i64 0, .int .i64 0, .int .i64 0, .string ⟨#[]⟩] 40)).grown hg (by intro e; have := Option.some.inj e; have := HLM.out; omega)); have c0 : w3.cell? ⟨w2.heap.size, 0, none⟩ = some (.int .i64 x.kind) := hr3.cell 0; have c3 : w3.cell? ⟨wr.heap.size, 3, none⟩ = some (.int .i64 X.1.lv) := RM3.out.cell 3; clear hr3 hg))
            refine wp_region_held_drew (S := (fun W => Row W wr.heap.size 45 (X.1.cells X.2).toList ∧ Row W w2.heap.size 40 x.cells.toList ∧ Row W w.heap.size 38 (#[.int .i64 0, .int .i64 0, .int .i64 0, .int .u64 0, .int .u64 0] : Array Value).toList ∧ (∃ z : Array Value, z.size = 5 ∧ Row W (w.heap.size + 1) 38 z.toList) ∧ Below w.heap.size w W)) (by kernel_rfl) (⟨RM3.out.drew, R3.out.drew, RS3.out.drew, ⟨_, st_size18 s, RE3.out.drew⟩, HB3.out.drew⟩) (fun hH => ?_)
            refine tk_ (i := 0) (v := .pointer (some ⟨wr.heap.size, 3, none⟩)) rfl (Or.inl ⟨by rfl, fun w' hw' => by clear hw'; go_simp⟩) hH ?_
            simp only [Act.put, la1, la3, la4, la5, la6]
            refine tk_ (i := 1) (v := .int .i64 X.1.lv) rfl (Or.inl ⟨by rfl, fun w' hw' => by have h : w'.cell? ⟨wr.heap.size, 3, none⟩ = some (.int .i64 X.1.lv) := hw'.1.cell 3; clear hw'; go_simp⟩) hH ?_
            simp only [Act.put, la1, la2, la3, la4, la5, la6]
            refine wpAnyH_ready (rs := [2, 4]) (by kernel_rfl) (by simp) ?_
            refine AllReadyH.cons rfl (fun K hK => ?_) (AllReadyH.cons rfl (fun K hK => ?_) AllReadyH.nil)
            · go_simp
              refine hK.out _ _ hH (fun hH => ?_)
              clear hK K
              try simp only [Act.put, la1, la2, la3, la4, la5, la6]
              refine wpAnyH_ready (rs := [3, 4]) (by kernel_rfl) (by simp) ?_
              refine AllReadyH.cons rfl (fun K hK => ?_) (AllReadyH.cons rfl (fun K hK => ?_) AllReadyH.nil)
              · rw [if_pos (by kernel_rfl)]
                refine wp_load_mid 38 (.tmp 40) (by kernel_rfl) w2.heap.size 1 (by kernel_rfl) x.stub.cells.toList _ (it_stub hH.2.1) Tryz.underlying38 rfl (by exact HZT.out) ?_
                refine hK.out _ _ hH (fun hH => ?_)
                clear hK K
                try simp only [Act.put, la1, la2, la3, la4, la5, la6]
                refine rd1 (i := 4) (by kernel_rfl) rfl (fun K hK => ?_)
                go_simp
                refine hK.out _ _ (hH) (fun hH => ?_)
                clear hK K
                try simp only [Act.put, la1, la2, la3, la4, la5, la6]
                refine rd1 (i := 5) (by kernel_rfl) rfl (fun K hK => ?_)
                obtain ⟨hm8, hi8, hs8, ⟨z, hz5, ht8⟩, hb8⟩ := hH
                rw [if_pos (by kernel_rfl)]
                refine wp_store_st (.tmp 6) (.tmp 41) rfl HZT.out (w.heap.size + 1) z x.stub.cells rfl rfl ht8 hz5 rfl (stc_one _) (fun w9 hr9 hg9 => ?_)
                have hb9 : Below w.heap.size w w9 := hb8.trans (below_grown hg9 (by omega) hb8.size)
                have hs9 := hs8.grown hg9 (by intro e; have := Option.some.inj e; omega)
                refine hK.out _ _ ⟨hm8.grown hg9 (by intro e; have := Option.some.inj e; have := HLT.out; omega), hi8.grown hg9 (by intro e; have := Option.some.inj e; have := HLT2.out; omega), hs9, ⟨_, st_size18 x.stub, hr9⟩, hb9⟩ (fun hH => ?_)
                clear hK K hH
                try simp only [Act.put, la1, la2, la3]
                refine wpAnyH_done (by kernel_rfl) ?_ _
                try simp only [Act.put, la1, la2, la3, la4, la5, la6]
                go_wp2_with fail
                go_roundw
                case rel => exact ⟨k + 1, by omega, by go_num, X.1.lv, x.stub, rfl, HX, hid hs9, hid hr9, hid hb9⟩
                case measure => simp [intOf]; omega
              · go_simp
                refine hK.out _ _ hH (fun hH => ?_)
                clear hK K
                try simp only [Act.put, la1, la2, la3, la4, la5, la6]
                refine rd1 (i := 3) (by kernel_rfl) rfl (fun K hK => ?_)
                rw [if_pos (by kernel_rfl)]
                refine wp_load_mid 38 (.tmp 40) (by kernel_rfl) w2.heap.size 1 (by kernel_rfl) x.stub.cells.toList _ (it_stub hH.2.1) Tryz.underlying38 rfl (by exact HZT.out) ?_
                refine hK.out _ _ (hH) (fun hH => ?_)
                clear hK K
                try simp only [Act.put, la1, la2, la3, la4, la5, la6]
                refine rd1 (i := 5) (by kernel_rfl) rfl (fun K hK => ?_)
                obtain ⟨hm8, hi8, hs8, ⟨z, hz5, ht8⟩, hb8⟩ := hH
                rw [if_pos (by kernel_rfl)]
                refine wp_store_st (.tmp 6) (.tmp 41) rfl HZT.out (w.heap.size + 1) z x.stub.cells rfl rfl ht8 hz5 rfl (stc_one _) (fun w9 hr9 hg9 => ?_)
                have hb9 : Below w.heap.size w w9 := hb8.trans (below_grown hg9 (by omega) hb8.size)
                have hs9 := hs8.grown hg9 (by intro e; have := Option.some.inj e; omega)
                refine hK.out _ _ ⟨hm8.grown hg9 (by intro e; have := Option.some.inj e; have := HLT.out; omega), hi8.grown hg9 (by intro e; have := Option.some.inj e; have := HLT2.out; omega), hs9, ⟨_, st_size18 x.stub, hr9⟩, hb9⟩ (fun hH => ?_)
                clear hK K hH
                try simp only [Act.put, la1, la2, la3]
                refine wpAnyH_done (by kernel_rfl) ?_ _
                try simp only [Act.put, la1, la2, la3, la4, la5, la6]
                go_wp2_with fail
                go_roundw
                case rel => exact ⟨k + 1, by omega, by go_num, X.1.lv, x.stub, rfl, HX, hid hs9, hid hr9, hid hb9⟩
                case measure => simp [intOf]; omega
            · go_simp
              refine hK.out _ _ hH (fun hH => ?_)
              clear hK K
              try simp only [Act.put, la1, la2, la3, la4, la5, la6]
              refine tk_ (i := 2) (v := .pointer (some ⟨w2.heap.size, 1, none⟩)) rfl (Or.inl ⟨by rfl, fun w' hw' => by clear hw'; go_simp⟩) hH ?_
              simp only [Act.put, la1, la2, la3, la4, la5, la6]
              refine tk_ (i := 3) (v := .agg (x.stub.cells)) rfl (yieldsIf_load_mid rfl 38 (.tmp 40) rfl (w2.heap.size) (1) rfl (Array.toList (x.stub.cells)) _ (fun W hW => it_stub hW.2.1) Tryz.underlying38 rfl (by exact HZT.out)) hH ?_
              simp only [Act.put, la1, la2, la3, la4, la5, la6]
              refine rd1 (i := 5) (by kernel_rfl) rfl (fun K hK => ?_)
              obtain ⟨hm8, hi8, hs8, ⟨z, hz5, ht8⟩, hb8⟩ := hH
              rw [if_pos (by kernel_rfl)]
              refine wp_store_st (.tmp 6) (.tmp 41) rfl HZT.out (w.heap.size + 1) z x.stub.cells rfl rfl ht8 hz5 rfl (stc_one _) (fun w9 hr9 hg9 => ?_)
              have hb9 : Below w.heap.size w w9 := hb8.trans (below_grown hg9 (by omega) hb8.size)
              have hs9 := hs8.grown hg9 (by intro e; have := Option.some.inj e; omega)
              refine hK.out _ _ ⟨hm8.grown hg9 (by intro e; have := Option.some.inj e; have := HLT.out; omega), hi8.grown hg9 (by intro e; have := Option.some.inj e; have := HLT2.out; omega), hs9, ⟨_, st_size18 x.stub, hr9⟩, hb9⟩ (fun hH => ?_)
              clear hK K hH
              try simp only [Act.put, la1, la2, la3]
              refine wpAnyH_done (by kernel_rfl) ?_ _
              try simp only [Act.put, la1, la2, la3, la4, la5, la6]
              go_wp2_with fail
              go_roundw
              case rel => exact ⟨k + 1, by omega, by go_num, X.1.lv, x.stub, rfl, HX, hid hs9, hid hr9, hid hb9⟩
              case measure => simp [intOf]; omega
          · have d5 : decide (lv < X.1.lv) = false := decide_eq_false h5
            by_cases h6 : s = st0
            · have HX : Hid (stbQ (L.take (k + 1)) n = (X.1.lv, x.stub)) := hid (by rw [HQ.out, HSTEP.out, if_neg (by rintro (h | h); exact h3' h; exact h4 h), if_pos (.inr h6)])
              have HEQ : Hid (decide (s = st0) = true) := hid (decide_eq_true h6)
              clear HQ HSTEP h3' h6
              go_wp2_with (first
                | ((with_reducible show wpList _ _ _ ({ dst := some 16, op := _, type := _, pos := _, after := _, guard := _ } :: _) _ _); refine wpList_load_mid rfl 45 (.tmp 15) rfl g (o + k * 33) rfl (Array.toList (X.1.cells X.2)) _ (HRG.out) Tryz.underlying45 rfl (by exact HZS.out) ?_)
                | ((with_reducible show wpList _ _ _ ({ dst := none, op := .store _ (.tmp 8) (.tmp 16), type := _, pos := _, after := _, guard := _ } :: _) _ _); refine wpl_store_st rfl (.tmp 8) (.tmp 16) rfl HZS.out (wr.heap.size) (z33) (X.1.cells X.2) rfl rfl (Row.new _ _ _) ?_ (hid (by first | rfl | simp)) (hid (by first | rfl | simp)) (hid (msc_one _ _)); intro w1 hr1 hg; have RM := hid hr1; have HB1 := hid ((HBE.out.alloc HBE.out.size (.cells z33 45)).trans (below_grown hg (by have := HBE.out.size; omega) (by simp; have := HBE.out.size; omega))); have RS1 := hid ((RS.out.alloc (.cells z33 45)).grown hg (by intro e; have := Option.some.inj e; have := HLT.out; omega)); have RE1 := hid ((RE.out.alloc (.cells z33 45)).grown hg (by intro e; have := Option.some.inj e; have := HLT.out; omega)); clear hr1 hg)
                | ((with_reducible show wpList _ _ _ ({ dst := some 18, op := _, type := _, pos := _, after := _, guard := _ } :: _) _ _); refine wpList_load_row rfl 45 (.tmp 8) rfl (wr.heap.size) rfl 45 (X.1.cells X.2) (0, 0) _ (Row.arr RM.out) Tryz.underlying45 rfl HZS.out ?_)
                | (go_at_call 56; refine (HS.out _ HB1.out).mono ?_; rintro e w2 ⟨rfl, hb⟩; have HB2 := hid (HB1.out.trans (hb.mono HB1.out.size)); have RS2 := hid (RS1.out.below hb RS1.out.lt); have RE2 := hid (RE1.out.below hb RE1.out.lt); have RM2 := hid (RM.out.below hb RM.out.lt); have HLT2 := hid (show w.heap.size + 1 < w2.heap.size by have := RE2.out.lt; omega); have HLM := hid (show wr.heap.size < w2.heap.size by have := RM2.out.lt; omega); clear hb)
                | ((with_reducible show wpList _ _ _ ({ dst := none, op := .store _ (.tmp 9) (.tmp 19), type := _, pos := _, after := _, guard := _ } :: _) _ _); refine wpl_store_st rfl (.tmp 9) (.tmp 19) rfl HZI.out (w2.heap.size) (#[.int .i64 0, .int .i64 0, .int .i64 0, .int .i64 0, .int .u64 0, .int .u64 0, .int .i64 0, .int .i64 0, .int .i64 0, .int .u64 0, .int .i64 0, .int .i64 0, .int .i64 0, .int .i64 0, .string ⟨#[]⟩]) (x.cells) rfl rfl (Row.new _ _ _) ?_ (hid (by first | rfl | simp)) (hid (by first | rfl | simp)) (hid (itc_one _)); intro w3 hr3 hg; have R3 := hid hr3; have HB3 := hid ((HB2.out.alloc HB2.out.size (.cells #[.int .i64 0, .int .i64 0, .int .i64 0, .int .i64 0, .int .u64 0, .int .u64 0, .int .i64 0, .int .i64 0, .int .i64 0, .int .u64 0, .int .i64 0, .int .i64 0, .int .i64 0, .int .i64 0, .string ⟨#[]⟩] 40)).trans (below_grown hg (by have := HB2.out.size; omega) (by simp; have := HB2.out.size; omega))); have RS3 := hid ((RS2.out.alloc (.cells #[.int .i64 0, .int .i64 0, .int .i64 0, .int .i64 0, .int .u64 0, .int .u64 0, .int .i64 0, .int .i64 0, .int .i64 0, .int .u64 0, .int .i64 0, .int .i64 0, .int .i64 0, .int .i64 0, .string ⟨#[]⟩] 40)).grown hg (by intro e; have := Option.some.inj e; have := HLT2.out; omega)); have RE3 := hid ((RE2.out.alloc (.cells #[.int .i64 0, .int .i64 0, .int .i64 0, .int .i64 0, .int .u64 0, .int .u64 0, .int .i64 0, .int .i64 0, .int .i64 0, .int .u64 0, .int .i64 0, .int .i64 0, .int .i64 0, .int .i64 0, .string ⟨#[]⟩] 40)).grown hg (by intro e; have := Option.some.inj e; have := HLT2.out; omega)); have RM3 := hid ((RM2.out.alloc (.cells #[.int .i64 0, .int .i64 0, .int .i64 0, .int .i64 0, .int .u64 0, .int .u64 0, .int .i64 0, .int .i64 0, .int .i64 0, .int .u64 0, .int .i64 0, .int .i64 0, .int .i64 0, .int .i64 0, .string ⟨#[]⟩] 40)).grown hg (by intro e; have := Option.some.inj e; have := HLM.out; omega)); have c0 : w3.cell? ⟨w2.heap.size, 0, none⟩ = some (.int .i64 x.kind) := hr3.cell 0; have c3 : w3.cell? ⟨wr.heap.size, 3, none⟩ = some (.int .i64 X.1.lv) := RM3.out.cell 3; clear hr3 hg)
                | ((with_reducible show wpList _ _ _ ({ dst := some 34, op := _, type := _, pos := _, after := _, guard := _ } :: _) _ _); refine wpl_load_want rfl 38 (.tmp 6) rfl (w.heap.size + 1) rfl 38 (s.cells) (0, 0) _ (Row.arr RE3.out) Tryz.underlying38 rfl HZT.out ?_)
                | ((with_reducible show wpList _ _ _ ({ dst := some 36, op := _, type := _, pos := _, after := _, guard := _ } :: _) _ _); refine wpl_eqs rfl s st0 true (.tmp 34) (.tmp 35) _ rfl rfl rfl HEQ ?_))
              refine wp_region_held_drew (S := (fun W => Row W wr.heap.size 45 (X.1.cells X.2).toList ∧ Row W w2.heap.size 40 x.cells.toList ∧ Row W w.heap.size 38 (#[.int .i64 0, .int .i64 0, .int .i64 0, .int .u64 0, .int .u64 0] : Array Value).toList ∧ (∃ z : Array Value, z.size = 5 ∧ Row W (w.heap.size + 1) 38 z.toList) ∧ Below w.heap.size w W)) (by kernel_rfl) (⟨RM3.out.drew, R3.out.drew, RS3.out.drew, ⟨_, st_size18 s, RE3.out.drew⟩, HB3.out.drew⟩) (fun hH => ?_)
              refine tk_ (i := 0) (v := .pointer (some ⟨wr.heap.size, 3, none⟩)) rfl (Or.inl ⟨by rfl, fun w' hw' => by clear hw'; go_simp⟩) hH ?_
              simp only [Act.put, la1, la3, la4, la5, la6]
              refine tk_ (i := 1) (v := .int .i64 X.1.lv) rfl (Or.inl ⟨by rfl, fun w' hw' => by have h : w'.cell? ⟨wr.heap.size, 3, none⟩ = some (.int .i64 X.1.lv) := hw'.1.cell 3; clear hw'; go_simp⟩) hH ?_
              simp only [Act.put, la1, la2, la3, la4, la5, la6]
              refine wpAnyH_ready (rs := [2, 4]) (by kernel_rfl) (by simp) ?_
              refine AllReadyH.cons rfl (fun K hK => ?_) (AllReadyH.cons rfl (fun K hK => ?_) AllReadyH.nil)
              · go_simp
                refine hK.out _ _ hH (fun hH => ?_)
                clear hK K
                try simp only [Act.put, la1, la2, la3, la4, la5, la6]
                refine wpAnyH_ready (rs := [3, 4]) (by kernel_rfl) (by simp) ?_
                refine AllReadyH.cons rfl (fun K hK => ?_) (AllReadyH.cons rfl (fun K hK => ?_) AllReadyH.nil)
                · rw [if_pos (by kernel_rfl)]
                  refine wp_load_mid 38 (.tmp 40) (by kernel_rfl) w2.heap.size 1 (by kernel_rfl) x.stub.cells.toList _ (it_stub hH.2.1) Tryz.underlying38 rfl (by exact HZT.out) ?_
                  refine hK.out _ _ hH (fun hH => ?_)
                  clear hK K
                  try simp only [Act.put, la1, la2, la3, la4, la5, la6]
                  refine rd1 (i := 4) (by kernel_rfl) rfl (fun K hK => ?_)
                  go_simp
                  refine hK.out _ _ (hH) (fun hH => ?_)
                  clear hK K
                  try simp only [Act.put, la1, la2, la3, la4, la5, la6]
                  refine rd1 (i := 5) (by kernel_rfl) rfl (fun K hK => ?_)
                  obtain ⟨hm8, hi8, hs8, ⟨z, hz5, ht8⟩, hb8⟩ := hH
                  rw [if_pos (by kernel_rfl)]
                  refine wp_store_st (.tmp 6) (.tmp 41) rfl HZT.out (w.heap.size + 1) z x.stub.cells rfl rfl ht8 hz5 rfl (stc_one _) (fun w9 hr9 hg9 => ?_)
                  have hb9 : Below w.heap.size w w9 := hb8.trans (below_grown hg9 (by omega) hb8.size)
                  have hs9 := hs8.grown hg9 (by intro e; have := Option.some.inj e; omega)
                  refine hK.out _ _ ⟨hm8.grown hg9 (by intro e; have := Option.some.inj e; have := HLT.out; omega), hi8.grown hg9 (by intro e; have := Option.some.inj e; have := HLT2.out; omega), hs9, ⟨_, st_size18 x.stub, hr9⟩, hb9⟩ (fun hH => ?_)
                  clear hK K hH
                  try simp only [Act.put, la1, la2, la3]
                  refine wpAnyH_done (by kernel_rfl) ?_ _
                  try simp only [Act.put, la1, la2, la3, la4, la5, la6]
                  go_wp2_with fail
                  go_roundw
                  case rel => exact ⟨k + 1, by omega, by go_num, X.1.lv, x.stub, rfl, HX, hid hs9, hid hr9, hid hb9⟩
                  case measure => simp [intOf]; omega
                · go_simp
                  refine hK.out _ _ hH (fun hH => ?_)
                  clear hK K
                  try simp only [Act.put, la1, la2, la3, la4, la5, la6]
                  refine rd1 (i := 3) (by kernel_rfl) rfl (fun K hK => ?_)
                  rw [if_pos (by kernel_rfl)]
                  refine wp_load_mid 38 (.tmp 40) (by kernel_rfl) w2.heap.size 1 (by kernel_rfl) x.stub.cells.toList _ (it_stub hH.2.1) Tryz.underlying38 rfl (by exact HZT.out) ?_
                  refine hK.out _ _ (hH) (fun hH => ?_)
                  clear hK K
                  try simp only [Act.put, la1, la2, la3, la4, la5, la6]
                  refine rd1 (i := 5) (by kernel_rfl) rfl (fun K hK => ?_)
                  obtain ⟨hm8, hi8, hs8, ⟨z, hz5, ht8⟩, hb8⟩ := hH
                  rw [if_pos (by kernel_rfl)]
                  refine wp_store_st (.tmp 6) (.tmp 41) rfl HZT.out (w.heap.size + 1) z x.stub.cells rfl rfl ht8 hz5 rfl (stc_one _) (fun w9 hr9 hg9 => ?_)
                  have hb9 : Below w.heap.size w w9 := hb8.trans (below_grown hg9 (by omega) hb8.size)
                  have hs9 := hs8.grown hg9 (by intro e; have := Option.some.inj e; omega)
                  refine hK.out _ _ ⟨hm8.grown hg9 (by intro e; have := Option.some.inj e; have := HLT.out; omega), hi8.grown hg9 (by intro e; have := Option.some.inj e; have := HLT2.out; omega), hs9, ⟨_, st_size18 x.stub, hr9⟩, hb9⟩ (fun hH => ?_)
                  clear hK K hH
                  try simp only [Act.put, la1, la2, la3]
                  refine wpAnyH_done (by kernel_rfl) ?_ _
                  try simp only [Act.put, la1, la2, la3, la4, la5, la6]
                  go_wp2_with fail
                  go_roundw
                  case rel => exact ⟨k + 1, by omega, by go_num, X.1.lv, x.stub, rfl, HX, hid hs9, hid hr9, hid hb9⟩
                  case measure => simp [intOf]; omega
              · go_simp
                refine hK.out _ _ hH (fun hH => ?_)
                clear hK K
                try simp only [Act.put, la1, la2, la3, la4, la5, la6]
                refine tk_ (i := 2) (v := .pointer (some ⟨w2.heap.size, 1, none⟩)) rfl (Or.inl ⟨by rfl, fun w' hw' => by clear hw'; go_simp⟩) hH ?_
                simp only [Act.put, la1, la2, la3, la4, la5, la6]
                refine tk_ (i := 3) (v := .agg (x.stub.cells)) rfl (yieldsIf_load_mid rfl 38 (.tmp 40) rfl (w2.heap.size) (1) rfl (Array.toList (x.stub.cells)) _ (fun W hW => it_stub hW.2.1) Tryz.underlying38 rfl (by exact HZT.out)) hH ?_
                simp only [Act.put, la1, la2, la3, la4, la5, la6]
                refine rd1 (i := 5) (by kernel_rfl) rfl (fun K hK => ?_)
                obtain ⟨hm8, hi8, hs8, ⟨z, hz5, ht8⟩, hb8⟩ := hH
                rw [if_pos (by kernel_rfl)]
                refine wp_store_st (.tmp 6) (.tmp 41) rfl HZT.out (w.heap.size + 1) z x.stub.cells rfl rfl ht8 hz5 rfl (stc_one _) (fun w9 hr9 hg9 => ?_)
                have hb9 : Below w.heap.size w w9 := hb8.trans (below_grown hg9 (by omega) hb8.size)
                have hs9 := hs8.grown hg9 (by intro e; have := Option.some.inj e; omega)
                refine hK.out _ _ ⟨hm8.grown hg9 (by intro e; have := Option.some.inj e; have := HLT.out; omega), hi8.grown hg9 (by intro e; have := Option.some.inj e; have := HLT2.out; omega), hs9, ⟨_, st_size18 x.stub, hr9⟩, hb9⟩ (fun hH => ?_)
                clear hK K hH
                try simp only [Act.put, la1, la2, la3]
                refine wpAnyH_done (by kernel_rfl) ?_ _
                try simp only [Act.put, la1, la2, la3, la4, la5, la6]
                go_wp2_with fail
                go_roundw
                case rel => exact ⟨k + 1, by omega, by go_num, X.1.lv, x.stub, rfl, HX, hid hs9, hid hr9, hid hb9⟩
                case measure => simp [intOf]; omega
            · have HX : Hid (stbQ (L.take (k + 1)) n = (lv, s)) := hid (by rw [HQ.out, HSTEP.out, if_neg (by rintro (h | h); exact h3' h; exact h4 h), if_neg (by rintro (h | h); exact h5 h; exact h6 h)])
              have HEQ : Hid (decide (s = st0) = false) := hid (decide_eq_false h6)
              clear HQ HSTEP h3' h6
              go_wp2_with (first
                | ((with_reducible show wpList _ _ _ ({ dst := some 16, op := _, type := _, pos := _, after := _, guard := _ } :: _) _ _); refine wpList_load_mid rfl 45 (.tmp 15) rfl g (o + k * 33) rfl (Array.toList (X.1.cells X.2)) _ (HRG.out) Tryz.underlying45 rfl (by exact HZS.out) ?_)
                | ((with_reducible show wpList _ _ _ ({ dst := none, op := .store _ (.tmp 8) (.tmp 16), type := _, pos := _, after := _, guard := _ } :: _) _ _); refine wpl_store_st rfl (.tmp 8) (.tmp 16) rfl HZS.out (wr.heap.size) (z33) (X.1.cells X.2) rfl rfl (Row.new _ _ _) ?_ (hid (by first | rfl | simp)) (hid (by first | rfl | simp)) (hid (msc_one _ _)); intro w1 hr1 hg; have RM := hid hr1; have HB1 := hid ((HBE.out.alloc HBE.out.size (.cells z33 45)).trans (below_grown hg (by have := HBE.out.size; omega) (by simp; have := HBE.out.size; omega))); have RS1 := hid ((RS.out.alloc (.cells z33 45)).grown hg (by intro e; have := Option.some.inj e; have := HLT.out; omega)); have RE1 := hid ((RE.out.alloc (.cells z33 45)).grown hg (by intro e; have := Option.some.inj e; have := HLT.out; omega)); clear hr1 hg)
                | ((with_reducible show wpList _ _ _ ({ dst := some 18, op := _, type := _, pos := _, after := _, guard := _ } :: _) _ _); refine wpList_load_row rfl 45 (.tmp 8) rfl (wr.heap.size) rfl 45 (X.1.cells X.2) (0, 0) _ (Row.arr RM.out) Tryz.underlying45 rfl HZS.out ?_)
                | (go_at_call 56; refine (HS.out _ HB1.out).mono ?_; rintro e w2 ⟨rfl, hb⟩; have HB2 := hid (HB1.out.trans (hb.mono HB1.out.size)); have RS2 := hid (RS1.out.below hb RS1.out.lt); have RE2 := hid (RE1.out.below hb RE1.out.lt); have RM2 := hid (RM.out.below hb RM.out.lt); have HLT2 := hid (show w.heap.size + 1 < w2.heap.size by have := RE2.out.lt; omega); have HLM := hid (show wr.heap.size < w2.heap.size by have := RM2.out.lt; omega); clear hb)
                | ((with_reducible show wpList _ _ _ ({ dst := none, op := .store _ (.tmp 9) (.tmp 19), type := _, pos := _, after := _, guard := _ } :: _) _ _); refine wpl_store_st rfl (.tmp 9) (.tmp 19) rfl HZI.out (w2.heap.size) (#[.int .i64 0, .int .i64 0, .int .i64 0, .int .i64 0, .int .u64 0, .int .u64 0, .int .i64 0, .int .i64 0, .int .i64 0, .int .u64 0, .int .i64 0, .int .i64 0, .int .i64 0, .int .i64 0, .string ⟨#[]⟩]) (x.cells) rfl rfl (Row.new _ _ _) ?_ (hid (by first | rfl | simp)) (hid (by first | rfl | simp)) (hid (itc_one _)); intro w3 hr3 hg; have R3 := hid hr3; have HB3 := hid ((HB2.out.alloc HB2.out.size (.cells #[.int .i64 0, .int .i64 0, .int .i64 0, .int .i64 0, .int .u64 0, .int .u64 0, .int .i64 0, .int .i64 0, .int .i64 0, .int .u64 0, .int .i64 0, .int .i64 0, .int .i64 0, .int .i64 0, .string ⟨#[]⟩] 40)).trans (below_grown hg (by have := HB2.out.size; omega) (by simp; have := HB2.out.size; omega))); have RS3 := hid ((RS2.out.alloc (.cells #[.int .i64 0, .int .i64 0, .int .i64 0, .int .i64 0, .int .u64 0, .int .u64 0, .int .i64 0, .int .i64 0, .int .i64 0, .int .u64 0, .int .i64 0, .int .i64 0, .int .i64 0, .int .i64 0, .string ⟨#[]⟩] 40)).grown hg (by intro e; have := Option.some.inj e; have := HLT2.out; omega)); have RE3 := hid ((RE2.out.alloc (.cells #[.int .i64 0, .int .i64 0, .int .i64 0, .int .i64 0, .int .u64 0, .int .u64 0, .int .i64 0, .int .i64 0, .int .i64 0, .int .u64 0, .int .i64 0, .int .i64 0, .int .i64 0, .int .i64 0, .string ⟨#[]⟩] 40)).grown hg (by intro e; have := Option.some.inj e; have := HLT2.out; omega)); have RM3 := hid ((RM2.out.alloc (.cells #[.int .i64 0, .int .i64 0, .int .i64 0, .int .i64 0, .int .u64 0, .int .u64 0, .int .i64 0, .int .i64 0, .int .i64 0, .int .u64 0, .int .i64 0, .int .i64 0, .int .i64 0, .int .i64 0, .string ⟨#[]⟩] 40)).grown hg (by intro e; have := Option.some.inj e; have := HLM.out; omega)); have c0 : w3.cell? ⟨w2.heap.size, 0, none⟩ = some (.int .i64 x.kind) := hr3.cell 0; have c3 : w3.cell? ⟨wr.heap.size, 3, none⟩ = some (.int .i64 X.1.lv) := RM3.out.cell 3; clear hr3 hg)
                | ((with_reducible show wpList _ _ _ ({ dst := some 34, op := _, type := _, pos := _, after := _, guard := _ } :: _) _ _); refine wpl_load_want rfl 38 (.tmp 6) rfl (w.heap.size + 1) rfl 38 (s.cells) (0, 0) _ (Row.arr RE3.out) Tryz.underlying38 rfl HZT.out ?_)
                | ((with_reducible show wpList _ _ _ ({ dst := some 36, op := _, type := _, pos := _, after := _, guard := _ } :: _) _ _); refine wpl_eqs rfl s st0 false (.tmp 34) (.tmp 35) _ rfl rfl rfl HEQ ?_))
              go_roundw
              case rel => exact ⟨k + 1, by omega, by go_num, lv, s, rfl, HX, RS3, RE3, HB3⟩
              case measure => simp [intOf]; omega
    · obtain rfl : k = q := by omega
      have HX : Hid (END = (lv, s)) := hid (by rw [← HEND.out]; exact HT.out)
      go_wp2_with (first
        | ((with_reducible show wpList _ _ _ ({ dst := some 43, op := _, type := _, pos := _, after := _, guard := _ } :: _) _ _); refine wpList_load_row rfl 38 (.tmp 6) rfl (w.heap.size + 1) rfl 38 (s.cells) (0, 0) _ (Row.arr RE.out) Tryz.underlying38 rfl HZT.out ?_)
        | ((with_reducible show wpList _ _ _ ({ dst := none, op := .store _ (.tmp 4) (.tmp 43), type := _, pos := _, after := _, guard := _ } :: _) _ _); refine wpl_store_st rfl (.tmp 4) (.tmp 43) rfl HZT.out (w.heap.size) (#[.int .i64 0, .int .i64 0, .int .i64 0, .int .u64 0, .int .u64 0]) (s.cells) rfl rfl (RS.out) ?_ (hid (by first | rfl | simp)) (hid (by first | rfl | simp)) (hid (stc_one _)); intro w9 hr9 hg9))
      exact bodyPost_ret (v := .agg END.2.cells) (results_cell_row rfl _ _ w.heap.size 38 END.2.cells (0, 0) _ rfl (Row.arr (cs := END.2.cells) (by rw [HX.out]; exact hr9)) Tryz.underlying38 rfl HZT.out) rfl ⟨rfl, HBE.out.trans (below_grown hg9 (by omega) HBE.out.size)⟩
end Go.Proofs.YteahbalcielhpaaGreatDoor
