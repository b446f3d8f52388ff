/-
  The program's layNumbers, layEntry, layItem.
-/
import Derived.Test.YtcildaeiogdfdaaGreatDoorZ29
import Derived.Test.YtcildaeiogdfdaaGreatDoorZ21
import Derived.Test.YtcildaeiogdfdaaGreatDoorZ26
import Derived.Test.YtcildaeiogdfdaaGreatDoorZ12
import Derived.Test.YtcildaeiogdfdaaGreatDoorZ10
import Derived.Deep.AppendLies
namespace Go.Proofs.YtcildaeiogdfdaaGreatDoor
open Go.RowKit
set_option maxRecDepth 10000

/-- bytes of one's own, longer -/
def LY (w : World) (D : Nat) (r : List UInt8) (e : Ending) (w' : World) : Prop := ∃ v, e = .returned v ∧ w'.ownsRow D 5 1 v r.length (bvs r) ∧ Below D w w'
theorem own_growM {w w' : World} {D : Nat} {v : Value} {n : Nat} {xs : List Value} (h : w.ownsRow D 5 1 v n xs) (hg : w.grownBy w' v.ownBlock) (hD : D ≤ w.heap.size) : Below D w w' :=
  (Below.refl _ _).grown hg hD (fun k hk => (h.lt k hk).1)
theorem own_cellM {W : World} {B n : Nat} {g cap : Nat} {xs : List Value} (h : W.ownsRow B 5 1 (.slice (some ⟨g, 0, none⟩) n cap) n xs) : ∀ j u, xs[j]? = some u → W.cell? ((⟨g, 0, none⟩ : Addr).add j) = some u := by
  intro j u hu
  obtain ⟨A, c, hv, -, -, hr⟩ := own_shape h
  cases hv
  obtain ⟨g1, o1, e1, -, hc⟩ := hr (by intro e; subst e; simp at hu)
  cases e1
  rw [add_lit]
  exact hc j u hu
theorem bvs_oneM (l : List UInt8) : ∀ u ∈ bvs l, u.oneCell' = true := by
  intro u hu
  simp only [bvs, List.mem_map] at hu
  obtain ⟨b, -, rfl⟩ := hu
  rfl
set_option maxHeartbeats 2000000 in
theorem layNumbers_any (v : Value) (bs : List UInt8) (gN oN c D : Nat) (l : List Nat) (w : World) (hown : w.ownsRow D 5 1 v bs.length (bvs bs)) (hne : v.ownBlock ≠ some gN) (hD : D ≤ w.heap.size)
    (hcell : ∀ j (h : j < l.length), w.cell? ⟨gN, oN + j, none⟩ = some (.int .u64 ((l[j] : Nat) : Int))) (hpos : 0 < l.length) (h64 : ∀ n ∈ l, U64 n) (hl : l.length ≤ 1000) (hbs : bs.length ≤ 100000) (_hc : l.length ≤ c) :
    Calls Tryz.prog 40 #[v, .slice (some ⟨gN, oN, none⟩) l.length c] w (LY w D (bs ++ nb l)) := by
  obtain ⟨i0, hi, hz0, hz1, hz2⟩ := info_parts u8info
  have hgN : gN < w.heap.size := World.block_lt_of_cell? w _ (hcell 0 hpos)
  have HGN := hid hgN
  have HC : Hid (∀ W : World, W.heap[gN]? = w.heap[gN]? → ∀ j (h : j < l.length), W.cell? ⟨gN, oN + j, none⟩ = some (.int .u64 ((l[j] : Nat) : Int))) := hid fun W hW j h => (World.cell?_of_block (a := ⟨gN, oN + j, none⟩) hW).trans (hcell j h)
  have H64 : Hid (∀ k (hk : k < l.length), U64 l[k]) := hid (fun k hk => h64 _ (List.getElem_mem hk))
  have HO0 := hid hown
  have HNE := hid hne
  have HB0 : Hid (Below D w w) := hid (Below.refl _ _)
  have HDD := hid hD
  clear hcell h64 hown hne hgN
  go_enter Tryz.func40, Tryz.ntmps40
  go_wp2_with fail
  go_loopw [0, 11] (fun b i wr => ∃ k : Nat, k ≤ l.length ∧ i = .int .i64 (k : Int) ∧ Hid (wr.ownsRow D 5 1 b (bs.length + 8 * k) (bvs (bs ++ nb (l.take k)))) ∧ Hid (b.ownBlock ≠ some gN) ∧ Hid (wr.heap[gN]? = w.heap[gN]?) ∧ Hid (Below D w wr)) (fun _ i _ => l.length - (intOf i).toNat)
  case atStart => exact ⟨0, by omega, rfl, hid (by have := HO0.out; simpa [nb] using this), HNE, hid rfl, HB0⟩
  case round =>
    obtain ⟨k, hk, rfl, HO, HNE, HG, HB⟩ := hrel
    by_cases hlt : k < l.length
    · have hce := HC.out _ HG.out k hlt
      have hi1 : (k : Int) < (l.length : Int) := by omega
      have hi0 : (0 : Int) ≤ (k : Int) := by omega
      have HP := hid (put_eight none [] 0 0 l[k] 0 wr Rd.nil rfl (H64.out k hlt) (Nat.zero_le _) (by omega))
      have HT := hid (nb_take l k hlt)
      generalize l[k] = x at hce HP HT
      have HWR := hid (Nat.lt_of_lt_of_le HGN.out HB.out.size)
      clear hlt
      go_wp2_with (first
        | (go_at_call 71; refine HP.out.mono ?_; rintro e w2 ⟨A2, c2, rfl, hown2, hb2⟩; have HO2 := hid (own_belowM HO.out hb2); have HP2 := hid hown2; have HB2 := hid hb2; obtain ⟨g2, cap2, hv2, hg2, hl2⟩ := World.ownsRow.form hown2 (by omega); cases hv2; clear hown2 hb2)
        | (refine wpList_append_lies _ rfl (.tmp 20) (.tmp 21) 47 rfl D 5 i0 _ 1 1 Tryz.underlying47 hi hz0 hz1 hz2 rfl (by omega) _ (bs.length + 8 * k) _ rfl HO2.out ⟨g2, 0, none⟩ 8 _ (bvs ([] ++ le x 8)) rfl (by simp [le_len, bvs_len]) (fun j u hu => own_cellM HP2.out j u hu) (bvs_oneM _) (by omega) (le_maxLen (by omega)) (by omega) (Nat.le_trans HDD.out (Nat.le_trans HB.out.size HB2.out.size)) _ rfl ?_; intro g3 c3 w3 hown3 hg3 hor3 hlt3))
      go_roundw
      case rel =>
        refine ⟨k + 1, by omega, by go_num, hid ?_, hid ?_, hid ?_, hid ?_⟩
        · rw [HT.out, ← List.append_assoc, bvs_app (bs ++ nb (l.take k)), show bs.length + 8 * (k + 1) = bs.length + 8 * k + (0 + 8) by omega]
          exact hown3
        · intro e
          have e : g3 = gN := Option.some.inj e
          rcases hor3 with h | h
          · exact HNE.out (h.trans (congrArg some e))
          · have := HWR.out; have := HB2.out.size; omega
        · exact ((hg3.block gN (by have := HWR.out; have := HB2.out.size; omega) (fun e => HNE.out e.symm)).trans (HB2.out.block gN HWR.out)).trans HG.out
        · exact HB.out.trans ((HB2.out.mono (Nat.le_trans HDD.out HB.out.size)).trans (own_growM HO2.out hg3 (Nat.le_trans HDD.out (Nat.le_trans HB.out.size HB2.out.size))))
      case measure => simp [intOf]; omega
    · obtain rfl : k = l.length := by omega
      have HT : Hid (l.take l.length = l) := hid List.take_length
      go_wp2_with fail
      go_ret
      refine ⟨_, rfl, ?_, HB.out⟩
      have h := HO.out
      rw [HT.out] at h
      rw [List.length_append, nb_len]
      exact h
set_option maxHeartbeats 2000000 in
theorem layEntry_any (v : Value) (bs : List UInt8) (e : En) (D : Nat) (w : World) (hown : w.ownsRow D 5 1 v bs.length (bvs bs)) (hD : D ≤ w.heap.size) (he : e.fits) (hr : Rt e) (hfd : Fd w) (hbs : bs.length ≤ 100000) :
    Calls Tryz.prog 41 #[v, e.val] w (LY w D (bs ++ textE e)) := by
  show Calls _ _ #[v, .agg e.cells] _ _
  obtain ⟨i0, hi, hz0, hz1, hz2⟩ := info_parts u8info
  have hpk := packE_rt he hr
  have HTL := hid (textE_len he hr)
  have HPK : Hid (∀ W, Below w.heap.size w W → Calls Tryz.prog 72 #[.agg e.cells] W (SN W ((packE e).1, 0))) := hid fun W hW => by
    have h := epack_any e W (hfd.below hW hfd.1)
    rwa [show packE e = ((packE e).1, 0) by rw [← hpk.1]] at h
  have HPT : Hid (∀ W, Calls Tryz.prog 73 #[.slice none 0 0, .string ⟨(packE e).1.toArray⟩] W (BE W (textE e, 0))) := hid fun W => by
    have h := pt_any none [] 0 0 0 ⟨(packE e).1.toArray⟩ W Rd.nil rfl (Nat.zero_le _) (by omega)
    rw [sb_mk] at h
    unfold ptS at h
    rw [if_neg (by omega), List.nil_append] at h
    exact h
  have HZE := hid esize
  have HO0 := hid (own_allocM hown (.cells e.cells 28))
  have HB0 : Hid (Below w.heap.size w (w.alloc (.cells e.cells 28))) := hid ((Below.refl _ _).alloc (Nat.le_refl _) _)
  have R1 : Hid (Row (w.alloc (.cells e.cells 28)) w.heap.size 28 e.cells.toList) := hid (Row.new _ _ _)
  have HDD := hid hD
  generalize (packE e).1 = T at *
  generalize textE e = X at *
  clear hown hfd hpk
  go_enter Tryz.func41, Tryz.ntmps41
  go_wp2_with (first
    | ((with_reducible show wpList _ _ _ ({ dst := some 10, op := _, type := _, pos := _, after := _, guard := _ } :: _) _ _); refine wpList_load_row rfl 28 (.tmp 3) rfl w.heap.size rfl 28 (e.cells) (0, 0) _ (Row.arr R1.out) Tryz.underlying28 rfl HZE.out ?_)
    | (go_at_call 72; refine (HPK.out _ HB0.out).mono ?_; rintro x w1 ⟨rfl, hb1⟩; have HO1 := hid (own_belowM HO0.out hb1); have HB1 := hid (HB0.out.trans (hb1.mono HB0.out.size)))
    | (go_at_call 73; refine (HPT.out _).mono ?_; rintro x w2 ⟨A2, c2, rfl, hown2, hb2⟩; have HO2 := hid (own_belowM HO1.out hb2); have HB2 := hid (HB1.out.trans (hb2.mono HB1.out.size)); have HX : Hid (Rd w2 w2.heap.size A2 (bvs X)) := hid (by obtain ⟨A, c, hv, -, -, hr⟩ := own_shape hown2; cases hv; exact hr); clear hown2 hb2)
    | (refine wpl_append rfl (.tmp 19) (.tmp 20) 47 rfl D 5 i0 _ 1 1 Tryz.underlying47 hi hz0 hz1 hz2 rfl (by omega) v bs.length _ rfl HO2.out w2.heap.size A2 X.length c2 (bvs X) rfl ?_ HX (hid (by simp [bvs_len])) (hid (bvs_oneM _)) (hid (le_maxLen (by have := HTL.out; omega))) (hid (by have := HTL.out; omega)) (hid (Nat.le_trans HDD.out HB2.out.size)); intro v3 w3 hown3 hb3 hg3))
  go_ret
  refine ⟨_, rfl, ?_, (HB2.out.mono HDD.out).trans hb3⟩
  rw [List.length_append, bvs_app]
  exact hown3
/-- over a list that was just laid -/
theorem layN_new (v : Value) (bs : List UInt8) (l : List Nat) (cs : Array Value) (n D : Nat) (W : World) (g : Nat) (hg : g = W.heap.size) (hown : W.ownsRow D 5 1 v bs.length (bvs bs)) (hD : D ≤ W.heap.size) (hcs : cs.toList = av l) (hn : l.length = n)
    (hpos : 0 < l.length) (h64 : ∀ n ∈ l, U64 n) (hl : l.length ≤ 1000) (hbs : bs.length ≤ 100000) :
    Calls Tryz.prog 40 #[v, .slice (some ⟨g, 0, none⟩) n n] (W.alloc (.cells cs 23)) (LY W D (bs ++ nb l)) := by
  subst hg hn
  have hr := Row.new W 23 cs
  rw [hcs] at hr
  have h := layNumbers_any v bs W.heap.size 0 l.length D l (W.alloc (.cells cs 23)) (own_allocM hown _) (fun e => by have := (hown.lt _ e).2; omega) (by simp; omega)
    (fun j hj => by rw [Nat.zero_add, hr.cell]; exact av_get l j hj) hpos h64 hl hbs (Nat.le_refl _)
  exact h.mono fun e w' ⟨v1, h1, h2, h3⟩ => ⟨v1, h1, h2, ((Below.refl _ _).alloc hD _).trans h3⟩
end Go.Proofs.YtcildaeiogdfdaaGreatDoor
