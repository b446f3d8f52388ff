/-
  The walks of package ledger's takeTransfer and takeAll.
-/
import Derived.Test.YtdimlfjepliflaaGreatDoorD15
import Derived.Test.YtdimlfjepliflaaGreatDoorD11
import Derived.Test.YtdimlfjepliflaaGreatDoorLiftX
import Derived.Test.YtdimlfjepliflaaGreatDoorEvX
import Derived.Test.YtdimlfjepliflaaGreatDoorWholepX
import Derived.Test.YtdimlfjepliflaaGreatDoorLgX
import Derived.Test.YtdimlfjepliflaaGreatDoorHubX
namespace Go.Proofs.YtdimlfjepliflaaGreatDoor
open Go.RowKit
set_option maxRecDepth 10000

/-- make([]T, n) of elements of more cells, at an operation -/
theorem wpo_make_big {P : Program} {w : World} {o : Oper} {a : Act} {K : Act → World → Prop} {Q : Exit → Act → World → Prop}
    (l c : Operand) (t : TypeId) (hop : o.op = Op.makeSlice t l c)
    (e : TypeId) (i : TypeInfo) (z : Value) (zs : List Value) (h1 : P.underlying t = some (.slice e)) (h2 : P.info? e = some i) (h3 : i.zero = some z) (h4 : i.size = zs.length) (hz : z.cells = zs.toArray) (hpos : 0 < zs.length)
    (kl kc : IntKind) (n : Nat) (hl : a.eval l = .int kl (n : Int)) (hc : a.eval c = .int kc (n : Int)) (b2 : i.bytes * n ≤ 281474976710656) (b3 : n ≤ maxLen)
    (hK : ∀ w', Row w' w.heap.size e (List.replicate n zs).flatten → w.grownBy w' none → K (a.put o.dst (.slice (some ⟨w.heap.size, 0, none⟩) n n)) w') : o.wp P a w K Q := by
  obtain ⟨w', hrun, hown, hgr⟩ := run_make_full (P := P) w w.heap.size t e i z zs.length h1 h2 h3 h4 kl kc n b2 b3 (Nat.le_refl _)
  have hrow : Row w' w.heap.size e (List.replicate n zs).flatten := by
    rcases hown.2 with ⟨hv, _⟩ | ⟨g, cap, cur, hv, _, hh, _, _, h5, h6⟩
    · simp at hv
    · simp only [Value.slice.injEq, Option.some.injEq, Addr.mk.injEq, true_and, and_true] at hv
      obtain ⟨rfl, rfl⟩ := hv
      have : cur = ((List.replicate n zs).flatten).toArray := by
        apply Array.toList_inj.1
        have h7 : cur.toList.take (n * zs.length) = cur.toList := List.take_of_length_le (by simp only [Array.length_toList]; omega)
        rw [← h7, h6, hz, madeCells_flat zs n hpos]
      subst this
      exact hh
  unfold Oper.wp
  simp [execOp, hop, hl, hc, hrun, Result.andThen]
  exact hK w' hrow hgr
/-- a store of a struct somewhere in a row -/
theorem wpl_store_any {P : Program} {ops : Array Oper} {rest : List Oper} {o : Oper} {a : Act} {w : World} {Q : Exit → Act → World → Prop} (hgd : o.guard = none) {T : TypeId} (x y : Operand) (ho : o.op = .store T x y) {m : Nat} (hm : (P.info? T).map (·.size) = some m)
    (g off : Nat) (xs v : List Value) (hx : a.eval x = .pointer (some ⟨g, off, none⟩)) (hy : a.eval y = .agg v.toArray) (hrow : Row w g T xs)
    (hK : ∀ w', w.grownBy w' (some g) → wpList P ops Q rest (a.put o.dst undef) w') (hv : Hid (v.length = m)) (hoff : Hid (off + m ≤ xs.length)) (hone : Hid (v.all (·.oneCell') = true)) : wpList P ops Q (o :: rest) a w := by
  have h1 := hv.out
  have h2 := hoff.out
  obtain ⟨_, h3⟩ := hrow.setCells v off (by omega)
  exact wpList_store_mid hgd T x y ho g off v.toArray hx hy (by rw [List.size_toArray]; exact hrow.there _ _ (by omega)) (by rw [List.size_toArray, h1]; exact hm) (by simpa using hone.out) (hK _ h3)
theorem takL_one (s : ByteArray) (h : s.size = 32) : takL 32 decT (sb s) = ([decT (sb s)], true) := by
  have hl : (sb s).length = 32 := by rw [sb_len, h]
  rw [takL_yes 32 decT (sb s) (by rw [hl]) (by rw [hl]; decide) (by rw [hl]; decide), hl]
  simp only [firstk, piece]
  rw [show List.range (32 / 32) = [0] from rfl]
  simp only [List.map_cons, List.map_nil, Nat.zero_mul, List.drop_zero]
  rw [List.take_of_length_le (by omega)]
theorem takL_few (s : ByteArray) (h : s.size < 32) : takL 32 decT (sb s) = ([], false) := by
  refine takL_no 32 decT (sb s) (.inr ?_)
  rw [sb_len, Nat.div_eq_of_lt h]
  omega
set_option maxHeartbeats 400000 in
theorem taket_no (s : ByteArray) (w : World) (h : s.size < 32) : Calls Tryz.prog 102 #[.string s] w (AB w (tr0.cells, false)) := by
  have HT := hid (fun W => takt_list s W (by omega))
  rw [takL_few s h] at HT
  have HT2 : Hid (∀ W : World, Calls Tryz.prog 117 #[.string s] W fun e w' => ∃ A c, e = .returned (.tuple #[.slice A 0 c, .bool false]) ∧ Below W.heap.size W w') := hid fun W => (HT.out W).mono fun e w' ⟨A, c, h1, _, _, h2, _⟩ => ⟨A, c, h1, h2⟩
  have HZ := hid trSize
  clear HT h
  go_enter Tryz.func102, Tryz.ntmps102
  go_wp2_with (first
    | (go_at_call 117; refine (HT2.out _).mono ?_; rintro e w1 ⟨A, c, rfl, hb1⟩; have hz1 : Row w1 w.heap.size 90 tr0.cells := (Row.new w 90 tr0.cells.toArray).below hb1 (by simp))
    | (refine wpl_store_st rfl (.tmp 2) (.tmp 13) rfl HZ.out w.heap.size tr0.cells tr0.cells rfl rfl hz1 ?_ (hid rfl) (hid rfl) (hid rfl); intro w3 hr3 hg3))
  refine bodyPost_ret (results_cell1 rfl _ _ w.heap.size 90 tr0.cells.toArray (0, 0) _ (.bool false) rfl rfl hr3.arr' Tryz.underlying90 rfl HZ.out) rfl ⟨rfl, ?_⟩
  have hbw : Below w.heap.size w w1 := ((Below.refl _ _).alloc (Nat.le_refl _) _).trans (hb1.mono (by simp))
  exact hbw.trans (below_grown hg3 (Nat.le_refl _) hbw.size)
set_option maxHeartbeats 400000 in
theorem taket_yes (s : ByteArray) (w : World) (h : s.size = 32) : Calls Tryz.prog 102 #[.string s] w (AB w ((decT (sb s)).cells, true)) := by
  have HT := hid (fun W => takt_list s W (by omega))
  rw [takL_one s h] at HT
  have HC4 : Hid ((decT (sb s)).cells.length = 4) := hid rfl
  have HC1 : Hid ((decT (sb s)).cells.all (·.oneCell') = true) := hid rfl
  have HT2 : Hid (∀ W : World, Calls Tryz.prog 117 #[.string s] W fun e w' => ∃ g o c, e = .returned (.tuple #[.slice (some ⟨g, o, none⟩) 1 c, .bool true]) ∧ w'.rangeAt g o (decT (sb s)).cells ∧ Below W.heap.size W w') := hid fun W => (HT.out W).mono fun e w' ⟨A, c, h1, _, hrd, h2, _⟩ => by
    simp only at hrd
    rw [rows1] at hrd
    obtain ⟨g, o, rfl, _, hc⟩ := hrd (by simp [Tr.cells])
    exact ⟨g, o, c, h1, fun j v hv => hc j v hv, h2⟩
  generalize (decT (sb s)).cells = X at *
  have HZ := hid trSize
  clear HT h
  go_enter Tryz.func102, Tryz.ntmps102
  go_wp2_with (first
    | (go_at_call 117; refine (HT2.out _).mono ?_; rintro e w1 ⟨g, o, c, rfl, hrg, hb1⟩; have HRG := hid hrg; clear hrg; have hz1 : Row w1 w.heap.size 90 tr0.cells := (Row.new w 90 tr0.cells.toArray).below hb1 (by simp))
    | (refine wpList_load_mid rfl 90 (.tmp 15) rfl g o rfl X _ HRG.out Tryz.underlying90 rfl (by rw [HC4.out]; exact HZ.out) ?_)
    | (refine wpl_store_st rfl (.tmp 2) (.tmp 16) rfl HZ.out w.heap.size tr0.cells X rfl rfl hz1 ?_ (hid rfl) (hid HC4.out) (hid HC1.out); intro w3 hr3 hg3))
  refine bodyPost_ret (results_cell1 rfl _ _ w.heap.size 90 X.toArray (0, 0) _ (.bool true) rfl rfl hr3.arr' Tryz.underlying90 rfl (by rw [List.size_toArray, HC4.out]; exact HZ.out)) rfl ⟨rfl, ?_⟩
  have hbw : Below w.heap.size w w1 := ((Below.refl _ _).alloc (Nat.le_refl _) _).trans (hb1.mono (by simp))
  exact hbw.trans (below_grown hg3 (Nat.le_refl _) hbw.size)
theorem whole_few (s : ByteArray) (w : World) (h : s.size < 25) : Calls Tryz.prog 100 #[.string s] w (AB w (ac0.cells, false)) := wh_no s w (bne_iff_ne.2 (by omega))
/-! ### takeAll -/
/-- nothing can be taken -/
def TN (w : World) (e : Ending) (w' : World) : Prop := e = .returned (.tuple #[.slice none 0 0, .string ⟨#[]⟩, .bool false]) ∧ Below w.heap.size w w'
/-- a list in a row of its own, and what is behind it -/
def TY {α : Type} (T : TypeId) (C : α → List Value) (w : World) (l : List α) (rest : List UInt8) (e : Ending) (w' : World) : Prop :=
  ∃ g, e = .returned (.tuple #[.slice (some ⟨g, 0, none⟩) l.length l.length, .string ⟨rest.toArray⟩, .bool true]) ∧ Row w' g T (rows C l) ∧ w.heap.size ≤ g ∧ Below w.heap.size w w'
def TR {α : Type} (T : TypeId) (C : α → List Value) (w : World) (ok : Prop) (l : List α) (rest : List UInt8) (e : Ending) (w' : World) : Prop := (ok → TY T C w l rest e w') ∧ (¬ ok → TN w e w')
theorem sb_zero (s : ByteArray) (h : 0 < s.size) : num0 (sb s) = (s[0]'h).toNat := by
  unfold num0
  rw [List.getD, List.getElem?_eq_getElem (by rw [sb_len]; exact h)]
  rfl
set_option maxHeartbeats 400000 in
theorem takealla_none (s : ByteArray) (w : World) (h : s.size = 0) : Calls Tryz.prog 99 #[.string s, .int .i64 8, .int .i64 25, .func (.func 100) #[] #[]] w (TN w) := by
  obtain rfl := empty_of h
  clear h
  go_enter Tryz.func99, Tryz.ntmps99
  go_wp2_with fail
  go_ret3
  exact ⟨rfl, Below.refl _ _⟩
set_option maxHeartbeats 400000 in
theorem takealla_many (s : ByteArray) (w : World) (h0 : 0 < s.size) (hm : 8 < num0 (sb s)) : Calls Tryz.prog 99 #[.string s, .int .i64 8, .int .i64 25, .func (.func 100) #[] #[]] w (TN w) := by
  have hne := full_of (show ¬ s.size = 0 by omega)
  rw [sb_zero s h0] at hm
  have hn255 := UInt8.toNat_lt (s[0]'h0)
  have hix : (0 : Int) < (s.size : Int) := by omega
  have hw8 : IntKind.i64.wrap ((s[0]'h0).toNat : Int) = ((s[0]'h0).toNat : Int) := IntWalk.i64_in _ (by omega)
  have hgt : (8 : Int) < ((s[0]'h0).toNat : Int) := by omega
  go_enter Tryz.func99, Tryz.ntmps99
  go_wp2_with fail
  go_ret3
  exact ⟨rfl, Below.refl _ _⟩
set_option maxHeartbeats 2000000 in
theorem takealla_go (s : ByteArray) (w : World) (h0 : 0 < s.size) (hm : num0 (sb s) ≤ 8) (hs : s.size ≤ 140737488355328) :
    Calls Tryz.prog 99 #[.string s, .int .i64 8, .int .i64 25, .func (.func 100) #[] #[]] w (TR 88 Ac.cells w (1 + 25 * num0 (sb s) ≤ s.size) (firstk 25 decW ((sb s).drop 1) (num0 (sb s))) ((sb s).drop (1 + 25 * num0 (sb s)))) := by
  obtain ⟨i0, hi, hz0, hz1, hz2⟩ := info_parts acInfo
  have hne := full_of (show ¬ s.size = 0 by omega)
  have hix : (0 : Int) < (s.size : Int) := by omega
  have hix2 : (1 : Int) ≤ (s.size : Int) := by omega
  obtain ⟨n, hn⟩ : ∃ n, (s[0]'h0).toNat = n := ⟨_, rfl⟩
  have hn255 := UInt8.toNat_lt (s[0]'h0)
  have hn8 := hm
  rw [sb_zero s h0, hn] at hn8
  rw [hn] at hn255
  have hw8 : wrap64 ((s[0]'h0).toNat : Int) = (n : Int) := by rw [hn]; exact IntWalk.wrap64_in _ ⟨by omega, by omega⟩
  have HS0 := hid hn
  have HZ := hid acSize
  rw [sb_zero s h0, hn]
  clear hn
  have hXl : ((firstk 25 decW ((sb s).drop 1) n).map Ac.cells).length = n := by rw [List.length_map, firstk_len]
  have hX1 : ∀ r ∈ (firstk 25 decW ((sb s).drop 1) n).map Ac.cells, r.length = 4 := by
    intro r hr
    obtain ⟨x, _, rfl⟩ := List.mem_map.1 hr
    rfl
  have hXk : ∀ k, k < n → ((firstk 25 decW ((sb s).drop 1) n).map Ac.cells)[k]? = some (Ac.cells (decW (piece 25 ((sb s).drop 1) k))) := by
    intro k hk
    simp [firstk, hk]
  have hXe : ((firstk 25 decW ((sb s).drop 1) n).map Ac.cells).flatten = rows Ac.cells (firstk 25 decW ((sb s).drop 1) n) := rfl
  generalize ((firstk 25 decW ((sb s).drop 1) n).map Ac.cells) = XS at *
  have HXL := hid hXl
  have HX1 := hid hX1
  have HXK := hid hXk
  have HXE := hid hXe
  have HZ4 : Hid (ac0.cells.length = 4) := hid rfl
  have HZ1 : Hid (ac0.cells.all (·.oneCell') = true) := hid rfl
  have hgt : ¬ (8 : Int) < (n : Int) := by omega
  have HSB := hid (sb_len s)
  clear hXl hX1 hXk hXe hm
  go_enter Tryz.func99, Tryz.ntmps99
  go_wp2_with fail
  refine wp_region_held_drew (S := fun _ => True) (by kernel_rfl) trivial (fun hH => ?_)
  refine wpAnyH_take (i := 0) (v := .string s) rfl (by kernel_rfl) (by kernel_rfl) (by kernel_rfl) (fun _ _ _ h => h) (Or.inl ⟨by rfl, fun w' hw' => by clear hw' ; go_simp⟩) hH ?_
  simp only [Act.put]
  refine wpAnyH_take (i := 1) (v := .int .u8 (n : Int)) rfl (by kernel_rfl) (by kernel_rfl) (by kernel_rfl) (fun _ _ _ h => h) (Or.inl ⟨by rfl, fun w' hw' => by have h := HS0.out; go_simp⟩) hH ?_
  simp only [Act.put]
  refine wpAnyH_take (i := 3) (v := .string s) rfl (by kernel_rfl) (by kernel_rfl) (by kernel_rfl) (fun _ _ _ h => h) (Or.inl ⟨by rfl, fun w' hw' => by clear hw' ; go_simp⟩) hH ?_
  simp only [Act.put]
  refine wpAnyH_take (i := 4) (v := .string (s.extract 1 s.size)) rfl (by kernel_rfl) (by kernel_rfl) (by kernel_rfl) (fun _ _ _ h => h) (Or.inl ⟨by rfl, fun w' hw' => by clear hw' ; go_simp⟩) hH ?_
  simp only [Act.put]
  refine wpAnyH_ready (rs := [2]) (by kernel_rfl) (by simp) ?_
  refine AllReadyH.cons rfl (fun K hK => ?_) AllReadyH.nil
  rw [if_pos (by rfl)]
  refine wpo_make_big _ _ _ rfl 88 i0 _ ac0.cells Tryz.underlying53 hi hz0 hz1 rfl (by decide) _ _ n rfl rfl (by rw [hz2]; omega) (le_maxLen (by omega)) (fun w1 hr1 hg1 => ?_)
  refine hK.out _ _ trivial (fun hH => ?_)
  clear hK K
  try simp only [Act.put]
  refine wpAnyH_ready (rs := [5]) (by kernel_rfl) (by simp) ?_
  refine AllReadyH.cons rfl (fun K hK => ?_) AllReadyH.nil
  go_simp
  refine hK.out _ _ (trivial) (fun hH => ?_)
  clear hK K
  try simp only [Act.put]
  refine wpAnyH_ready (rs := [6]) (by kernel_rfl) (by simp) ?_
  refine AllReadyH.cons rfl (fun K hK => ?_) AllReadyH.nil
  go_simp
  refine hK.out _ _ (trivial) (fun hH => ?_)
  clear hK K
  try simp only [Act.put]
  refine wpAnyH_done (by kernel_rfl) ?_ _
  try simp only [Act.put]
  have HB1 : Hid (Below w.heap.size w w1) := hid ((Below.drew (Below.refl w.heap.size w)).grown hg1 (Nat.le_refl _) (by intro k hk; cases hk))
  have HRW : Hid (Row w1 w.heap.size 88 (List.replicate n ac0.cells).flatten) := hid hr1
  clear hr1 hg1 hH hne hix hix2 hw8 HS0
  go_wp2_with fail
  go_loopw [0, 30] (fun sv i wr => ∃ (k : Nat) (s' : ByteArray), k ≤ n ∧ i = .int .i64 (k : Int) ∧ sv = .string s' ∧ Hid (sb s' = (sb s).drop (1 + 25 * k) ∧ 1 + 25 * k ≤ s.size) ∧ Row wr w.heap.size 88 (part XS ac0.cells n k).flatten ∧ Below w.heap.size w wr) (fun _ i _ => n - (intOf i).toNat)
  case atStart => exact ⟨0, s.extract 1 s.size, by omega, rfl, rfl, hid ⟨by rw [sb_extract, List.take_of_length_le (by rw [List.length_drop, sb_len]; omega)], by omega⟩, by rw [part_zero]; exact HRW.out, HB1.out⟩
  case round =>
    obtain ⟨k, s', hk, rfl, rfl, HSS, hrow, hbe⟩ := hrel
    have HBE := hid hbe
    have hsz : s'.size = s.size - (1 + 25 * k) := by
      have := HSS.out.1
      rw [← sb_len, this, List.length_drop, HSB.out]
    by_cases hlt : k < n
    · have hi0 : (k : Int) < (n : Int) := by omega
      have hi1 : (0 : Int) ≤ (k : Int) := by omega
      by_cases hfew : s'.size < 25
      · have hmn : min (25 : Int) (s'.size : Int) = (s'.size : Int) := by omega
        have HT := hid (fun W => whole_few s' W hfew)
        have HNO : Hid (¬ 1 + 25 * n ≤ s.size) := hid (by
          have h1 : 25 * (k + 1) ≤ 25 * n := Nat.mul_le_mul_left _ hlt
          have := HSS.out.2
          omega)
        have hpl := part_flat HXL.out HX1.out HZ4.out k hk
        have HPL : Hid (k * 4 + 4 ≤ (part XS ac0.cells n k).flatten.length) := hid (by omega)
        have HRR := hid (fun W (hW : Below wr.heap.size wr W) => hrow.below hW hrow.lt)
        have HZZ : Hid (∀ W, Calls Tryz.prog 100 #[.string s'] W fun e w' => e = .returned (.tuple #[.agg ac0.cells.toArray, .bool false]) ∧ Below W.heap.size W w') := HT
        generalize ac0.cells = X at *
        clear hrow hbe hsz hfew hpl HT
        go_wp2_with (first
          | (go_at_call 100; refine (HZZ.out _).mono ?_; rintro e w3 ⟨rfl, hb3⟩; have hr3 := HRR.out w3 hb3)
          | (refine wpl_store_any rfl (.tmp 46) (.tmp 44) rfl HZ.out w.heap.size (k * 4) _ X rfl rfl hr3 ?_ (hid HZ4.out) (hid HPL.out) (hid HZ1.out); intro w4 hg4; have hb4 := (HBE.out.trans (hb3.mono HBE.out.size)).trans (below_grown hg4 (Nat.le_refl _) (Nat.le_trans HBE.out.size hb3.size)); clear hg4))
        go_ret3
        exact ⟨fun h => absurd h HNO.out, fun _ => ⟨rfl, hb4⟩⟩
      · have hmn : min (25 : Int) (s'.size : Int) = 25 := by omega
        have hi3 : (25 : Int) ≤ (s'.size : Int) := by omega
        have hes : sb (s'.extract 0 25) = piece 25 ((sb s).drop 1) k := by
          rw [sb_extract, HSS.out.1, Nat.sub_zero, List.drop_zero]
          unfold piece
          rw [List.drop_drop]
          congr 2
          omega
        have HT := hid (fun W => wh_yes (s'.extract 0 25) W (by rw [ByteArray.size_extract]; omega))
        rw [hes] at HT
        have HXk := hid (HXK.out k hlt)
        have HX4 : Hid ((Ac.cells (decW (piece 25 ((sb s).drop 1) k))).length = 4) := hid rfl
        have HXo : Hid ((Ac.cells (decW (piece 25 ((sb s).drop 1) k))).all (·.oneCell') = true) := hid rfl
        have HSS2 : Hid (sb (s'.extract 25 s'.size) = (sb s).drop (1 + 25 * (k + 1)) ∧ 1 + 25 * (k + 1) ≤ s.size) := hid ⟨by
          rw [sb_extract, HSS.out.1, List.drop_drop, List.take_of_length_le (by rw [List.length_drop, HSB.out]; omega)]
          congr 1, by have := HSS.out.2; omega⟩
        have HRR := hid (fun W (hW : Below wr.heap.size wr W) => hrow.below hW hrow.lt)
        have HZZ : Hid (∀ W, Calls Tryz.prog 100 #[.string (s'.extract 0 25)] W fun e w' => e = .returned (.tuple #[.agg (Ac.cells (decW (piece 25 ((sb s).drop 1) k))).toArray, .bool true]) ∧ Below W.heap.size W w') := HT
        generalize Ac.cells (decW (piece 25 ((sb s).drop 1) k)) = X at *
        clear hrow hbe hsz hfew hes HT
        go_wp2_with (first
          | (go_at_call 100; refine (HZZ.out _).mono ?_; rintro e w3 ⟨rfl, hb3⟩; have hr3 := HRR.out w3 hb3)
          | (refine wpl_store_part rfl (.tmp 46) (.tmp 44) rfl HZ.out w.heap.size k n XS ac0.cells X rfl rfl hr3 ?_ (hid HXL.out) (hid HX1.out) (hid HZ4.out) (hid hlt) (hid HXk.out) (hid HXo.out); intro w4 hr4 hg4; have HR4 := hid hr4; have HB4 := hid ((HBE.out.trans (hb3.mono HBE.out.size)).trans (below_grown hg4 (Nat.le_refl _) (Nat.le_trans HBE.out.size hb3.size))); clear hr3 hr4 hg4 hb3))
        exact ⟨⟨k + 1, s'.extract 25 s'.size, by omega, by go_num, rfl, hid HSS2.out, HR4.out, HB4.out⟩, by simp [intOf]; omega⟩
    · obtain rfl : k = n := by omega
      rw [part_all HXL.out, HXE.out] at hrow
      have HRR := hid hrow
      have HFIN := hid HSS.out
      clear hrow hbe hsz
      go_wp2_with fail
      go_ret3
      refine ⟨fun _ => ⟨w.heap.size, ?_, HRR.out, Nat.le_refl _, HBE.out⟩, fun h => absurd HFIN.out.2 h⟩
      rw [firstk_len, ← HFIN.out.1, mk_sb]
      rfl
set_option maxHeartbeats 400000 in
theorem takeallt_none (s : ByteArray) (w : World) (h : s.size = 0) : Calls Tryz.prog 101 #[.string s, .int .i64 16, .int .i64 32, .func (.func 102) #[] #[]] w (TN w) := by
  obtain rfl := empty_of h
  clear h
  go_enter Tryz.func101, Tryz.ntmps101
  go_wp2_with fail
  go_ret3
  exact ⟨rfl, Below.refl _ _⟩
set_option maxHeartbeats 400000 in
theorem takeallt_many (s : ByteArray) (w : World) (h0 : 0 < s.size) (hm : 16 < num0 (sb s)) : Calls Tryz.prog 101 #[.string s, .int .i64 16, .int .i64 32, .func (.func 102) #[] #[]] w (TN w) := by
  have hne := full_of (show ¬ s.size = 0 by omega)
  rw [sb_zero s h0] at hm
  have hn255 := UInt8.toNat_lt (s[0]'h0)
  have hix : (0 : Int) < (s.size : Int) := by omega
  have hw8 : IntKind.i64.wrap ((s[0]'h0).toNat : Int) = ((s[0]'h0).toNat : Int) := IntWalk.i64_in _ (by omega)
  have hgt : (16 : Int) < ((s[0]'h0).toNat : Int) := by omega
  go_enter Tryz.func101, Tryz.ntmps101
  go_wp2_with fail
  go_ret3
  exact ⟨rfl, Below.refl _ _⟩
set_option maxHeartbeats 2000000 in
theorem takeallt_go (s : ByteArray) (w : World) (h0 : 0 < s.size) (hm : num0 (sb s) ≤ 16) (hs : s.size ≤ 140737488355328) :
    Calls Tryz.prog 101 #[.string s, .int .i64 16, .int .i64 32, .func (.func 102) #[] #[]] w (TR 90 Tr.cells w (1 + 32 * num0 (sb s) ≤ s.size) (firstk 32 decT ((sb s).drop 1) (num0 (sb s))) ((sb s).drop (1 + 32 * num0 (sb s)))) := by
  obtain ⟨i0, hi, hz0, hz1, hz2⟩ := info_parts trInfo
  have hne := full_of (show ¬ s.size = 0 by omega)
  have hix : (0 : Int) < (s.size : Int) := by omega
  have hix2 : (1 : Int) ≤ (s.size : Int) := by omega
  obtain ⟨n, hn⟩ : ∃ n, (s[0]'h0).toNat = n := ⟨_, rfl⟩
  have hn255 := UInt8.toNat_lt (s[0]'h0)
  have hn8 := hm
  rw [sb_zero s h0, hn] at hn8
  rw [hn] at hn255
  have hw8 : wrap64 ((s[0]'h0).toNat : Int) = (n : Int) := by rw [hn]; exact IntWalk.wrap64_in _ ⟨by omega, by omega⟩
  have HS0 := hid hn
  have HZ := hid trSize
  rw [sb_zero s h0, hn]
  clear hn
  have hXl : ((firstk 32 decT ((sb s).drop 1) n).map Tr.cells).length = n := by rw [List.length_map, firstk_len]
  have hX1 : ∀ r ∈ (firstk 32 decT ((sb s).drop 1) n).map Tr.cells, r.length = 4 := by
    intro r hr
    obtain ⟨x, _, rfl⟩ := List.mem_map.1 hr
    rfl
  have hXk : ∀ k, k < n → ((firstk 32 decT ((sb s).drop 1) n).map Tr.cells)[k]? = some (Tr.cells (decT (piece 32 ((sb s).drop 1) k))) := by
    intro k hk
    simp [firstk, hk]
  have hXe : ((firstk 32 decT ((sb s).drop 1) n).map Tr.cells).flatten = rows Tr.cells (firstk 32 decT ((sb s).drop 1) n) := rfl
  generalize ((firstk 32 decT ((sb s).drop 1) n).map Tr.cells) = XS at *
  have HXL := hid hXl
  have HX1 := hid hX1
  have HXK := hid hXk
  have HXE := hid hXe
  have HZ4 : Hid (tr0.cells.length = 4) := hid rfl
  have HZ1 : Hid (tr0.cells.all (·.oneCell') = true) := hid rfl
  have hgt : ¬ (16 : Int) < (n : Int) := by omega
  have HSB := hid (sb_len s)
  clear hXl hX1 hXk hXe hm
  go_enter Tryz.func101, Tryz.ntmps101
  go_wp2_with fail
  refine wp_region_held_drew (S := fun _ => True) (by kernel_rfl) trivial (fun hH => ?_)
  refine wpAnyH_take (i := 0) (v := .string s) rfl (by kernel_rfl) (by kernel_rfl) (by kernel_rfl) (fun _ _ _ h => h) (Or.inl ⟨by rfl, fun w' hw' => by clear hw' ; go_simp⟩) hH ?_
  simp only [Act.put]
  refine wpAnyH_take (i := 1) (v := .int .u8 (n : Int)) rfl (by kernel_rfl) (by kernel_rfl) (by kernel_rfl) (fun _ _ _ h => h) (Or.inl ⟨by rfl, fun w' hw' => by have h := HS0.out; go_simp⟩) hH ?_
  simp only [Act.put]
  refine wpAnyH_take (i := 3) (v := .string s) rfl (by kernel_rfl) (by kernel_rfl) (by kernel_rfl) (fun _ _ _ h => h) (Or.inl ⟨by rfl, fun w' hw' => by clear hw' ; go_simp⟩) hH ?_
  simp only [Act.put]
  refine wpAnyH_take (i := 4) (v := .string (s.extract 1 s.size)) rfl (by kernel_rfl) (by kernel_rfl) (by kernel_rfl) (fun _ _ _ h => h) (Or.inl ⟨by rfl, fun w' hw' => by clear hw' ; go_simp⟩) hH ?_
  simp only [Act.put]
  refine wpAnyH_ready (rs := [2]) (by kernel_rfl) (by simp) ?_
  refine AllReadyH.cons rfl (fun K hK => ?_) AllReadyH.nil
  rw [if_pos (by rfl)]
  refine wpo_make_big _ _ _ rfl 90 i0 _ tr0.cells Tryz.underlying55 hi hz0 hz1 rfl (by decide) _ _ n rfl rfl (by rw [hz2]; omega) (le_maxLen (by omega)) (fun w1 hr1 hg1 => ?_)
  refine hK.out _ _ trivial (fun hH => ?_)
  clear hK K
  try simp only [Act.put]
  refine wpAnyH_ready (rs := [5]) (by kernel_rfl) (by simp) ?_
  refine AllReadyH.cons rfl (fun K hK => ?_) AllReadyH.nil
  go_simp
  refine hK.out _ _ (trivial) (fun hH => ?_)
  clear hK K
  try simp only [Act.put]
  refine wpAnyH_ready (rs := [6]) (by kernel_rfl) (by simp) ?_
  refine AllReadyH.cons rfl (fun K hK => ?_) AllReadyH.nil
  go_simp
  refine hK.out _ _ (trivial) (fun hH => ?_)
  clear hK K
  try simp only [Act.put]
  refine wpAnyH_done (by kernel_rfl) ?_ _
  try simp only [Act.put]
  have HB1 : Hid (Below w.heap.size w w1) := hid ((Below.drew (Below.refl w.heap.size w)).grown hg1 (Nat.le_refl _) (by intro k hk; cases hk))
  have HRW : Hid (Row w1 w.heap.size 90 (List.replicate n tr0.cells).flatten) := hid hr1
  clear hr1 hg1 hH hne hix hix2 hw8 HS0
  go_wp2_with fail
  go_loopw [0, 30] (fun sv i wr => ∃ (k : Nat) (s' : ByteArray), k ≤ n ∧ i = .int .i64 (k : Int) ∧ sv = .string s' ∧ Hid (sb s' = (sb s).drop (1 + 32 * k) ∧ 1 + 32 * k ≤ s.size) ∧ Row wr w.heap.size 90 (part XS tr0.cells n k).flatten ∧ Below w.heap.size w wr) (fun _ i _ => n - (intOf i).toNat)
  case atStart => exact ⟨0, s.extract 1 s.size, by omega, rfl, rfl, hid ⟨by rw [sb_extract, List.take_of_length_le (by rw [List.length_drop, sb_len]; omega)], by omega⟩, by rw [part_zero]; exact HRW.out, HB1.out⟩
  case round =>
    obtain ⟨k, s', hk, rfl, rfl, HSS, hrow, hbe⟩ := hrel
    have HBE := hid hbe
    have hsz : s'.size = s.size - (1 + 32 * k) := by
      have := HSS.out.1
      rw [← sb_len, this, List.length_drop, HSB.out]
    by_cases hlt : k < n
    · have hi0 : (k : Int) < (n : Int) := by omega
      have hi1 : (0 : Int) ≤ (k : Int) := by omega
      by_cases hfew : s'.size < 32
      · have hmn : min (32 : Int) (s'.size : Int) = (s'.size : Int) := by omega
        have HT := hid (fun W => taket_no s' W hfew)
        have HNO : Hid (¬ 1 + 32 * n ≤ s.size) := hid (by
          have h1 : 32 * (k + 1) ≤ 32 * n := Nat.mul_le_mul_left _ hlt
          have := HSS.out.2
          omega)
        have hpl := part_flat HXL.out HX1.out HZ4.out k hk
        have HPL : Hid (k * 4 + 4 ≤ (part XS tr0.cells n k).flatten.length) := hid (by omega)
        have HRR := hid (fun W (hW : Below wr.heap.size wr W) => hrow.below hW hrow.lt)
        have HZZ : Hid (∀ W, Calls Tryz.prog 102 #[.string s'] W fun e w' => e = .returned (.tuple #[.agg tr0.cells.toArray, .bool false]) ∧ Below W.heap.size W w') := HT
        generalize tr0.cells = X at *
        clear hrow hbe hsz hfew hpl HT
        go_wp2_with (first
          | (go_at_call 102; refine (HZZ.out _).mono ?_; rintro e w3 ⟨rfl, hb3⟩; have hr3 := HRR.out w3 hb3)
          | (refine wpl_store_any rfl (.tmp 46) (.tmp 44) rfl HZ.out w.heap.size (k * 4) _ X rfl rfl hr3 ?_ (hid HZ4.out) (hid HPL.out) (hid HZ1.out); intro w4 hg4; have hb4 := (HBE.out.trans (hb3.mono HBE.out.size)).trans (below_grown hg4 (Nat.le_refl _) (Nat.le_trans HBE.out.size hb3.size)); clear hg4))
        go_ret3
        exact ⟨fun h => absurd h HNO.out, fun _ => ⟨rfl, hb4⟩⟩
      · have hmn : min (32 : Int) (s'.size : Int) = 32 := by omega
        have hi3 : (32 : Int) ≤ (s'.size : Int) := by omega
        have hes : sb (s'.extract 0 32) = piece 32 ((sb s).drop 1) k := by
          rw [sb_extract, HSS.out.1, Nat.sub_zero, List.drop_zero]
          unfold piece
          rw [List.drop_drop]
          congr 2
          omega
        have HT := hid (fun W => taket_yes (s'.extract 0 32) W (by rw [ByteArray.size_extract]; omega))
        rw [hes] at HT
        have HXk := hid (HXK.out k hlt)
        have HX4 : Hid ((Tr.cells (decT (piece 32 ((sb s).drop 1) k))).length = 4) := hid rfl
        have HXo : Hid ((Tr.cells (decT (piece 32 ((sb s).drop 1) k))).all (·.oneCell') = true) := hid rfl
        have HSS2 : Hid (sb (s'.extract 32 s'.size) = (sb s).drop (1 + 32 * (k + 1)) ∧ 1 + 32 * (k + 1) ≤ s.size) := hid ⟨by
          rw [sb_extract, HSS.out.1, List.drop_drop, List.take_of_length_le (by rw [List.length_drop, HSB.out]; omega)]
          congr 1, by have := HSS.out.2; omega⟩
        have HRR := hid (fun W (hW : Below wr.heap.size wr W) => hrow.below hW hrow.lt)
        have HZZ : Hid (∀ W, Calls Tryz.prog 102 #[.string (s'.extract 0 32)] W fun e w' => e = .returned (.tuple #[.agg (Tr.cells (decT (piece 32 ((sb s).drop 1) k))).toArray, .bool true]) ∧ Below W.heap.size W w') := HT
        generalize Tr.cells (decT (piece 32 ((sb s).drop 1) k)) = X at *
        clear hrow hbe hsz hfew hes HT
        go_wp2_with (first
          | (go_at_call 102; refine (HZZ.out _).mono ?_; rintro e w3 ⟨rfl, hb3⟩; have hr3 := HRR.out w3 hb3)
          | (refine wpl_store_part rfl (.tmp 46) (.tmp 44) rfl HZ.out w.heap.size k n XS tr0.cells X rfl rfl hr3 ?_ (hid HXL.out) (hid HX1.out) (hid HZ4.out) (hid hlt) (hid HXk.out) (hid HXo.out); intro w4 hr4 hg4; have HR4 := hid hr4; have HB4 := hid ((HBE.out.trans (hb3.mono HBE.out.size)).trans (below_grown hg4 (Nat.le_refl _) (Nat.le_trans HBE.out.size hb3.size))); clear hr3 hr4 hg4 hb3))
        exact ⟨⟨k + 1, s'.extract 32 s'.size, by omega, by go_num, rfl, hid HSS2.out, HR4.out, HB4.out⟩, by simp [intOf]; omega⟩
    · obtain rfl : k = n := by omega
      rw [part_all HXL.out, HXE.out] at hrow
      have HRR := hid hrow
      have HFIN := hid HSS.out
      clear hrow hbe hsz
      go_wp2_with fail
      go_ret3
      refine ⟨fun _ => ⟨w.heap.size, ?_, HRR.out, Nat.le_refl _, HBE.out⟩, fun h => absurd HFIN.out.2 h⟩
      rw [firstk_len, ← HFIN.out.1, mk_sb]
      rfl
end Go.Proofs.YtdimlfjepliflaaGreatDoor
