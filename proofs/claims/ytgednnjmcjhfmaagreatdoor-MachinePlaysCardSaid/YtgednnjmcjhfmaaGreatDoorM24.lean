/-
  The walk of the document's Pack, whole; both Packs and both Rights of a header as one value.
-/
import Derived.Test.YtgednnjmcjhfmaaGreatDoorM23
import Derived.Test.YtgednnjmcjhfmaaGreatDoorM21
import Derived.Test.YtgednnjmcjhfmaaGreatDoorM22
import Derived.Test.YtgednnjmcjhfmaaGreatDoorM02
import Derived.Test.YtgednnjmcjhfmaaGreatDoorM15
import Derived.Test.YtgednnjmcjhfmaaGreatDoorM18
import Derived.Test.YtgednnjmcjhfmaaGreatDoorM11
import Derived.Test.YtgednnjmcjhfmaaGreatDoorM19
import Derived.BigQuiet
import Derived.Deep.RegionHeld
namespace Go.Proofs.YtgednnjmcjhfmaaGreatDoor
open Go.RowKit
set_option maxRecDepth 10000
set_option maxHeartbeats 80000000
theorem rpack_form (C : Array Value) (body : ByteArray) (w : World) (HR : Hid (∀ W, Calls Tryz.prog 151 #[.agg C] W (VE W (.bool false)))) (hsz : (Tryz.prog.info? 122).map (·.size) = some C.size) : Calls Tryz.prog 134 #[.agg C, .string body] w (SN w ([], 4)) := by
 have HSZ := hid hsz
 clear hsz
 go_enter Tryz.func134, Tryz.ntmps134
 go_wp2_with (first
  | (refine wpList_load_row rfl 122 (.tmp 2) rfl w.heap.size rfl 122 C (0, 0) _ (heap_alloc_new _ _) Tryz.underlying122 rfl HSZ.out ?_)
  | (go_at_call 151; refine (HR.out _).mono ?_; rintro e w1 ⟨rfl, hb1⟩))
 go_ret2
 exact ⟨rfl, ((Below.refl _ _).alloc (Nat.le_refl _) _).trans (hb1.mono (by simp))⟩
theorem rpack_long (C : Array Value) (body : ByteArray) (w : World) (HR : Hid (∀ W, Calls Tryz.prog 151 #[.agg C] W (VE W (.bool true)))) (hsz : (Tryz.prog.info? 122).map (·.size) = some C.size) (hlong : 3968 < (body.size : Int)) : Calls Tryz.prog 134 #[.agg C, .string body] w (SN w ([], 5)) := by
 have HSZ := hid hsz
 clear hsz
 go_enter Tryz.func134, Tryz.ntmps134
 go_wp2_with (first
  | (refine wpList_load_row rfl 122 (.tmp 2) rfl w.heap.size rfl 122 C (0, 0) _ (heap_alloc_new _ _) Tryz.underlying122 rfl HSZ.out ?_)
  | (go_at_call 151; refine (HR.out _).mono ?_; rintro e w1 ⟨rfl, hb1⟩))
 go_ret2
 exact ⟨rfl, ((Below.refl _ _).alloc (Nat.le_refl _) _).trans (hb1.mono (by simp))⟩
theorem rpack_any9 (h : Hd) (hh : h.fits) (body : ByteArray) (w : World) : Calls Tryz.prog 134 #[h.val, .string body] w (SN w (packS h (sb body))) := by
 have hl := sb_len body
 have hr := right_fits h hh
 unfold packS
 by_cases hfit : Fits h.nums
 ·
  rw [if_neg (by simpa using hfit)]
  rw [decide_eq_true hfit] at hr
  by_cases hlong : 3968 < (sb body).length
  ·
   rw [if_pos hlong]
   exact rpack_long h.cells body w (hid fun W => by have := rright_any h W; rw [hr] at this; exact this) (hcells_size h) (by omega)
  ·
   rw [if_neg hlong]
   exact rpack_ok h body w hfit hr (by omega)
 ·
  rw [if_pos hfit]
  rw [decide_eq_false hfit] at hr
  exact rpack_form h.cells body w (hid fun W => by have := rright_any h W; rw [hr] at this; exact this) (hcells_size h)
theorem rpack9_no (E : Array Value) (w : World) (hE : (Tryz.prog.info? 31).map (·.size) = some E.size)
  (HR : Hid (∀ W : World, Calls Tryz.prog 31 #[.agg E] W (VE W (.bool false)))) :
  Calls Tryz.prog 95 #[.agg E] w (SN w ([], 4)) := by
 have HE := hid hE
 have HB := hid ((Below.refl w.heap.size w).alloc (Nat.le_refl _) (.cells E 31))
 have HRW : Hid (Row (w.alloc (.cells E 31)) w.heap.size 31 E.toList) := hid (Row.new _ _ _)
 clear hE
 go_enter Tryz.func95, Tryz.ntmps95
 go_wp2_with (first
  | (refine wpList_load_row rfl 31 (.tmp 1) rfl w.heap.size rfl 31 E (0, 0) _ HRW.out.arr Tryz.underlying31 rfl HE.out ?_)
  | (go_at_call 31; refine (HR.out _).mono ?_; rintro e w1 ⟨rfl, hb1⟩))
 go_ret2
 exact ⟨rfl, HB.out.trans (hb1.mono HB.out.size)⟩
theorem rpack9_yes (view opn under : Int) (parent : Nat) (client session request oper : Int) (body : ByteArray) (T : ByteArray) (f : Int) (w : World)
  (HR : Hid (∀ W : World, Calls Tryz.prog 31 #[.agg #[.int .i64 view, .int .i64 opn, .int .i64 under, .int .u64 (parent : Int), .int .i64 client, .int .i64 session, .int .i64 request, .int .i64 oper, .string body]] W (VE W (.bool true))))
  (HP : Hid (∀ W : World, Calls Tryz.prog 134 #[.agg #[.int .i64 255, .int .i64 0, .int .i64 oper, .int .i64 view, .int .i64 opn, .int .i64 0, .int .i64 client, .int .i64 session, .int .i64 request, .int .i64 under, .int .i64 0, .int .u64 (parent : Int)], .string body] W fun x W' => x = .returned (.tuple #[.string T, .int .i64 f]) ∧ Below W.heap.size W W')) :
  Calls Tryz.prog 95 #[.agg #[.int .i64 view, .int .i64 opn, .int .i64 under, .int .u64 (parent : Int), .int .i64 client, .int .i64 session, .int .i64 request, .int .i64 oper, .string body]] w fun x W' => x = .returned (.tuple #[.string T, .int .i64 f]) ∧ Below w.heap.size w W' := by
 have HB := hid ((Below.refl w.heap.size w).alloc (Nat.le_refl _) (.cells #[.int .i64 view, .int .i64 opn, .int .i64 under, .int .u64 (parent : Int), .int .i64 client, .int .i64 session, .int .i64 request, .int .i64 oper, .string body] 31))
 have HRW : Hid (Row (w.alloc (.cells #[.int .i64 view, .int .i64 opn, .int .i64 under, .int .u64 (parent : Int), .int .i64 client, .int .i64 session, .int .i64 request, .int .i64 oper, .string body] 31)) w.heap.size 31 (#[.int .i64 view, .int .i64 opn, .int .i64 under, .int .u64 (parent : Int), .int .i64 client, .int .i64 session, .int .i64 request, .int .i64 oper, .string body] : Array Value).toList) := hid (Row.new _ _ _)
 go_enter Tryz.func95, Tryz.ntmps95
 go_wp2_with (first
  | (go_at_call 31; refine (HR.out _).mono ?_; rintro e w1 ⟨rfl, hb1⟩; have HB1 := hid (HB.out.trans (hb1.mono HB.out.size)); have he := HRW.out.below hb1 HRW.out.lt; have hlt := he.lt; have c0 := he.at_ 0 _ rfl; have c1 := he.at_ 1 _ rfl; have c2 := he.at_ 2 _ rfl; have c3 := he.at_ 3 _ rfl; have c4 := he.at_ 4 _ rfl; have c5 := he.at_ 5 _ rfl; have c6 := he.at_ 6 _ rfl; have c7 := he.at_ 7 _ rfl; have c8 := he.at_ 8 _ rfl; clear hb1 he)
  | (go_at_call 134; refine (HP.out _).mono ?_; rintro e w2 ⟨rfl, hb2⟩))
 go_ret2
 have h1 := HB1.out.alloc HB1.out.size (.cells #[.int .i64 255, .int .i64 0, .int .i64 oper, .int .i64 view, .int .i64 opn, .int .i64 0, .int .i64 client, .int .i64 session, .int .i64 request, .int .i64 under, .int .i64 0, .int .u64 (parent : Int)] 122)
 exact ⟨rfl, h1.trans (hb2.mono h1.size)⟩
theorem rpack9_any (e : En) (he : e.fits) (w : World) : Calls Tryz.prog 95 #[e.val] w (SN w (packE e)) := by
 have HR := hid (fun W => rright9_any e W)
 unfold packE
 by_cases h : Rt e
 ·
  rw [if_pos h]
  rw [decide_eq_true h] at HR
  have HP := hid (fun W => rpack_any9 (hof e) (packS_rt he h).2 e.body W)
  obtain ⟨r, hr⟩ : ∃ r, r = packS (hof e) (sb e.body) := ⟨_, rfl⟩
  rw [← hr] at HP ⊢
  obtain ⟨view, opn, under, parent, client, session, request, oper, body⟩ := e
  exact rpack9_yes view opn under parent client session request oper body ⟨r.1.toArray⟩ r.2 w HR HP
 ·
  rw [if_neg h]
  rw [decide_eq_false h] at HR
  exact rpack9_no e.cells w (ecells_size e) HR
/-- what MarkOf answers -/
def markE (e : En) : Mk := if (packE e).2 = 0 then ⟨e.opn, e.view, (chainOf (BitVec.ofNat 64 e.parent) (packE e).1).toNat⟩ else mk0
theorem wp_store_st9 {P : Program} {o : Oper} {a : Act} {w : World} {K : Act → World → Prop} {Q : Exit → Act → World → Prop} {T : TypeId} (x y : Operand) (ho : o.op = .store T x y) {n : Nat} (hn : (P.info? T).map (·.size) = some n)
  (g : Nat) (cs0 cs : Array Value) (hx : a.eval x = .pointer (some ⟨g, 0, none⟩)) (hy : a.eval y = .agg cs) (hrow : Row w g T cs0.toList) (h0 : cs0.size = n) (h1 : cs.size = n) (hone : cs.all (·.oneCell') = true)
  (hK : ∀ w', Row w' g T cs.toList → w.grownBy w' (some g) → K (a.put o.dst undef) w') : o.wp P a w K Q :=
 wp_store_row T x y ho g cs hx hy T cs0 hrow.arr (by rw [hn, h1]) (by simp [h0, h1]) (by simpa using hone)
  (hK _ (by
   have := setRow_heap w g cs0 cs T (0, 0) hrow.arr
   simpa [Row] using this) (grownBy_setRow w g _))
theorem emark_no (view opn under : Int) (parent : Nat) (client session request oper : Int) (body : ByteArray) (T : ByteArray) (f : Int) (w : World) (hf : Fd w) (h0 : (f != 0) = true)
  (HP : Hid (∀ W : World, Fd W → Calls Tryz.prog 51 #[.agg #[.int .i64 view, .int .i64 opn, .int .i64 under, .int .u64 (parent : Int), .int .i64 client, .int .i64 session, .int .i64 request, .int .i64 oper, .string body]] W fun x W' => x = .returned (.tuple #[.string T, .int .i64 f]) ∧ Below W.heap.size W W')) :
  Calls Tryz.prog 24 #[.agg #[.int .i64 view, .int .i64 opn, .int .i64 under, .int .u64 (parent : Int), .int .i64 client, .int .i64 session, .int .i64 request, .int .i64 oper, .string body]] w (VE w (.agg #[.int .i64 0, .int .i64 0, .int .u64 0])) := by
 have HZ := hid esize
 have HZM := hid msize
 have HB0 : Hid (Below w.heap.size w ((w.alloc (.cells #[.int .i64 view, .int .i64 opn, .int .i64 under, .int .u64 (parent : Int), .int .i64 client, .int .i64 session, .int .i64 request, .int .i64 oper, .string body] 31)).alloc (.cells #[.int .i64 0, .int .i64 0, .int .u64 0] 41))) := hid (((Below.refl w.heap.size w).alloc (Nat.le_refl _) _).alloc (by simp) _)
 have HE0 : Hid (Row ((w.alloc (.cells #[.int .i64 view, .int .i64 opn, .int .i64 under, .int .u64 (parent : Int), .int .i64 client, .int .i64 session, .int .i64 request, .int .i64 oper, .string body] 31)).alloc (.cells #[.int .i64 0, .int .i64 0, .int .u64 0] 41)) w.heap.size 31 (#[.int .i64 view, .int .i64 opn, .int .i64 under, .int .u64 (parent : Int), .int .i64 client, .int .i64 session, .int .i64 request, .int .i64 oper, .string body] : Array Value).toList) := hid ((Row.new _ _ _).alloc _)
 have HM0 : Hid (Row ((w.alloc (.cells #[.int .i64 view, .int .i64 opn, .int .i64 under, .int .u64 (parent : Int), .int .i64 client, .int .i64 session, .int .i64 request, .int .i64 oper, .string body] 31)).alloc (.cells #[.int .i64 0, .int .i64 0, .int .u64 0] 41)) (w.heap.size + 1) 41 (#[.int .i64 0, .int .i64 0, .int .u64 0] : Array Value).toList) := hid (by
  have := Row.new (w.alloc (.cells #[.int .i64 view, .int .i64 opn, .int .i64 under, .int .u64 (parent : Int), .int .i64 client, .int .i64 session, .int .i64 request, .int .i64 oper, .string body] 31)) 41 #[.int .i64 0, .int .i64 0, .int .u64 0]
  simpa using this)
 have HF := hid hf
 clear hf
 go_enter Tryz.func24, Tryz.ntmps24
 go_wp2_with (first
  | (go_at_call 51; refine (HP.out _ (HF.out.below HB0.out HF.out.1)).mono ?_; rintro e w1 ⟨rfl, hb1⟩; have hbb := HB0.out.trans (hb1.mono HB0.out.size); have he := HE0.out.below hb1 HE0.out.lt; have hm := HM0.out.below hb1 HM0.out.lt; clear hb1)
  | (refine wpl_store_st9 rfl (.tmp 2) (.tmp 12) rfl HZM.out (w.heap.size + 1) #[.int .i64 0, .int .i64 0, .int .u64 0] #[.int .i64 0, .int .i64 0, .int .u64 0] rfl rfl hm ?_ (hid rfl) (hid rfl) (hid (by simp [Value.oneCell'])); intro wz hrz hgz; have HBZ := hid (hbb.trans (below_grown hgz (by omega) hbb.size)); clear hgz))
 refine bodyPost_ret (v := .agg #[.int .i64 0, .int .i64 0, .int .u64 0])
  (results_cell_row rfl _ _ (w.heap.size + 1) 41 _ (0, 0) _ rfl (Row.arr (cs := #[.int .i64 0, .int .i64 0, .int .u64 0]) hrz) Tryz.underlying41 rfl HZM.out) rfl ⟨rfl, HBZ.out⟩
theorem emark_yes (view opn under : Int) (parent : Nat) (client session request oper : Int) (body : ByteArray) (T : ByteArray) (q : Nat) (w : World) (hf : Fd w)
  (HP : Hid (∀ W : World, Fd W → Calls Tryz.prog 51 #[.agg #[.int .i64 view, .int .i64 opn, .int .i64 under, .int .u64 (parent : Int), .int .i64 client, .int .i64 session, .int .i64 request, .int .i64 oper, .string body]] W fun x W' => x = .returned (.tuple #[.string T, .int .i64 0]) ∧ Below W.heap.size W W'))
  (HC : Hid (∀ W : World, Calls Tryz.prog 52 #[.int .u64 (parent : Int), .string T] W fun e w' => e = .returned (.int .u64 (q : Int)) ∧ Below W.heap.size W w')) :
  Calls Tryz.prog 24 #[.agg #[.int .i64 view, .int .i64 opn, .int .i64 under, .int .u64 (parent : Int), .int .i64 client, .int .i64 session, .int .i64 request, .int .i64 oper, .string body]] w (VE w (.agg #[.int .i64 opn, .int .i64 view, .int .u64 (q : Int)])) := by
 have HZ := hid esize
 have HZM := hid msize
 have HB0 : Hid (Below w.heap.size w ((w.alloc (.cells #[.int .i64 view, .int .i64 opn, .int .i64 under, .int .u64 (parent : Int), .int .i64 client, .int .i64 session, .int .i64 request, .int .i64 oper, .string body] 31)).alloc (.cells #[.int .i64 0, .int .i64 0, .int .u64 0] 41))) := hid (((Below.refl w.heap.size w).alloc (Nat.le_refl _) _).alloc (by simp) _)
 have HE0 : Hid (Row ((w.alloc (.cells #[.int .i64 view, .int .i64 opn, .int .i64 under, .int .u64 (parent : Int), .int .i64 client, .int .i64 session, .int .i64 request, .int .i64 oper, .string body] 31)).alloc (.cells #[.int .i64 0, .int .i64 0, .int .u64 0] 41)) w.heap.size 31 (#[.int .i64 view, .int .i64 opn, .int .i64 under, .int .u64 (parent : Int), .int .i64 client, .int .i64 session, .int .i64 request, .int .i64 oper, .string body] : Array Value).toList) := hid ((Row.new _ _ _).alloc _)
 have HM0 : Hid (Row ((w.alloc (.cells #[.int .i64 view, .int .i64 opn, .int .i64 under, .int .u64 (parent : Int), .int .i64 client, .int .i64 session, .int .i64 request, .int .i64 oper, .string body] 31)).alloc (.cells #[.int .i64 0, .int .i64 0, .int .u64 0] 41)) (w.heap.size + 1) 41 (#[.int .i64 0, .int .i64 0, .int .u64 0] : Array Value).toList) := hid (by
  have := Row.new (w.alloc (.cells #[.int .i64 view, .int .i64 opn, .int .i64 under, .int .u64 (parent : Int), .int .i64 client, .int .i64 session, .int .i64 request, .int .i64 oper, .string body] 31)) 41 #[.int .i64 0, .int .i64 0, .int .u64 0]
  simpa using this)
 have HF := hid hf
 clear hf
 go_enter Tryz.func24, Tryz.ntmps24
 go_wp2_with (go_at_call 51; refine (HP.out _ (HF.out.below HB0.out HF.out.1)).mono ?_; rintro e w1 ⟨rfl, hb1⟩; have hbb := HB0.out.trans (hb1.mono HB0.out.size); have he := HE0.out.below hb1 HE0.out.lt; have hm := HM0.out.below hb1 HM0.out.lt; clear hb1)
 try simp only [Act.put]
 have HBB := hid hbb
 have HEB := hid he
 have HMB := hid hm
 clear hbb he hm
 refine wp_region_held_drew (S := fun W => Below w.heap.size w W ∧ Row W w.heap.size 31 (#[.int .i64 view, .int .i64 opn, .int .i64 under, .int .u64 (parent : Int), .int .i64 client, .int .i64 session, .int .i64 request, .int .i64 oper, .string body] : Array Value).toList ∧ ∃ z : Array Value, z.size = 3 ∧ Row W (w.heap.size + 1) 41 z.toList) (by kernel_rfl) ⟨HBB.out.drew, HEB.out, #[.int .i64 0, .int .i64 0, .int .u64 0], rfl, HMB.out⟩ (fun hH => ?_)
 refine tk_ (i := 0) (v := .pointer (some ⟨w.heap.size, 1, none⟩)) rfl (Or.inl ⟨by rfl, fun w' hw' => by clear hw'; go_simp⟩) hH ?_
 simp only [Act.put]
 refine tk_ (i := 1) (v := .int .i64 opn) rfl (Or.inl ⟨by rfl, fun w' hw' => by have h := hw'.2.1.at_ 1 _ rfl; clear hw'; go_simp⟩) hH ?_
 simp only [Act.put]
 refine tk_ (i := 2) (v := .pointer (some ⟨w.heap.size, 0, none⟩)) rfl (Or.inl ⟨by rfl, fun w' hw' => by clear hw'; go_simp⟩) hH ?_
 simp only [Act.put]
 refine tk_ (i := 3) (v := .int .i64 view) rfl (Or.inl ⟨by rfl, fun w' hw' => by have h := hw'.2.1.at_ 0 _ rfl; clear hw'; go_simp⟩) hH ?_
 simp only [Act.put]
 refine tk_ (i := 4) (v := .pointer (some ⟨w.heap.size, 3, none⟩)) rfl (Or.inl ⟨by rfl, fun w' hw' => by clear hw'; go_simp⟩) hH ?_
 simp only [Act.put]
 refine tk_ (i := 5) (v := .int .u64 (parent : Int)) rfl (Or.inl ⟨by rfl, fun w' hw' => by have h := hw'.2.1.at_ 3 _ rfl; clear hw'; go_simp⟩) hH ?_
 simp only [Act.put]
 refine tk_ (i := 6) (v := .string T) rfl (Or.inl ⟨by rfl, fun w' hw' => by clear hw'; go_simp⟩) hH ?_
 simp only [Act.put]
 refine rd1 (i := 7) (by kernel_rfl) rfl (fun K hK => ?_)
 go_simp
 go_at_call 52
 refine (HC.out _).mono ?_
 rintro e w2 ⟨rfl, hb2⟩
 go_wp2_with fail
 refine hK.out _ _ (⟨hH.1.trans (Below.mono hb2 hH.1.size), Row.below hH.2.1 hb2 hH.2.1.lt, hH.2.2.elim fun z h => ⟨z, h.1, Row.below h.2 hb2 h.2.lt⟩⟩) (fun hH => ?_)
 clear hK K
 try simp only [Act.put]
 refine tk_ (i := 8) (v := .agg #[.int .i64 opn, .int .i64 view, .int .u64 (q : Int)]) rfl (Or.inl ⟨by rfl, fun w' hw' => by clear hw'; go_simp⟩) hH ?_
 simp only [Act.put]
 refine rd1 (i := 9) (by kernel_rfl) rfl (fun K hK => ?_)
 obtain ⟨hb8, he8, z, hz8, hm8⟩ := hH
 rw [if_pos (by kernel_rfl)]
 refine wp_store_st9 (.tmp 2) (.tmp 21) rfl HZM.out (w.heap.size + 1) z #[.int .i64 opn, .int .i64 view, .int .u64 (q : Int)] rfl rfl hm8 hz8 rfl (by simp [Value.oneCell']) (fun w9 hr9 hg9 => ?_)
 have hb9 : Below w.heap.size w w9 := hb8.trans (below_grown hg9 (by omega) hb8.size)
 refine hK.out _ _ ⟨hb9, he8.grown hg9 (by intro e; have := Option.some.inj e; omega), _, rfl, hr9⟩ (fun hH => ?_)
 clear hK K
 try simp only [Act.put]
 refine wpAnyH_done (by kernel_rfl) ?_ _
 try simp only [Act.put]
 go_wp2_with fail
 refine bodyPost_ret (v := .agg #[.int .i64 opn, .int .i64 view, .int .u64 (q : Int)])
  (results_cell_row rfl _ _ (w.heap.size + 1) 41 _ (0, 0) _ rfl (Row.arr (cs := #[.int .i64 opn, .int .i64 view, .int .u64 (q : Int)]) hr9) Tryz.underlying41 rfl HZM.out) rfl ⟨rfl, hb9⟩
theorem rmark_no (view opn under : Int) (parent : Nat) (client session request oper : Int) (body : ByteArray) (T : ByteArray) (f : Int) (w : World) (h0 : (f != 0) = true)
  (HP : Hid (∀ W : World, Calls Tryz.prog 95 #[.agg #[.int .i64 view, .int .i64 opn, .int .i64 under, .int .u64 (parent : Int), .int .i64 client, .int .i64 session, .int .i64 request, .int .i64 oper, .string body]] W fun x W' => x = .returned (.tuple #[.string T, .int .i64 f]) ∧ Below W.heap.size W W')) :
  Calls Tryz.prog 57 #[.agg #[.int .i64 view, .int .i64 opn, .int .i64 under, .int .u64 (parent : Int), .int .i64 client, .int .i64 session, .int .i64 request, .int .i64 oper, .string body]] w (VE w (.agg #[.int .i64 0, .int .i64 0, .int .u64 0])) := by
 have HZ := hid esize
 have HZM := hid msize
 have HB0 : Hid (Below w.heap.size w ((w.alloc (.cells #[.int .i64 view, .int .i64 opn, .int .i64 under, .int .u64 (parent : Int), .int .i64 client, .int .i64 session, .int .i64 request, .int .i64 oper, .string body] 31)).alloc (.cells #[.int .i64 0, .int .i64 0, .int .u64 0] 41))) := hid (((Below.refl w.heap.size w).alloc (Nat.le_refl _) _).alloc (by simp) _)
 have HE0 : Hid (Row ((w.alloc (.cells #[.int .i64 view, .int .i64 opn, .int .i64 under, .int .u64 (parent : Int), .int .i64 client, .int .i64 session, .int .i64 request, .int .i64 oper, .string body] 31)).alloc (.cells #[.int .i64 0, .int .i64 0, .int .u64 0] 41)) w.heap.size 31 (#[.int .i64 view, .int .i64 opn, .int .i64 under, .int .u64 (parent : Int), .int .i64 client, .int .i64 session, .int .i64 request, .int .i64 oper, .string body] : Array Value).toList) := hid ((Row.new _ _ _).alloc _)
 have HM0 : Hid (Row ((w.alloc (.cells #[.int .i64 view, .int .i64 opn, .int .i64 under, .int .u64 (parent : Int), .int .i64 client, .int .i64 session, .int .i64 request, .int .i64 oper, .string body] 31)).alloc (.cells #[.int .i64 0, .int .i64 0, .int .u64 0] 41)) (w.heap.size + 1) 41 (#[.int .i64 0, .int .i64 0, .int .u64 0] : Array Value).toList) := hid (by
  have := Row.new (w.alloc (.cells #[.int .i64 view, .int .i64 opn, .int .i64 under, .int .u64 (parent : Int), .int .i64 client, .int .i64 session, .int .i64 request, .int .i64 oper, .string body] 31)) 41 #[.int .i64 0, .int .i64 0, .int .u64 0]
  simpa using this)
 go_enter Tryz.func57, Tryz.ntmps57
 go_wp2_with (first
  | (go_at_call 95; refine (HP.out _).mono ?_; rintro e w1 ⟨rfl, hb1⟩; have hbb := HB0.out.trans (hb1.mono HB0.out.size); have he := HE0.out.below hb1 HE0.out.lt; have hm := HM0.out.below hb1 HM0.out.lt; clear hb1)
  | (refine wpl_store_st9 rfl (.tmp 2) (.tmp 12) rfl HZM.out (w.heap.size + 1) #[.int .i64 0, .int .i64 0, .int .u64 0] #[.int .i64 0, .int .i64 0, .int .u64 0] rfl rfl hm ?_ (hid rfl) (hid rfl) (hid (by simp [Value.oneCell'])); intro wz hrz hgz; have HBZ := hid (hbb.trans (below_grown hgz (by omega) hbb.size)); clear hgz))
 refine bodyPost_ret (v := .agg #[.int .i64 0, .int .i64 0, .int .u64 0])
  (results_cell_row rfl _ _ (w.heap.size + 1) 41 _ (0, 0) _ rfl (Row.arr (cs := #[.int .i64 0, .int .i64 0, .int .u64 0]) hrz) Tryz.underlying41 rfl HZM.out) rfl ⟨rfl, HBZ.out⟩
theorem rmark_yes (view opn under : Int) (parent : Nat) (client session request oper : Int) (body : ByteArray) (T : ByteArray) (q : Nat) (w : World)
  (HP : Hid (∀ W : World, Calls Tryz.prog 95 #[.agg #[.int .i64 view, .int .i64 opn, .int .i64 under, .int .u64 (parent : Int), .int .i64 client, .int .i64 session, .int .i64 request, .int .i64 oper, .string body]] W fun x W' => x = .returned (.tuple #[.string T, .int .i64 0]) ∧ Below W.heap.size W W'))
  (HC : Hid (∀ W : World, Calls Tryz.prog 96 #[.int .u64 (parent : Int), .string T] W fun e w' => e = .returned (.int .u64 (q : Int)) ∧ W = w')) :
  Calls Tryz.prog 57 #[.agg #[.int .i64 view, .int .i64 opn, .int .i64 under, .int .u64 (parent : Int), .int .i64 client, .int .i64 session, .int .i64 request, .int .i64 oper, .string body]] w (VE w (.agg #[.int .i64 opn, .int .i64 view, .int .u64 (q : Int)])) := by
 have HZ := hid esize
 have HZM := hid msize
 have HB0 : Hid (Below w.heap.size w ((w.alloc (.cells #[.int .i64 view, .int .i64 opn, .int .i64 under, .int .u64 (parent : Int), .int .i64 client, .int .i64 session, .int .i64 request, .int .i64 oper, .string body] 31)).alloc (.cells #[.int .i64 0, .int .i64 0, .int .u64 0] 41))) := hid (((Below.refl w.heap.size w).alloc (Nat.le_refl _) _).alloc (by simp) _)
 have HE0 : Hid (Row ((w.alloc (.cells #[.int .i64 view, .int .i64 opn, .int .i64 under, .int .u64 (parent : Int), .int .i64 client, .int .i64 session, .int .i64 request, .int .i64 oper, .string body] 31)).alloc (.cells #[.int .i64 0, .int .i64 0, .int .u64 0] 41)) w.heap.size 31 (#[.int .i64 view, .int .i64 opn, .int .i64 under, .int .u64 (parent : Int), .int .i64 client, .int .i64 session, .int .i64 request, .int .i64 oper, .string body] : Array Value).toList) := hid ((Row.new _ _ _).alloc _)
 have HM0 : Hid (Row ((w.alloc (.cells #[.int .i64 view, .int .i64 opn, .int .i64 under, .int .u64 (parent : Int), .int .i64 client, .int .i64 session, .int .i64 request, .int .i64 oper, .string body] 31)).alloc (.cells #[.int .i64 0, .int .i64 0, .int .u64 0] 41)) (w.heap.size + 1) 41 (#[.int .i64 0, .int .i64 0, .int .u64 0] : Array Value).toList) := hid (by
  have := Row.new (w.alloc (.cells #[.int .i64 view, .int .i64 opn, .int .i64 under, .int .u64 (parent : Int), .int .i64 client, .int .i64 session, .int .i64 request, .int .i64 oper, .string body] 31)) 41 #[.int .i64 0, .int .i64 0, .int .u64 0]
  simpa using this)
 go_enter Tryz.func57, Tryz.ntmps57
 go_wp2_with (go_at_call 95; refine (HP.out _).mono ?_; rintro e w1 ⟨rfl, hb1⟩; have hbb := HB0.out.trans (hb1.mono HB0.out.size); have he := HE0.out.below hb1 HE0.out.lt; have hm := HM0.out.below hb1 HM0.out.lt; clear hb1)
 try simp only [Act.put]
 have HBB := hid hbb
 have HEB := hid he
 have HMB := hid hm
 clear hbb he hm
 refine wp_region_held_drew (S := fun W => Below w.heap.size w W ∧ Row W w.heap.size 31 (#[.int .i64 view, .int .i64 opn, .int .i64 under, .int .u64 (parent : Int), .int .i64 client, .int .i64 session, .int .i64 request, .int .i64 oper, .string body] : Array Value).toList ∧ ∃ z : Array Value, z.size = 3 ∧ Row W (w.heap.size + 1) 41 z.toList) (by kernel_rfl) ⟨HBB.out.drew, HEB.out, #[.int .i64 0, .int .i64 0, .int .u64 0], rfl, HMB.out⟩ (fun hH => ?_)
 refine tk_ (i := 0) (v := .pointer (some ⟨w.heap.size, 1, none⟩)) rfl (Or.inl ⟨by rfl, fun w' hw' => by clear hw'; go_simp⟩) hH ?_
 simp only [Act.put]
 refine tk_ (i := 1) (v := .int .i64 opn) rfl (Or.inl ⟨by rfl, fun w' hw' => by have h := hw'.2.1.at_ 1 _ rfl; clear hw'; go_simp⟩) hH ?_
 simp only [Act.put]
 refine tk_ (i := 2) (v := .pointer (some ⟨w.heap.size, 0, none⟩)) rfl (Or.inl ⟨by rfl, fun w' hw' => by clear hw'; go_simp⟩) hH ?_
 simp only [Act.put]
 refine tk_ (i := 3) (v := .int .i64 view) rfl (Or.inl ⟨by rfl, fun w' hw' => by have h := hw'.2.1.at_ 0 _ rfl; clear hw'; go_simp⟩) hH ?_
 simp only [Act.put]
 refine tk_ (i := 4) (v := .pointer (some ⟨w.heap.size, 3, none⟩)) rfl (Or.inl ⟨by rfl, fun w' hw' => by clear hw'; go_simp⟩) hH ?_
 simp only [Act.put]
 refine tk_ (i := 5) (v := .int .u64 (parent : Int)) rfl (Or.inl ⟨by rfl, fun w' hw' => by have h := hw'.2.1.at_ 3 _ rfl; clear hw'; go_simp⟩) hH ?_
 simp only [Act.put]
 refine tk_ (i := 6) (v := .string T) rfl (Or.inl ⟨by rfl, fun w' hw' => by clear hw'; go_simp⟩) hH ?_
 simp only [Act.put]
 refine rd1 (i := 7) (by kernel_rfl) rfl (fun K hK => ?_)
 go_simp
 go_at_call 96
 refine (HC.out _).mono ?_
 rintro e w2 ⟨rfl, rfl⟩
 go_wp2_with fail
 refine hK.out _ _ (hH) (fun hH => ?_)
 clear hK K
 try simp only [Act.put]
 refine tk_ (i := 8) (v := .agg #[.int .i64 opn, .int .i64 view, .int .u64 (q : Int)]) rfl (Or.inl ⟨by rfl, fun w' hw' => by clear hw'; go_simp⟩) hH ?_
 simp only [Act.put]
 refine rd1 (i := 9) (by kernel_rfl) rfl (fun K hK => ?_)
 obtain ⟨hb8, he8, z, hz8, hm8⟩ := hH
 rw [if_pos (by kernel_rfl)]
 refine wp_store_st9 (.tmp 2) (.tmp 21) rfl HZM.out (w.heap.size + 1) z #[.int .i64 opn, .int .i64 view, .int .u64 (q : Int)] rfl rfl hm8 hz8 rfl (by simp [Value.oneCell']) (fun w9 hr9 hg9 => ?_)
 have hb9 : Below w.heap.size w w9 := hb8.trans (below_grown hg9 (by omega) hb8.size)
 refine hK.out _ _ ⟨hb9, he8.grown hg9 (by intro e; have := Option.some.inj e; omega), _, rfl, hr9⟩ (fun hH => ?_)
 clear hK K
 try simp only [Act.put]
 refine wpAnyH_done (by kernel_rfl) ?_ _
 try simp only [Act.put]
 go_wp2_with fail
 refine bodyPost_ret (v := .agg #[.int .i64 opn, .int .i64 view, .int .u64 (q : Int)])
  (results_cell_row rfl _ _ (w.heap.size + 1) 41 _ (0, 0) _ rfl (Row.arr (cs := #[.int .i64 opn, .int .i64 view, .int .u64 (q : Int)]) hr9) Tryz.underlying41 rfl HZM.out) rfl ⟨rfl, hb9⟩
theorem emark_any (e : En) (he : e.fits) (w : World) (hf : Fd w) : Calls Tryz.prog 24 #[e.val] w (VE w (markE e).val) := by
 have HP := hid (fun W hW => epack_any e W hW)
 unfold markE
 have hp : (BitVec.ofNat 64 e.parent).toNat = e.parent := by
  rw [BitVec.toNat_ofNat]
  exact Nat.mod_eq_of_lt he.2.2
 by_cases h0 : (packE e).2 = 0
 ·
  rw [if_pos h0]
  have hl := packE_len (e := e) (s := (packE e).1) (by rw [← h0])
  have HC := hid (fun W => chain_calls (BitVec.ofNat 64 e.parent) ⟨(packE e).1.toArray⟩ W (by rw [← sb_len, sb_mk]; omega))
  rw [hp, sb_mk] at HC
  generalize (chainOf (BitVec.ofNat 64 e.parent) (packE e).1).toNat = q at *
  clear hl
  generalize packE e = r at *
  obtain ⟨rl, rf⟩ := r
  simp only at h0
  subst h0
  obtain ⟨view, opn, under, parent, client, session, request, oper, body⟩ := e
  exact emark_yes view opn under parent client session request oper body ⟨rl.toArray⟩ q w hf HP HC
 ·
  rw [if_neg h0]
  generalize packE e = r at *
  obtain ⟨view, opn, under, parent, client, session, request, oper, body⟩ := e
  exact emark_no view opn under parent client session request oper body ⟨r.1.toArray⟩ r.2 w hf (by simpa using h0) HP
theorem rmark_any (e : En) (he : e.fits) (w : World) : Calls Tryz.prog 57 #[e.val] w (VE w (markE e).val) := by
 have HP := hid (fun W => rpack9_any e he W)
 unfold markE
 have hp : (BitVec.ofNat 64 e.parent).toNat = e.parent := by
  rw [BitVec.toNat_ofNat]
  exact Nat.mod_eq_of_lt he.2.2
 by_cases h0 : (packE e).2 = 0
 ·
  rw [if_pos h0]
  have hl := packE_len (e := e) (s := (packE e).1) (by rw [← h0])
  have HC := hid (fun W => rchain_calls (BitVec.ofNat 64 e.parent) ⟨(packE e).1.toArray⟩ W (by rw [← sb_len, sb_mk]; omega))
  rw [hp, sb_mk] at HC
  generalize (chainOf (BitVec.ofNat 64 e.parent) (packE e).1).toNat = q at *
  clear hl
  generalize packE e = r at *
  obtain ⟨rl, rf⟩ := r
  simp only at h0
  subst h0
  obtain ⟨view, opn, under, parent, client, session, request, oper, body⟩ := e
  exact rmark_yes view opn under parent client session request oper body ⟨rl.toArray⟩ q w HP HC
 ·
  rw [if_neg h0]
  generalize packE e = r at *
  obtain ⟨view, opn, under, parent, client, session, request, oper, body⟩ := e
  exact rmark_no view opn under parent client session request oper body ⟨r.1.toArray⟩ r.2 w (by simpa using h0) HP
/-! ### answers -/
def An.val (a : An) : Value := .agg a.cells
theorem An.one (a : An) : a.cells.all (·.oneCell') = true := by simp [An.cells, Value.oneCell']
theorem asize : (Tryz.prog.info? 33).map (·.size) = some 6 := by kernel_rfl
theorem ansFields : (Tryz.prog.fieldsOf 33).toList = [{ name := "Kind", type := 3, offset := 0, embedded := false, tag := "", pkgPath := "", byteOffset := 0 }, { name := "Client", type := 3, offset := 1, embedded := false, tag := "", pkgPath := "", byteOffset := 8 }, { name := "Session", type := 3, offset := 2, embedded := false, tag := "", pkgPath := "", byteOffset := 16 }, { name := "Request", type := 3, offset := 3, embedded := false, tag := "", pkgPath := "", byteOffset := 24 }, { name := "Op", type := 3, offset := 4, embedded := false, tag := "", pkgPath := "", byteOffset := 32 }, { name := "Body", type := 9, offset := 5, embedded := false, tag := "", pkgPath := "", byteOffset := 40 }] := by kernel_rfl
theorem eqAn (x : An) (W : World) : (Op.equalIn 10000 33 (.agg x.cells) (.agg x.cells)).run Tryz.prog W = .ok true W := by
 rw [run_equalIn_struct W 9999 33 x.cells x.cells (by kernel_rfl) (by kernel_rfl), ansFields]
 have x0 : x.cells[0]? = some (.int .i64 x.kind) := rfl
 have x1 : x.cells[1]? = some (.int .i64 x.client) := rfl
 have x2 : x.cells[2]? = some (.int .i64 x.session) := rfl
 have x3 : x.cells[3]? = some (.int .i64 x.request) := rfl
 have x4 : x.cells[4]? = some (.int .i64 x.opn) := rfl
 have x5 : x.cells[5]? = some (.string x.body) := rfl
 generalize x.cells = X at *
 rw [eqF_int9 (P := Tryz.prog) (W := W) 9998 X X { name := "Kind", type := 3, offset := 0, embedded := false, tag := "", pkgPath := "", byteOffset := 0 } _ .i64 x.kind x.kind (by simp) (part_int9 3 X 0 _ .i64 Tryz.underlying3 sizeInt x0) (part_int9 3 X 0 _ .i64 Tryz.underlying3 sizeInt x0) Tryz.underlying3, if_pos rfl]
 rw [eqF_int9 (P := Tryz.prog) (W := W) 9998 X X { name := "Client", type := 3, offset := 1, embedded := false, tag := "", pkgPath := "", byteOffset := 8 } _ .i64 x.client x.client (by simp) (part_int9 3 X 1 _ .i64 Tryz.underlying3 sizeInt x1) (part_int9 3 X 1 _ .i64 Tryz.underlying3 sizeInt x1) Tryz.underlying3, if_pos rfl]
 rw [eqF_int9 (P := Tryz.prog) (W := W) 9998 X X { name := "Session", type := 3, offset := 2, embedded := false, tag := "", pkgPath := "", byteOffset := 16 } _ .i64 x.session x.session (by simp) (part_int9 3 X 2 _ .i64 Tryz.underlying3 sizeInt x2) (part_int9 3 X 2 _ .i64 Tryz.underlying3 sizeInt x2) Tryz.underlying3, if_pos rfl]
 rw [eqF_int9 (P := Tryz.prog) (W := W) 9998 X X { name := "Request", type := 3, offset := 3, embedded := false, tag := "", pkgPath := "", byteOffset := 24 } _ .i64 x.request x.request (by simp) (part_int9 3 X 3 _ .i64 Tryz.underlying3 sizeInt x3) (part_int9 3 X 3 _ .i64 Tryz.underlying3 sizeInt x3) Tryz.underlying3, if_pos rfl]
 rw [eqF_int9 (P := Tryz.prog) (W := W) 9998 X X { name := "Op", type := 3, offset := 4, embedded := false, tag := "", pkgPath := "", byteOffset := 32 } _ .i64 x.opn x.opn (by simp) (part_int9 3 X 4 _ .i64 Tryz.underlying3 sizeInt x4) (part_int9 3 X 4 _ .i64 Tryz.underlying3 sizeInt x4) Tryz.underlying3, if_pos rfl]
 rw [eqF_strs (P := Tryz.prog) (W := W) 9998 X X { name := "Body", type := 9, offset := 5, embedded := false, tag := "", pkgPath := "", byteOffset := 40 } _ x.body x.body (by simp) (part_str9 9 X 5 _ Tryz.underlying9 sizeStr x5) (part_str9 9 X 5 _ Tryz.underlying9 sizeStr x5) Tryz.underlying9, if_pos rfl]
 rw [eqF_nil]
theorem egAn : Tryz.prog.eqGuardType Tryz.prog.depth 33 = false := by kernel_rfl
section
variable {ops : Array Oper} {rest : List Oper} {o : Oper} {a : Act} {w : World} {Q : Exit → Act → World → Prop}
theorem wpl_eqa (hw : Region.wanted o (yielded ops a.tmps) = true) (s : An) (x y : Operand) (ty : TypeId) (ho : o.op = .binOp .eql 33 x y ty)
  (hx : a.eval x = .agg s.cells) (hy : a.eval y = .agg s.cells) (h : wpList Tryz.prog ops Q rest (a.put o.dst (.bool true)) w) : wpList Tryz.prog ops Q (o :: rest) a w := by
 refine BigFrame.wpList_want hw fun K hK => ?_
 have hEQ := eqAn s w
 have hEG := egAn
 generalize s.cells = Z at *
 unfold Oper.wp execOp
 simp [ho, hx, hy, eqGuard, hEG, binOp, Op.equal, Op.maxDepth, hEQ, Result.andThen]
 exact hK _ _ h
end

/-! ### a machine with its mark -/
structure Ma where
 m : Mk
 w : Mw
def ma0 : Ma := ⟨mk0, mw0⟩
/-- behind an entry that is done -/
def Ma.run (S : Ma) (e : En) : Ma := ⟨markE e, (S.w.does e.client e.session e.request e.oper e.opn e.body).1⟩
def Ma.ans (S : Ma) (e : En) : An := (S.w.does e.client e.session e.request e.oper e.opn e.body).2
def Ma.appE (S : Ma) (e : En) : Int := if ¬ Rt e then 4 else if ¬ Fol S.m e then 12 else 0
def Ma.app (S : Ma) (e : En) : Ma := if S.appE e = 0 then S.run e else S
def Ma.appA (S : Ma) (e : En) : An := if S.appE e = 0 then S.ans e else an0
theorem appE_form {S : Ma} {e : En} (h : ¬ Rt e) : S.appE e = 4 := if_pos h
theorem appE_order {S : Ma} {e : En} (h : Rt e) (hf : ¬ Fol S.m e) : S.appE e = 12 := by unfold Ma.appE; rw [if_neg (fun q => q h), if_pos hf]
theorem appE_ok {S : Ma} {e : En} (hf : Fol S.m e) : S.appE e = 0 := by unfold Ma.appE; rw [if_neg (fun q => q hf.1), if_neg (fun q => q hf)]
theorem appE_iff {S : Ma} {e : En} : S.appE e = 0 ↔ Fol S.m e := by
 constructor
 ·
  intro h
  by_cases h1 : Rt e
  ·
   by_cases h2 : Fol S.m e
   ·
    exact h2
   ·
    rw [appE_order h1 h2] at h; exact absurd h (by decide)
  ·
   rw [appE_form h1] at h; exact absurd h (by decide)
 ·
  exact appE_ok
/-- what is told of a client -/
def Ma.told (S : Ma) (c : Int) : An := Go.Proofs.YtgednnjmcjhfmaaGreatDoor.told (look S.w.T c)
/-- what would be told once more -/
def Ma.cac (S : Ma) (c s r : Int) : An := if ver S.w.T c s r = 2 then S.told c else an0
def Ma.cacB (S : Ma) (c s r : Int) : Bool := decide (ver S.w.T c s r = 2)
/-- a mark that may be -/
structure Mk.ok (m : Mk) : Prop where
 o : 0 ≤ m.opn ∧ m.opn ≤ 72057594037927935
 v : 0 ≤ m.view ∧ m.view ≤ 72057594037927935
 s : m.sum < 18446744073709551616
structure Ma.WF (S : Ma) : Prop where
 m : S.m.ok
 w : S.w.WF
theorem mk0_ok : mk0.ok := ⟨⟨by decide, by decide⟩, ⟨by decide, by decide⟩, by decide⟩
theorem ma0_wf : ma0.WF := ⟨mk0_ok, mw0_wf⟩
theorem packE_zero {e : En} (he : e.fits) (h : Rt e) : (packE e).2 = 0 := by
 have h1 := (packS_rt he h).1
 have h2 : ¬ 3968 < (sb e.body).length := by
  obtain ⟨_, _, _, _, _, _, _, _, h9⟩ := h
  rw [sb_len]
  omega
 unfold packE packS
 rw [if_pos h, if_neg (fun q => q h1), if_neg h2]
theorem markE_rt {e : En} (he : e.fits) (h : Rt e) : (markE e).opn = e.opn ∧ (markE e).view = e.view ∧ (markE e).sum < 18446744073709551616 := by
 unfold markE
 rw [if_pos (packE_zero he h)]
 exact ⟨rfl, rfl, BitVec.isLt _⟩
theorem Ma.app_wf {S : Ma} (h : S.WF) {e : En} (he : e.fits) : (S.app e).WF := by
 unfold Ma.app
 by_cases h0 : S.appE e = 0
 ·
  rw [if_pos h0]
  have hf := appE_iff.1 h0
  obtain ⟨h1, h2, h3⟩ := markE_rt he hf.1
  obtain ⟨⟨r1, r2⟩, _, ⟨r3, r4⟩, _⟩ := id hf.1
  exact ⟨⟨by show 0 ≤ (markE e).opn ∧ (markE e).opn ≤ 72057594037927935; omega, by show 0 ≤ (markE e).view ∧ (markE e).view ≤ 72057594037927935; omega, h3⟩, Mw.does_wf h.w _ _ _ _ _ _⟩
 ·
  rw [if_neg h0]; exact h
/-- its bytes -/
def Ma.pack (S : Ma) : List UInt8 := packM S.m.opn.toNat S.m.view.toNat S.m.sum S.w
/-- its own cells -/
def mcs (m : Mk) (ps pb : Nat) : List Value := [.int .i64 m.opn, .int .i64 m.view, .int .u64 (m.sum : Int), .pointer (some ⟨ps, 0, none⟩), .pointer (some ⟨pb, 0, none⟩)]
/-- what a client is told behind its opening, and behind its request -/
theorem look_opn {T : List Ss} {c o : Int} (h : opnE T c o = 0) : look (opn T c o) c = fresh c o := by
 have hT : opn T c o = room T ++ [fresh c o] := by unfold opn; rw [if_pos h]
 obtain ⟨_, _, h3⟩ := opnE_zero h
 have hno := pl_no h3
 have hlen : (room T).length < (room T ++ [fresh c o]).length := by simp
 have hpl : pl (room T ++ [fresh c o]) c = (room T).length := by
  refine pl_this ?_ hlen (by simp [fresh])
  rcases Nat.lt_or_ge (pl (room T ++ [fresh c o]) c) (room T).length with hlt | hge
  ·
   have := pl_here (T := room T ++ [fresh c o]) (c := c) (by omega)
   rw [List.getElem_append_left hlt] at this
   exact absurd this (hno _ (room_sub (List.getElem_mem hlt)))
  ·
   exact hge
 unfold look
 rw [hT, hpl, if_pos hlen, at_get hlen]
 simp
theorem look_note {T : List Ss} {c r o : Int} {t : ByteArray} (h : notE T c r o t = 0) : look (note T c r o t) c = noted (at_8 T (pl T c)) r o t := by
 obtain ⟨h1, _⟩ := notE_zero h
 have hT : note T c r o t = T.set (pl T c) (noted (at_8 T (pl T c)) r o t) := by unfold note; rw [if_pos h]
 have hl : pl T c < (T.set (pl T c) (noted (at_8 T (pl T c)) r o t)).length := by simpa using h1
 have hpl : pl (T.set (pl T c) (noted (at_8 T (pl T c)) r o t)) c = pl T c := by
  refine pl_this ?_ hl (by rw [List.getElem_set_self]; show (at_8 T (pl T c)).c = c; rw [at_get h1]; exact pl_here h1)
  rcases Nat.lt_or_ge (pl (T.set (pl T c) (noted (at_8 T (pl T c)) r o t)) c) (pl T c) with hlt | hge
  ·
   have h2 := pl_here (T := T.set (pl T c) (noted (at_8 T (pl T c)) r o t)) (c := c) (by omega)
   rw [List.getElem_set_ne (by omega)] at h2
   exact absurd h2 (pl_before hlt (by omega))
  ·
   exact hge
 unfold look
 rw [hT, hpl, if_pos hl, at_get hl, List.getElem_set_self]
theorem look_here {T : List Ss} {c : Int} (h : pl T c < T.length) : look T c = at_8 T (pl T c) := if_pos h
theorem his_here {M : Mw} {c : Int} (h : pl M.T c < M.T.length) : (M.his c).c = c := by
 unfold Mw.his
 rw [at_get h]
 exact pl_here h
/-- the types of a machine, its table, its ledger -/
abbrev K3 := Nat × Nat × Nat
/-- package machine's -/
def KP : K3 := (70, 94, 96)
/-- the document's -/
def KR : K3 := (45, 51, 57)
/-- the machine S lies at p, in the blocks fp -/
def Hm (X : K3) (p : Nat) (S : Ma) (fp : List Nat) (w : World) : Prop := ∃ ps pb, Gm X.1 X.2.1 X.2.2 p ps pb (mcs S.m ps pb) S.w fp w
/-- since w, where it lay in fp, the machine is so now -/
def Hmw (X : K3) (p : Nat) (w : World) (fp : List Nat) (S : Ma) (wr : World) : Prop := ∃ fq, Hm X p S fq wr ∧ Fr w wr fp ∧ ∀ g ∈ fq, g ∈ fp ∨ w.heap.size ≤ g
section
variable {X Y : K3} {p q : Nat} {S S' T T' : Ma} {fp fq : List Nat} {w w' w'' : World} {P : Program} {f : FuncId} {args : Array Value} {v : Ending}
theorem Hm.lt (h : Hm X p S fp w) : ∀ b ∈ fp, b < w.heap.size := by obtain ⟨_, _, h⟩ := h; exact h.lt
theorem Hm.fr (h : Hm X p S fp w) (hf : Fr w w' fq) (hd : ∀ b ∈ fp, b ∉ fq) : Hm X p S fp w' := by obtain ⟨_, _, h⟩ := h; exact ⟨_, _, h.fr hf hd⟩
theorem Hm.below (h : Hm X p S fp w) (hb : Below w.heap.size w w') : Hm X p S fp w' := h.fr (Fr.of_below hb) (by simp)
theorem Hmw.of {ps pb : Nat} (h : Gmw X.1 X.2.1 X.2.2 p ps pb w fp (mcs S.m ps pb) S.w w') : Hmw X p w fp S w' := by
 obtain ⟨fq, h1, h2, h3⟩ := h
 exact ⟨fq, ⟨_, _, h1⟩, h2, h3⟩
theorem Hmw.frame (h : Hmw X p w fp S w') : Fr w w' fp := by obtain ⟨_, _, h, _⟩ := h; exact h
end

/-- these blocks are as they were -/
def Kg (G : List Nat) (w w' : World) : Prop := ∀ g ∈ G, w'.heap[g]? = w.heap[g]?
theorem Kg.row {G : List Nat} {w w' : World} {g : Nat} {e : TypeId} {cs : List Value} (h : Kg G w w') (hr : Row w g e cs) (hg : g ∈ G) : Row w' g e cs := (h g hg).trans hr
/-- a law's own machine, and blocks of its own apart from it -/
def Sg (w0 : World) (X : K3) (p : Nat) (S : Ma) (G : List Nat) (w : World) : Prop := ∃ fp, Hm X p S fp w ∧ (∀ b ∈ fp, w0.heap.size ≤ b) ∧ (∀ g ∈ G, g < w.heap.size ∧ g ∉ fp) ∧ Below w0.heap.size w0 w
/-- two machines, apart -/
def Tg (w0 : World) (X : K3) (p : Nat) (S : Ma) (Y : K3) (q : Nat) (T : Ma) (G : List Nat) (w : World) : Prop :=
 ∃ fp fq, Hm X p S fp w ∧ Hm Y q T fq w ∧ (∀ b ∈ fp, b ∉ fq) ∧ (∀ b ∈ fp, w0.heap.size ≤ b) ∧ (∀ b ∈ fq, w0.heap.size ≤ b) ∧ (∀ g ∈ G, g < w.heap.size ∧ g ∉ fp ∧ g ∉ fq) ∧ Below w0.heap.size w0 w
section
variable {w0 w w' : World} {X Y : K3} {p q g : Nat} {S S' T T' : Ma} {G G' : List Nat} {P : Program} {f : FuncId} {args : Array Value} {v : Ending}
theorem Sg.frame (h : Sg w0 X p S G w) : Below w0.heap.size w0 w := by obtain ⟨_, _, _, _, h⟩ := h; exact h
theorem Sg.below (h : Sg w0 X p S G w) (hb : Below w.heap.size w w') : Sg w0 X p S G w' := by
 obtain ⟨fp, h1, h2, h3, h4⟩ := h
 exact ⟨fp, h1.below hb, h2, fun g hg => ⟨Nat.lt_of_lt_of_le (h3 g hg).1 hb.size, (h3 g hg).2⟩, h4.trans (hb.mono h4.size)⟩
theorem Sg.add (h : Sg w0 X p S G w) (hb : Below w.heap.size w w') (hg : w.heap.size ≤ g) (hlt : g < w'.heap.size) : Sg w0 X p S (g :: G) w' := by
 obtain ⟨fp, h1, h2, h3, h4⟩ := h.below hb
 obtain ⟨fp0, k1, k2, k3, k4⟩ := h
 refine ⟨fp0, k1.below hb, k2, fun b hm => ?_, h4⟩
 rcases List.mem_cons.1 hm with rfl | hm
 ·
  exact ⟨hlt, fun q => by have := k1.lt _ q; omega⟩
 ·
  exact ⟨Nat.lt_of_lt_of_le (k3 b hm).1 hb.size, (k3 b hm).2⟩
theorem Sg.call (h : Sg w0 X p S G w) (H : ∀ fp, Hm X p S fp w → Calls P f args w fun e w' => e = v ∧ Hmw X p w fp S' w') : Calls P f args w fun e w' => e = v ∧ Sg w0 X p S' G w' ∧ Kg G w w' := by
 obtain ⟨fp, h1, h2, h3, h4⟩ := h
 refine (H fp h1).mono fun e w' hh => ⟨hh.1, ?_, ?_⟩
 ·
  obtain ⟨fq, k1, k2, k3⟩ := hh.2
  refine ⟨fq, k1, fun b hb => ?_, fun g hg => ⟨Nat.lt_of_lt_of_le (h3 g hg).1 k2.size, fun hq => ?_⟩, h4.trans (k2.below h2 h4.size)⟩
  ·
   rcases k3 b hb with h | h
   ·
    exact h2 b h
   ·
    exact Nat.le_trans h4.size h
  ·
   rcases k3 g hq with h | h
   ·
    exact (h3 g hg).2 h
   ·
    have := (h3 g hg).1; omega
 ·
  intro g hg
  exact hh.2.frame.block g (h3 g hg).1 (h3 g hg).2
theorem Sg.look {Q : Ending → World → Prop} (h : Sg w0 X p S G w) (H : ∀ fp, Hm X p S fp w → Calls P f args w Q) : Calls P f args w Q := by
 obtain ⟨_, h1, _⟩ := h
 exact H _ h1
theorem Tg.frame (h : Tg w0 X p S Y q T G w) : Below w0.heap.size w0 w := by obtain ⟨_, _, _, _, _, _, _, _, h⟩ := h; exact h
theorem Tg.fst (h : Tg w0 X p S Y q T G w) : Sg w0 X p S G w := by obtain ⟨fp, fq, h1, h2, h3, h4, h5, h6, h7⟩ := h; exact ⟨fp, h1, h4, fun g hg => ⟨(h6 g hg).1, (h6 g hg).2.1⟩, h7⟩
theorem Tg.snd (h : Tg w0 X p S Y q T G w) : Sg w0 Y q T G w := by obtain ⟨fp, fq, h1, h2, h3, h4, h5, h6, h7⟩ := h; exact ⟨fq, h2, h5, fun g hg => ⟨(h6 g hg).1, (h6 g hg).2.2⟩, h7⟩
theorem Tg.below (h : Tg w0 X p S Y q T G w) (hb : Below w.heap.size w w') : Tg w0 X p S Y q T G w' := by
 obtain ⟨fp, fq, h1, h2, h3, h4, h5, h6, h7⟩ := h
 exact ⟨fp, fq, h1.below hb, h2.below hb, h3, h4, h5, fun g hg => ⟨Nat.lt_of_lt_of_le (h6 g hg).1 hb.size, (h6 g hg).2⟩, h7.trans (hb.mono h7.size)⟩
theorem Tg.sub (h : Tg w0 X p S Y q T G w) (hG : ∀ g ∈ G', g ∈ G) : Tg w0 X p S Y q T G' w := by
 obtain ⟨fp, fq, h1, h2, h3, h4, h5, h6, h7⟩ := h
 exact ⟨fp, fq, h1, h2, h3, h4, h5, fun g hg => h6 g (hG g hg), h7⟩
theorem Tg.add (h : Tg w0 X p S Y q T G w) (hb : Below w.heap.size w w') (hg : w.heap.size ≤ g) (hlt : g < w'.heap.size) : Tg w0 X p S Y q T (g :: G) w' := by
 have hfr := (h.below hb).frame
 obtain ⟨fp, fq, h1, h2, h3, h4, h5, h6, h7⟩ := h
 refine ⟨fp, fq, h1.below hb, h2.below hb, h3, h4, h5, fun b hm => ?_, hfr⟩
 rcases List.mem_cons.1 hm with rfl | hm
 ·
  exact ⟨hlt, fun q => by have := h1.lt _ q; omega, fun q => by have := h2.lt _ q; omega⟩
 ·
  exact ⟨Nat.lt_of_lt_of_le (h6 b hm).1 hb.size, (h6 b hm).2⟩
theorem Tg.swap (h : Tg w0 X p S Y q T G w) : Tg w0 Y q T X p S G w := by
 obtain ⟨fp, fq, h1, h2, h3, h4, h5, h6, h7⟩ := h
 exact ⟨fq, fp, h2, h1, fun b hb hn => h3 b hn hb, h5, h4, fun g hg => ⟨(h6 g hg).1, (h6 g hg).2.2, (h6 g hg).2.1⟩, h7⟩
theorem Tg.call1 (h : Tg w0 X p S Y q T G w) (H : ∀ fp, Hm X p S fp w → Calls P f args w fun e w' => e = v ∧ Hmw X p w fp S' w') : Calls P f args w fun e w' => e = v ∧ Tg w0 X p S' Y q T G w' ∧ Kg G w w' := by
 obtain ⟨fp, fq, h1, h2, h3, h4, h5, h6, h7⟩ := h
 refine (H fp h1).mono fun e w' hh => ⟨hh.1, ?_, ?_⟩
 ·
  obtain ⟨fr, k1, k2, k3⟩ := hh.2
  refine ⟨fr, fq, k1, h2.fr k2 (fun b hb hn => h3 b hn hb), ?_, ?_, h5, ?_, h7.trans (k2.below h4 h7.size)⟩
  ·
   intro b hb hn
   rcases k3 b hb with h | h
   ·
    exact h3 b h hn
   ·
    have := h2.lt b hn; omega
  ·
   intro b hb
   rcases k3 b hb with h | h
   ·
    exact h4 b h
   ·
    exact Nat.le_trans h7.size h
  ·
   intro g hg
   refine ⟨Nat.lt_of_lt_of_le (h6 g hg).1 k2.size, fun hq => ?_, (h6 g hg).2.2⟩
   rcases k3 g hq with h | h
   ·
    exact (h6 g hg).2.1 h
   ·
    have := (h6 g hg).1; omega
 ·
  intro g hg
  exact hh.2.frame.block g (h6 g hg).1 (h6 g hg).2.1
theorem Tg.call2 (h : Tg w0 X p S Y q T G w) (H : ∀ fp, Hm Y q T fp w → Calls P f args w fun e w' => e = v ∧ Hmw Y q w fp T' w') : Calls P f args w fun e w' => e = v ∧ Tg w0 X p S Y q T' G w' ∧ Kg G w w' :=
 (h.swap.call1 H).mono fun _ _ hh => ⟨hh.1, hh.2.1.swap, hh.2.2⟩
/-- a second one is made -/
theorem Sg.two {fq : List Nat} (h : Sg w0 X p S G w) (hb : Below w.heap.size w w') (hk : Hm Y q T fq w') (hn : ∀ b ∈ fq, w.heap.size ≤ b) : Tg w0 X p S Y q T G w' := by
 obtain ⟨fp, h1, h2, h3, h4⟩ := h
 refine ⟨fp, fq, h1.below hb, hk, fun b hb hm => ?_, h2, fun b hb => Nat.le_trans h4.size (hn b hb), fun g hg => ⟨Nat.lt_of_lt_of_le (h3 g hg).1 hb.size, (h3 g hg).2, fun hq => ?_⟩, h4.trans (hb.mono h4.size)⟩
 ·
  have := h1.lt b hb
  have := hn b hm
  omega
 ·
  have := (h3 g hg).1
  have := hn g hq
  omega
theorem Sg.mk' {fp : List Nat} (hb : Below w0.heap.size w0 w) (hk : Hm X p S fp w') (hf : ∀ b ∈ fp, w.heap.size ≤ b) (hx : Below w.heap.size w w') : Sg w0 X p S [] w' := ⟨fp, hk, fun b h => Nat.le_trans hb.size (hf b h), by simp, hb.trans (hx.mono hb.size)⟩
end
/-- a new machine, all of it in new memory -/
def NH (X : K3) (w : World) (S : Ma) (v : Nat → Value) (e : Ending) (w' : World) : Prop := ∃ p fp, e = .returned (v p) ∧ Hm X p S fp w' ∧ (∀ b ∈ fp, w.heap.size ≤ b) ∧ Below w.heap.size w w'
/-! ### cells of a row: a struct at its beginning -/
theorem Row.pre {w : World} {g : Nat} {e : TypeId} {xs ys : List Value} (h : Row w g e (xs ++ ys)) : w.rangeAt g 0 xs := fun j v hv => by
 have hj : j < xs.length := (List.getElem?_eq_some_iff.1 hv).1
 rw [Nat.zero_add, h.cell, List.getElem?_append_left hj, hv]
/-- a store of a struct into the beginning of a row -/
theorem wpl_store_pre {P : Program} {ops : Array Oper} {rest : List Oper} {o : Oper} {a : Act} {w : World} {Q : Exit → Act → World → Prop} (hgd : o.guard = none) {T T' : TypeId} (x y : Operand) (ho : o.op = .store T x y) {m : Nat} (hm : (P.info? T).map (·.size) = some m)
  (g : Nat) (cs ds post : List Value) (hx : a.eval x = .pointer (some ⟨g, 0, none⟩)) (hy : a.eval y = .agg ds.toArray) (hrow : Row w g T' (cs ++ post))
  (hK : ∀ w', Row w' g T' (ds ++ post) → w.grownBy w' (some g) → wpList P ops Q rest (a.put o.dst undef) w')
  (hc : Hid (cs.length = m)) (hd : Hid (ds.length = m)) (hone : Hid (ds.all (·.oneCell') = true)) : wpList P ops Q (o :: rest) a w := by
 have hl : cs.length = ds.length := by rw [hc.out, hd.out]
 obtain ⟨h1, h2⟩ := hrow.setCells ds 0 (by simp; omega)
 have e : splice (cs ++ post) 0 ds = ds ++ post := by
  unfold splice
  rw [List.take_zero, List.nil_append, Nat.zero_add, List.drop_append_of_le_length (by omega), ← hl, List.drop_length, List.nil_append]
 rw [e] at h1
 exact wpList_store_mid hgd T x y ho g 0 ds.toArray hx hy (by rw [List.size_toArray]; exact hrow.there _ _ (by simp; omega)) (by rw [List.size_toArray, hd.out]; exact hm) (by simpa using hone.out) (hK _ h1 h2)
theorem Gmw.callG {XM XS XB p ps pb : Nat} {C C' : List Value} {M M' : Mw} {fp : List Nat} {w w' : World} {P : Program} {f : FuncId} {args : Array Value} {v : Ending} (h : Gmw XM XS XB p ps pb w fp C M w')
  (H : ∀ fq, Gm XM XS XB p ps pb C M fq w' → Calls P f args w' fun e w'' => e = v ∧ Gmw XM XS XB p ps pb w' fq C' M' w'') : Calls P f args w' fun e w'' => e = v ∧ Gmw XM XS XB p ps pb w fp C' M' w'' := by
 obtain ⟨fq, h1, h2, h3⟩ := h
 refine (H fq h1).mono fun e w'' hh => ⟨hh.1, ?_⟩
 obtain ⟨fs, k1, k2, k3⟩ := hh.2
 have hs := h2.size
 refine ⟨fs, k1, h2.trans k2 (fun b hb hlt => ?_), fun g hg => ?_⟩
 ·
  rcases h3 b hb with h | h
  ·
   exact h
  ·
   omega
 ·
  rcases k3 g hg with h | h
  ·
   exact h3 g h
  ·
   exact .inr (by omega)
theorem mnew_any (w : World) : Calls Tryz.prog 6 #[] w (NH KP w ma0 (fun p => .pointer (some ⟨p, 0, none⟩))) := by
 have HS := hid (fun W => new_any8 W)
 have HB := hid (fun W => new_any W)
 go_enter Tryz.func6, Tryz.ntmps6
 go_wp2_with (first
  | (go_at_call 26; refine (HS.out _).mono ?_; rintro e w1 ⟨ps, fs, rfl, hk1, hf1, hx1⟩; have HK1 := hid hk1; have HF1 := hid hf1; have HX1 := hid hx1; clear hk1 hf1 hx1)
  | (go_at_call 27; refine (HB.out _).mono ?_; rintro e w2 ⟨pb, fb, rfl, hk2, hf2, hx2⟩; have HK2 := hid hk2; have HF2 := hid hf2; have HX2 := hid hx2; clear hk2 hf2 hx2))
 go_ret
 have hs1 := HX1.out.size
 have hs2 := HX2.out.size
 have hb3 := (Below.refl w2.heap.size w2).alloc (Nat.le_refl _) (.cells #[.int .i64 0, .int .i64 0, .int .u64 0, .pointer (some ⟨ps, 0, none⟩), .pointer (some ⟨pb, 0, none⟩)] 70)
 refine ⟨w2.heap.size, w2.heap.size :: (fs ++ fb), rfl, ⟨ps, pb, fs, fb, rfl, Row.new w2 _ _, (HK1.out.below HX2.out).below hb3, HK2.out.below hb3, fun h => ?_, fun h => ?_, fun b hb hn => ?_⟩, fun b hb => ?_, (HX1.out.trans (HX2.out.mono hs1)).trans (hb3.mono (by omega))⟩
 ·
  have := HK1.out.lt _ h; omega
 ·
  have := HK2.out.lt _ h; omega
 ·
  have := HK1.out.lt _ hb
  have := HF2.out _ hn
  omega
 ·
  rcases List.mem_cons.1 hb with rfl | hb
  ·
   omega
  ·
   rcases List.mem_append.1 hb with hb | hb
   ·
    exact HF1.out _ hb
   ·
    have := HF2.out _ hb; omega
/-! ### questions -/
section
variable {ps pb p : Nat} {S : Ma} {fp : List Nat} {w w' : World}
theorem KPrw (h : Gm KP.1 KP.2.1 KP.2.2 p ps pb (mcs S.m ps pb) S.w fp w) : Row w p 70 (mcs S.m ps pb) := h.row
end
theorem mver_any (p : Nat) (S : Ma) (fp : List Nat) (c s r : Int) (w : World) (h : Hm KP p S fp w) : Calls Tryz.prog 12 #[.pointer (some ⟨p, 0, none⟩), .int .i64 c, .int .i64 s, .int .i64 r] w (VE w (.int .i64 (ver S.w.T c s r))) := by
 obtain ⟨ps, pb, h⟩ := h
 obtain ⟨fs, hs⟩ := h.s
 have HV := hid (ver_any ps fs S.w.T c s r w hs)
 have c1 := (KPrw h).at_ 3 _ rfl
 generalize ver S.w.T c s r = n at *
 clear h hs
 go_enter Tryz.func12, Tryz.ntmps12
 go_wp2_with (go_at_call 37; refine HV.out.mono ?_; rintro e w2 ⟨rfl, hb2⟩)
 go_ret
 exact ⟨rfl, hb2⟩
theorem mnoted_any (p : Nat) (S : Ma) (fp : List Nat) (c : Int) (w : World) (h : Hm KP p S fp w) : Calls Tryz.prog 34 #[.pointer (some ⟨p, 0, none⟩), .int .i64 c] w (VE w (S.told c).val) := by
 obtain ⟨ps, pb, h⟩ := h
 obtain ⟨fs, hs⟩ := h.s
 have HV := hid (fun W (hW : Below w.heap.size w W) => look_any ps fs S.w.T c W (hs.below hW))
 have HB0 : Hid (Below w.heap.size w (w.alloc (.cells an0.cells 33))) := hid ((Below.refl _ _).alloc (Nat.le_refl _) _)
 have HR0 := hid (show Row (w.alloc (.cells an0.cells 33)) w.heap.size 33 an0.cells.toList from Row.new _ _ _)
 have c1 : (w.alloc (.cells #[.int .i64 0, .int .i64 0, .int .i64 0, .int .i64 0, .int .i64 0, .string ⟨#[]⟩] 33)).cell? ⟨p, 3, none⟩ = some (.pointer (some ⟨ps, 0, none⟩)) := ((KPrw h).below HB0.out (KPrw h).lt).at_ 3 _ rfl
 have HZ := hid asize
 have HZ5 := hid ssSize
 unfold Ma.told told An.val An.cells
 generalize look S.w.T c = x at *
 generalize looks S.w.T c = b at *
 obtain ⟨xc, xs, xr, xo, xt⟩ := x
 clear h hs
 go_enter Tryz.func34, Tryz.ntmps34
 go_wp2_with (first
  | (go_at_call 61; refine (HV.out _ HB0.out).mono ?_; rintro e w2 ⟨rfl, hb2⟩; have HB2 := hid (HB0.out.trans (hb2.mono HB0.out.size)); have HR2 := hid (HR0.out.below hb2 HR0.out.lt); clear hb2)
  | (refine wpl_store_st rfl (.tmp 4) (.tmp 26) rfl HZ.out w.heap.size an0.cells.toList [.int .i64 1, .int .i64 xc, .int .i64 xs, .int .i64 xr, .int .i64 xo, .string xt] rfl rfl HR4.out ?_ (hid rfl) (hid rfl) (hid rfl); intro w5 hr5 hg5)
  | (refine wpl_store_st rfl (.tmp 5) (.tmp 14) rfl HZ5.out w2.heap.size ss0.cells [.int .i64 xc, .int .i64 xs, .int .i64 xr, .int .i64 xo, .string xt] rfl rfl (Row.new _ _ _) ?_ (hid rfl) (hid rfl) (hid rfl); intro w4 hr4 hg4; have HB4 := hid (HB2.out.trans (((Below.refl w2.heap.size w2).alloc (Nat.le_refl _) (.cells #[.int .i64 0, .int .i64 0, .int .i64 0, .int .i64 0, .string ⟨#[]⟩] 75)).mono HB2.out.size)); have HR4 := hid ((HR2.out.alloc _).grown hg4 (by have := HR2.out.lt; intro e; have := Option.some.inj e; omega)); have HB5 := hid (HB4.out.trans (below_grown hg4 (by have := HB2.out.size; omega) HB4.out.size)); have d0 := hr4.at_ 0 _ rfl; have d1 := hr4.at_ 1 _ rfl; have d2 := hr4.at_ 2 _ rfl; have d3 := hr4.at_ 3 _ rfl; have d4 := hr4.at_ 4 _ rfl; clear hr4 hg4))
 refine bodyPost_ret (v := .agg #[.int .i64 1, .int .i64 xc, .int .i64 xs, .int .i64 xr, .int .i64 xo, .string xt])
  (results_cell_row rfl _ _ w.heap.size 33 _ (0, 0) _ rfl hr5.arr' Tryz.underlying33 rfl HZ.out) rfl ⟨rfl, HB5.out.trans (below_grown hg5 (Nat.le_refl _) HB5.out.size)⟩
/-- an answer, and a yes or no -/
def ANB (w : World) (x : An) (b : Bool) (e : Ending) (w' : World) : Prop := e = .returned (.tuple #[x.val, .bool b]) ∧ Below w.heap.size w w'
theorem mcac_no (P : Value) (n : Int) (c s r : Int) (w : World) (hn : (n != 2) = true) (HV : Hid (∀ W, Below w.heap.size w W → Calls Tryz.prog 12 #[P, .int .i64 c, .int .i64 s, .int .i64 r] W (VE W (.int .i64 n)))) :
  Calls Tryz.prog 10 #[P, .int .i64 c, .int .i64 s, .int .i64 r] w (ANB w an0 false) := by
 have HB0 : Hid (Below w.heap.size w (w.alloc (.cells an0.cells 33))) := hid ((Below.refl _ _).alloc (Nat.le_refl _) _)
 have HR0 := hid (show Row (w.alloc (.cells an0.cells 33)) w.heap.size 33 an0.cells.toList from Row.new _ _ _)
 have HZ := hid asize
 unfold ANB
 go_enter Tryz.func10, Tryz.ntmps10
 go_wp2_with (first
  | (go_at_call 12; refine (HV.out _ HB0.out).mono ?_; rintro e w2 ⟨rfl, hb2⟩; have HB2 := hid (HB0.out.trans (hb2.mono HB0.out.size)); have HR2 := hid (HR0.out.below hb2 HR0.out.lt); clear hb2)
  | (refine wpl_store_st rfl (.tmp 8) (.tmp 16) rfl HZ.out w.heap.size an0.cells.toList an0.cells.toList rfl rfl HR2.out ?_ (hid rfl) (hid rfl) (hid rfl); intro w5 hr5 hg5))
 refine bodyPost_ret (v := .tuple #[an0.val, .bool false])
  (results_cell1 rfl _ _ w.heap.size 33 an0.cells (0, 0) _ (.bool false) rfl rfl hr5.arr' Tryz.underlying33 rfl HZ.out) rfl ⟨rfl, HB2.out.trans (below_grown hg5 (Nat.le_refl _) HB2.out.size)⟩
theorem mcac_yes (P : Value) (a : An) (c s r : Int) (w : World) (HV : Hid (∀ W, Below w.heap.size w W → Calls Tryz.prog 12 #[P, .int .i64 c, .int .i64 s, .int .i64 r] W (VE W (.int .i64 2))))
  (HN : Hid (∀ W, Below w.heap.size w W → Calls Tryz.prog 34 #[P, .int .i64 c] W (VE W (.agg a.cells)))) :
  Calls Tryz.prog 10 #[P, .int .i64 c, .int .i64 s, .int .i64 r] w (ANB w a true) := by
 have HB0 : Hid (Below w.heap.size w (w.alloc (.cells an0.cells 33))) := hid ((Below.refl _ _).alloc (Nat.le_refl _) _)
 have HR0 := hid (show Row (w.alloc (.cells an0.cells 33)) w.heap.size 33 an0.cells.toList from Row.new _ _ _)
 have HZ := hid asize
 have HA1 := hid a.one
 have HA6 := hid (show a.cells.size = 6 from rfl)
 unfold ANB An.val
 generalize a.cells = A at *
 go_enter Tryz.func10, Tryz.ntmps10
 go_wp2_with (first
  | (go_at_call 12; refine (HV.out _ HB0.out).mono ?_; rintro e w2 ⟨rfl, hb2⟩; have HB2 := hid (HB0.out.trans (hb2.mono HB0.out.size)); have HR2 := hid (HR0.out.below hb2 HR0.out.lt); clear hb2)
  | (go_at_call 34; refine (HN.out _ HB2.out).mono ?_; rintro e w3 ⟨rfl, hb3⟩; have HB3 := hid (HB2.out.trans (hb3.mono HB2.out.size)); have HR3 := hid (HR2.out.below hb3 HR2.out.lt); clear hb3)
  | (refine wpl_store_st9 rfl (.tmp 8) (.tmp 19) rfl HZ.out w.heap.size an0.cells A rfl rfl HR3.out ?_ (hid rfl) (hid HA6.out) (hid HA1.out); intro w5 hr5 hg5))
 refine bodyPost_ret (v := .tuple #[.agg A, .bool true])
  (results_cell1 rfl _ _ w.heap.size 33 A (0, 0) _ (.bool true) rfl rfl hr5.arr Tryz.underlying33 rfl (by rw [HA6.out]; exact HZ.out)) rfl ⟨rfl, HB3.out.trans (below_grown hg5 (Nat.le_refl _) HB3.out.size)⟩
theorem mcac_any (p : Nat) (S : Ma) (fp : List Nat) (c s r : Int) (w : World) (h : Hm KP p S fp w) : Calls Tryz.prog 10 #[.pointer (some ⟨p, 0, none⟩), .int .i64 c, .int .i64 s, .int .i64 r] w (ANB w (S.cac c s r) (S.cacB c s r)) := by
 unfold Ma.cac Ma.cacB
 by_cases h2 : ver S.w.T c s r = 2
 ·
  rw [if_pos h2, decide_eq_true h2]
  exact mcac_yes _ (S.told c) c s r w (hid fun W hW => h2 ▸ mver_any p S fp c s r W (h.below hW)) (hid fun W hW => mnoted_any p S fp c W (h.below hW))
 ·
  rw [if_neg h2, decide_eq_false h2]
  exact mcac_no _ (ver S.w.T c s r) c s r w (by simpa using h2) (hid fun W hW => mver_any p S fp c s r W (h.below hW))
theorem mmark_any (p : Nat) (S : Ma) (fp : List Nat) (w : World) (h : Hm KP p S fp w) : Calls Tryz.prog 14 #[.pointer (some ⟨p, 0, none⟩)] w (VE w S.m.val) := by
 obtain ⟨ps, pb, h⟩ := h
 have HR0 := hid (show Row (w.alloc (.cells mk0.cells 41)) w.heap.size 41 mk0.cells.toList from Row.new _ _ _)
 have HZ := hid msize
 have HR := hid ((KPrw h).alloc (.cells mk0.cells 41))
 unfold Mk.val Mk.cells
 unfold mcs at HR
 obtain ⟨⟨mo, mv, ms⟩, M⟩ := S
 simp only at *
 have HG := hid (Row.pre (xs := [.int .i64 mo, .int .i64 mv, .int .u64 (ms : Int)]) (ys := [.pointer (some ⟨ps, 0, none⟩), .pointer (some ⟨pb, 0, none⟩)]) HR.out)
 clear h
 go_enter Tryz.func14, Tryz.ntmps14
 go_wp2_with (first
  | (refine wpList_load_mid rfl 41 (.tmp 8) rfl p 0 rfl [.int .i64 mo, .int .i64 mv, .int .u64 (ms : Int)] _ HG.out Tryz.underlying41 rfl HZ.out ?_)
  | (refine wpl_store_st rfl (.tmp 2) (.tmp 9) rfl HZ.out w.heap.size mk0.cells.toList [.int .i64 mo, .int .i64 mv, .int .u64 (ms : Int)] rfl rfl HR0.out ?_ (hid rfl) (hid rfl) (hid rfl); intro w5 hr5 hg5))
 refine bodyPost_ret (v := .agg #[.int .i64 mo, .int .i64 mv, .int .u64 (ms : Int)])
  (results_cell_row rfl _ _ w.heap.size 41 _ (0, 0) _ rfl hr5.arr' Tryz.underlying41 rfl HZ.out) rfl ⟨rfl, ((Below.refl _ _).alloc (Nat.le_refl _) _).trans (below_grown hg5 (Nat.le_refl _) (by simp))⟩
theorem mses_any (p : Nat) (S : Ma) (fp : List Nat) (w : World) (h : Hm KP p S fp w) : Calls Tryz.prog 16 #[.pointer (some ⟨p, 0, none⟩)] w (LS Ss.cells w S.w.T) := by
 obtain ⟨ps, pb, h⟩ := h
 obtain ⟨fs, hs⟩ := h.s
 have HV := hid (list_any ps fs S.w.T w hs)
 have c1 := (KPrw h).at_ 3 _ rfl
 generalize S.w.T = l at *
 clear h hs
 go_enter Tryz.func16, Tryz.ntmps16
 go_wp2_with (go_at_call 38; refine HV.out.mono ?_; rintro e w2 ⟨A, c, rfl, hc, hr, hb, hn⟩; have HC := hid hc; clear hc)
 go_ret
 exact ⟨A, c, rfl, HC.out, hr, hb, hn⟩
theorem macc_any (p : Nat) (S : Ma) (fp : List Nat) (w : World) (h : Hm KP p S fp w) : Calls Tryz.prog 18 #[.pointer (some ⟨p, 0, none⟩)] w (LS Ac.cells w S.w.B.A) := by
 obtain ⟨ps, pb, h⟩ := h
 obtain ⟨fs, hs⟩ := h.b
 obtain ⟨va, vt, -, hv⟩ := hs
 have HV := hid (alla_any pb va vt S.w.B w hv)
 have c1 := (KPrw h).at_ 4 _ rfl
 generalize S.w.B.A = l at *
 clear h hv
 go_enter Tryz.func18, Tryz.ntmps18
 go_wp2_with (go_at_call 39; refine HV.out.mono ?_; rintro e w2 ⟨A, c, rfl, hc, hr, hb, hn⟩; have HC := hid hc; clear hc)
 go_ret
 exact ⟨A, c, rfl, HC.out, hr, hb, hn⟩
theorem mtra_any (p : Nat) (S : Ma) (fp : List Nat) (w : World) (h : Hm KP p S fp w) : Calls Tryz.prog 20 #[.pointer (some ⟨p, 0, none⟩)] w (LS Tr.cells w S.w.B.T) := by
 obtain ⟨ps, pb, h⟩ := h
 obtain ⟨fs, hs⟩ := h.b
 obtain ⟨va, vt, -, hv⟩ := hs
 have HV := hid (allt_any pb va vt S.w.B w hv)
 have c1 := (KPrw h).at_ 4 _ rfl
 generalize S.w.B.T = l at *
 clear h hv
 go_enter Tryz.func20, Tryz.ntmps20
 go_wp2_with (go_at_call 40; refine HV.out.mono ?_; rintro e w2 ⟨A, c, rfl, hc, hr, hb, hn⟩; have HC := hid hc; clear hc)
 go_ret
 exact ⟨A, c, rfl, HC.out, hr, hb, hn⟩
section
variable {XM XS XB p ps pb g : Nat} {C C' : List Value} {M M' : Mw} {fp : List Nat} {w W w' w'' : World}
/-- a row of the call's own, made ahead of W, is written at the end -/
theorem Gmw.leave (h : Gm XM XS XB p ps pb C M fp w) (hB : Below w.heap.size w W) (h2 : Gmw XM XS XB p ps pb W fp C' M' w') (hg : w'.grownBy w'' (some g)) (hge : w.heap.size ≤ g) (hlt : g < W.heap.size) : Gmw XM XS XB p ps pb w fp C' M' w'' := by
 obtain ⟨fq, k1, k2, k3⟩ := h2
 have hs := hB.size
 have hf : Fr w' w'' [g] := (Fr.refl w' [g]).grown hg (fun k hk => .inl (by cases hk; simp))
 refine ⟨fq, k1.fr hf (fun b hb hn => ?_), ((Fr.mono (Fr.of_below hB) (by simp)).trans k2 (fun b hb _ => hb)).trans hf (fun b hb hl => ?_), fun b hb => ?_⟩
 ·
  rw [List.mem_singleton.1 hn] at hb
  rcases k3 g hb with h1 | h1
  ·
   have := h.lt g h1; omega
  ·
   omega
 ·
  rw [List.mem_singleton.1 hb] at hl; omega
 ·
  rcases k3 b hb with h | h
  ·
   exact .inl h
  ·
   exact .inr (by omega)
end

theorem reg_told (view opn under : Int) (parent : Nat) (client session request oper : Int) (body : ByteArray) (p ps pb : Nat) (C : List Value) (M M' : Mw) (fp : List Nat) (w : World) (h : Gm KP.1 KP.2.1 KP.2.2 p ps pb C M fp w) (hc3 : C[3]? = some (.pointer (some ⟨ps, 0, none⟩))) (hc4 : C[4]? = some (.pointer (some ⟨pb, 0, none⟩))) (l er xc xs xr xo : Int) (xt : ByteArray) (hx : (xr == 0) = true)
  (HO : Hid (∀ (W : World) fq, Gm KP.1 KP.2.1 KP.2.2 p ps pb C M fq W → Calls Tryz.prog 53 #[.pointer (some ⟨ps, 0, none⟩), .int .i64 client, .int .i64 opn] W fun e w' => e = .returned (.tuple #[.int .i64 l, .int .i64 er]) ∧ Gmw KP.1 KP.2.1 KP.2.2 p ps pb W fq C M' w'))
  (HN : Hid (∀ (W : World) fq, Gm KP.1 KP.2.1 KP.2.2 p ps pb C M' fq W → Calls Tryz.prog 34 #[.pointer (some ⟨p, 0, none⟩), .int .i64 client] W (VE W (.agg #[.int .i64 1, .int .i64 xc, .int .i64 xs, .int .i64 xr, .int .i64 xo, .string xt])))) :
  Calls Tryz.prog 29 #[.pointer (some ⟨p, 0, none⟩), .agg #[.int .i64 view, .int .i64 opn, .int .i64 under, .int .u64 (parent : Int), .int .i64 client, .int .i64 session, .int .i64 request, .int .i64 oper, .string body]] w fun e w' => e = .returned (.agg #[.int .i64 1, .int .i64 xc, .int .i64 xs, .int .i64 xr, .int .i64 xo, .string xt]) ∧ Gmw KP.1 KP.2.1 KP.2.2 p ps pb w fp C M' w' := by
 have HB0 : Hid (Below w.heap.size w ((w.alloc (.cells #[.int .i64 view, .int .i64 opn, .int .i64 under, .int .u64 (parent : Int), .int .i64 client, .int .i64 session, .int .i64 request, .int .i64 oper, .string body] 31)).alloc (.cells #[.int .i64 0, .int .i64 0, .int .i64 0, .int .i64 0, .int .i64 0, .string ⟨#[]⟩] 33))) := hid (((Below.refl w.heap.size w).alloc (Nat.le_refl _) _).alloc (by simp) _)
 have HE : Hid (Row ((w.alloc (.cells #[.int .i64 view, .int .i64 opn, .int .i64 under, .int .u64 (parent : Int), .int .i64 client, .int .i64 session, .int .i64 request, .int .i64 oper, .string body] 31)).alloc (.cells #[.int .i64 0, .int .i64 0, .int .i64 0, .int .i64 0, .int .i64 0, .string ⟨#[]⟩] 33)) w.heap.size 31 (#[.int .i64 view, .int .i64 opn, .int .i64 under, .int .u64 (parent : Int), .int .i64 client, .int .i64 session, .int .i64 request, .int .i64 oper, .string body] : Array Value).toList) := hid ((Row.new _ _ _).alloc _)
 have HA : Hid (Row ((w.alloc (.cells #[.int .i64 view, .int .i64 opn, .int .i64 under, .int .u64 (parent : Int), .int .i64 client, .int .i64 session, .int .i64 request, .int .i64 oper, .string body] 31)).alloc (.cells #[.int .i64 0, .int .i64 0, .int .i64 0, .int .i64 0, .int .i64 0, .string ⟨#[]⟩] 33)) (w.heap.size + 1) 33 (#[.int .i64 0, .int .i64 0, .int .i64 0, .int .i64 0, .int .i64 0, .string ⟨#[]⟩] : Array Value).toList) := hid (by
  have := Row.new (w.alloc (.cells #[.int .i64 view, .int .i64 opn, .int .i64 under, .int .u64 (parent : Int), .int .i64 client, .int .i64 session, .int .i64 request, .int .i64 oper, .string body] 31)) 33 #[.int .i64 0, .int .i64 0, .int .i64 0, .int .i64 0, .int .i64 0, .string ⟨#[]⟩]
  simpa using this)
 have HSZ : Hid (((w.alloc (.cells #[.int .i64 view, .int .i64 opn, .int .i64 under, .int .u64 (parent : Int), .int .i64 client, .int .i64 session, .int .i64 request, .int .i64 oper, .string body] 31)).alloc (.cells #[.int .i64 0, .int .i64 0, .int .i64 0, .int .i64 0, .int .i64 0, .string ⟨#[]⟩] 33)).heap.size = w.heap.size + 2) := hid (by simp)
 have HG := hid (h.below HB0.out)
 have HC := hid HG.out.row
 have C3 := hid hc3
 have C4 := hid hc4
 have HZ := hid asize
 have HH := hid h
 have HLT := hid (show w.heap.size ∉ fp from fun q => by have := h.lt _ q; omega)
 have HLT1 := hid (show (w.heap.size + 1) ∉ fp from fun q => by have := h.lt _ q; omega)
 clear h hc3 hc4
 go_enter Tryz.func29, Tryz.ntmps29
 go_wp2_with fail
 try simp only [Act.put]
 refine wp_region_held_drew (S := fun W => Row W p 70 C ∧ Row W w.heap.size 31 (#[.int .i64 view, .int .i64 opn, .int .i64 under, .int .u64 (parent : Int), .int .i64 client, .int .i64 session, .int .i64 request, .int .i64 oper, .string body] : Array Value).toList) (by kernel_rfl) ⟨HC.out, HE.out⟩ (fun hH => ?_)
 refine tk_ (i := 0) (v := .pointer (some ⟨p, 0, none⟩)) rfl (Or.inl ⟨by kernel_rfl, fun w' hw' => by clear hw'; go_simp⟩) hH ?_
 simp only [Act.put]
 refine tk_ (i := 1) (v := .pointer (some ⟨p, 0, none⟩)) rfl (Or.inl ⟨by kernel_rfl, fun w' hw' => by clear hw'; go_simp⟩) hH ?_
 simp only [Act.put]
 refine tk_ (i := 2) (v := .pointer (some ⟨p, 3, none⟩)) rfl (Or.inl ⟨by kernel_rfl, fun w' hw' => by clear hw'; go_simp⟩) hH ?_
 simp only [Act.put]
 refine tk_ (i := 3) (v := .pointer (some ⟨ps, 0, none⟩)) rfl (Or.inl ⟨by kernel_rfl, fun w' hw' => by have h := hw'.1.at_ 3 _ C3.out; clear hw'; go_simp⟩) hH ?_
 simp only [Act.put]
 refine tk_ (i := 4) (v := .pointer (some ⟨w.heap.size, 4, none⟩)) rfl (Or.inl ⟨by kernel_rfl, fun w' hw' => by clear hw'; go_simp⟩) hH ?_
 simp only [Act.put]
 refine tk_ (i := 5) (v := .int .i64 client) rfl (Or.inl ⟨by kernel_rfl, fun w' hw' => by have h := hw'.2.at_ 4 _ rfl; clear hw'; go_simp⟩) hH ?_
 simp only [Act.put]
 refine tk_ (i := 6) (v := .pointer (some ⟨w.heap.size, 1, none⟩)) rfl (Or.inl ⟨by kernel_rfl, fun w' hw' => by clear hw'; go_simp⟩) hH ?_
 simp only [Act.put]
 refine tk_ (i := 7) (v := .int .i64 opn) rfl (Or.inl ⟨by kernel_rfl, fun w' hw' => by have h := hw'.2.at_ 1 _ rfl; clear hw'; go_simp⟩) hH ?_
 simp only [Act.put]
 refine rd1 (i := 8) (by kernel_rfl) rfl (fun K hK => ?_)
 rw [if_pos (by kernel_rfl)]
 go_simp
 go_at_call 53
 refine (HO.out _ _ (HG.out.below (below_drewN (Below.refl _ _) 1))).mono ?_
 rintro e w2 ⟨rfl, hg2⟩
 have HG2 := hid hg2
 have HE2 := hid (hg2.frame.row HE.out.drew HLT.out)
 have HA2 := hid (hg2.frame.row HA.out.drew HLT1.out)
 clear hg2
 go_wp2_with fail
 refine hK.out _ _ (⟨HG2.out.row, HE2.out⟩) (fun hH => ?_)
 clear hK K
 try simp only [Act.put]
 refine wpAnyH_done (by kernel_rfl) ?_ _
 try simp only [Act.put]
 have e4 := HE2.out.at_ 4 _ rfl
 go_wp2_with (first
  | (go_at_call 34; obtain ⟨fq, hq, -⟩ := HG2.out; refine (HN.out _ fq hq).mono ?_; rintro e w3 ⟨rfl, hb3⟩; have HG3 := hid (HG2.out.below hb3); have HA3 := hid (HA2.out.below hb3 HA2.out.lt); clear hb3 hq)
  | (refine wpl_store_st rfl (.tmp 5) (.tmp 18) rfl HZ.out w3.heap.size an0.cells.toList (#[.int .i64 1, .int .i64 xc, .int .i64 xs, .int .i64 xr, .int .i64 xo, .string xt] : Array Value).toList rfl rfl (Row.new _ _ _) ?_ (hid rfl) (hid rfl) (hid rfl); intro w4 hr4 hg4; have HA4 := hid ((HA3.out.alloc (.cells an0.cells 33)).grown hg4 (by have := HA3.out.lt; intro e; have := Option.some.inj e; omega)); have HG4 := hid (HG3.out.below (((Below.refl w3.heap.size w3).alloc (Nat.le_refl _) (.cells an0.cells 33)).trans (below_grown hg4 (Nat.le_refl _) (by simp)))); have d3 := hr4.at_ 3 _ rfl; have HR4 := hid hr4; clear hr4 hg4)
  | (refine wpList_load_row rfl 33 (.tmp 5) rfl w3.heap.size rfl 33 #[.int .i64 1, .int .i64 xc, .int .i64 xs, .int .i64 xr, .int .i64 xo, .string xt] (0, 0) _ HR4.out.arr Tryz.underlying33 rfl HZ.out ?_)
  | (refine wpl_store_st rfl (.tmp 4) (.tmp 22) rfl HZ.out (w.heap.size + 1) an0.cells.toList (#[.int .i64 1, .int .i64 xc, .int .i64 xs, .int .i64 xr, .int .i64 xo, .string xt] : Array Value).toList rfl rfl HA4.out ?_ (hid rfl) (hid rfl) (hid rfl); intro w5 hr5 hg5))
 refine bodyPost_ret (v := .agg #[.int .i64 1, .int .i64 xc, .int .i64 xs, .int .i64 xr, .int .i64 xo, .string xt])
  (results_cell_row rfl _ _ (w.heap.size + 1) 33 _ (0, 0) _ rfl hr5.arr' Tryz.underlying33 rfl HZ.out) rfl ⟨rfl, Gmw.leave HH.out (below_drewN HB0.out 1) HG4.out hg5 (by omega) (by have := HSZ.out; show _ < (World.drewN _ _).heap.size; simp)⟩
theorem reg_none (view opn under : Int) (parent : Nat) (client session request oper : Int) (body : ByteArray) (p ps pb : Nat) (C : List Value) (M M' : Mw) (fp : List Nat) (w : World) (h : Gm KP.1 KP.2.1 KP.2.2 p ps pb C M fp w) (hc3 : C[3]? = some (.pointer (some ⟨ps, 0, none⟩))) (hc4 : C[4]? = some (.pointer (some ⟨pb, 0, none⟩))) (l er xc xs xr xo : Int) (xt : ByteArray) (hx : (xr == 0) = false)
  (HO : Hid (∀ (W : World) fq, Gm KP.1 KP.2.1 KP.2.2 p ps pb C M fq W → Calls Tryz.prog 53 #[.pointer (some ⟨ps, 0, none⟩), .int .i64 client, .int .i64 opn] W fun e w' => e = .returned (.tuple #[.int .i64 l, .int .i64 er]) ∧ Gmw KP.1 KP.2.1 KP.2.2 p ps pb W fq C M' w'))
  (HN : Hid (∀ (W : World) fq, Gm KP.1 KP.2.1 KP.2.2 p ps pb C M' fq W → Calls Tryz.prog 34 #[.pointer (some ⟨p, 0, none⟩), .int .i64 client] W (VE W (.agg #[.int .i64 1, .int .i64 xc, .int .i64 xs, .int .i64 xr, .int .i64 xo, .string xt])))) :
  Calls Tryz.prog 29 #[.pointer (some ⟨p, 0, none⟩), .agg #[.int .i64 view, .int .i64 opn, .int .i64 under, .int .u64 (parent : Int), .int .i64 client, .int .i64 session, .int .i64 request, .int .i64 oper, .string body]] w fun e w' => e = .returned (.agg #[.int .i64 0, .int .i64 0, .int .i64 0, .int .i64 0, .int .i64 0, .string ⟨#[]⟩]) ∧ Gmw KP.1 KP.2.1 KP.2.2 p ps pb w fp C M' w' := by
 have HB0 : Hid (Below w.heap.size w ((w.alloc (.cells #[.int .i64 view, .int .i64 opn, .int .i64 under, .int .u64 (parent : Int), .int .i64 client, .int .i64 session, .int .i64 request, .int .i64 oper, .string body] 31)).alloc (.cells #[.int .i64 0, .int .i64 0, .int .i64 0, .int .i64 0, .int .i64 0, .string ⟨#[]⟩] 33))) := hid (((Below.refl w.heap.size w).alloc (Nat.le_refl _) _).alloc (by simp) _)
 have HE : Hid (Row ((w.alloc (.cells #[.int .i64 view, .int .i64 opn, .int .i64 under, .int .u64 (parent : Int), .int .i64 client, .int .i64 session, .int .i64 request, .int .i64 oper, .string body] 31)).alloc (.cells #[.int .i64 0, .int .i64 0, .int .i64 0, .int .i64 0, .int .i64 0, .string ⟨#[]⟩] 33)) w.heap.size 31 (#[.int .i64 view, .int .i64 opn, .int .i64 under, .int .u64 (parent : Int), .int .i64 client, .int .i64 session, .int .i64 request, .int .i64 oper, .string body] : Array Value).toList) := hid ((Row.new _ _ _).alloc _)
 have HA : Hid (Row ((w.alloc (.cells #[.int .i64 view, .int .i64 opn, .int .i64 under, .int .u64 (parent : Int), .int .i64 client, .int .i64 session, .int .i64 request, .int .i64 oper, .string body] 31)).alloc (.cells #[.int .i64 0, .int .i64 0, .int .i64 0, .int .i64 0, .int .i64 0, .string ⟨#[]⟩] 33)) (w.heap.size + 1) 33 (#[.int .i64 0, .int .i64 0, .int .i64 0, .int .i64 0, .int .i64 0, .string ⟨#[]⟩] : Array Value).toList) := hid (by
  have := Row.new (w.alloc (.cells #[.int .i64 view, .int .i64 opn, .int .i64 under, .int .u64 (parent : Int), .int .i64 client, .int .i64 session, .int .i64 request, .int .i64 oper, .string body] 31)) 33 #[.int .i64 0, .int .i64 0, .int .i64 0, .int .i64 0, .int .i64 0, .string ⟨#[]⟩]
  simpa using this)
 have HSZ : Hid (((w.alloc (.cells #[.int .i64 view, .int .i64 opn, .int .i64 under, .int .u64 (parent : Int), .int .i64 client, .int .i64 session, .int .i64 request, .int .i64 oper, .string body] 31)).alloc (.cells #[.int .i64 0, .int .i64 0, .int .i64 0, .int .i64 0, .int .i64 0, .string ⟨#[]⟩] 33)).heap.size = w.heap.size + 2) := hid (by simp)
 have HG := hid (h.below HB0.out)
 have HC := hid HG.out.row
 have C3 := hid hc3
 have C4 := hid hc4
 have HZ := hid asize
 have HH := hid h
 have HLT := hid (show w.heap.size ∉ fp from fun q => by have := h.lt _ q; omega)
 have HLT1 := hid (show (w.heap.size + 1) ∉ fp from fun q => by have := h.lt _ q; omega)
 clear h hc3 hc4
 go_enter Tryz.func29, Tryz.ntmps29
 go_wp2_with fail
 try simp only [Act.put]
 refine wp_region_held_drew (S := fun W => Row W p 70 C ∧ Row W w.heap.size 31 (#[.int .i64 view, .int .i64 opn, .int .i64 under, .int .u64 (parent : Int), .int .i64 client, .int .i64 session, .int .i64 request, .int .i64 oper, .string body] : Array Value).toList) (by kernel_rfl) ⟨HC.out, HE.out⟩ (fun hH => ?_)
 refine tk_ (i := 0) (v := .pointer (some ⟨p, 0, none⟩)) rfl (Or.inl ⟨by kernel_rfl, fun w' hw' => by clear hw'; go_simp⟩) hH ?_
 simp only [Act.put]
 refine tk_ (i := 1) (v := .pointer (some ⟨p, 0, none⟩)) rfl (Or.inl ⟨by kernel_rfl, fun w' hw' => by clear hw'; go_simp⟩) hH ?_
 simp only [Act.put]
 refine tk_ (i := 2) (v := .pointer (some ⟨p, 3, none⟩)) rfl (Or.inl ⟨by kernel_rfl, fun w' hw' => by clear hw'; go_simp⟩) hH ?_
 simp only [Act.put]
 refine tk_ (i := 3) (v := .pointer (some ⟨ps, 0, none⟩)) rfl (Or.inl ⟨by kernel_rfl, fun w' hw' => by have h := hw'.1.at_ 3 _ C3.out; clear hw'; go_simp⟩) hH ?_
 simp only [Act.put]
 refine tk_ (i := 4) (v := .pointer (some ⟨w.heap.size, 4, none⟩)) rfl (Or.inl ⟨by kernel_rfl, fun w' hw' => by clear hw'; go_simp⟩) hH ?_
 simp only [Act.put]
 refine tk_ (i := 5) (v := .int .i64 client) rfl (Or.inl ⟨by kernel_rfl, fun w' hw' => by have h := hw'.2.at_ 4 _ rfl; clear hw'; go_simp⟩) hH ?_
 simp only [Act.put]
 refine tk_ (i := 6) (v := .pointer (some ⟨w.heap.size, 1, none⟩)) rfl (Or.inl ⟨by kernel_rfl, fun w' hw' => by clear hw'; go_simp⟩) hH ?_
 simp only [Act.put]
 refine tk_ (i := 7) (v := .int .i64 opn) rfl (Or.inl ⟨by kernel_rfl, fun w' hw' => by have h := hw'.2.at_ 1 _ rfl; clear hw'; go_simp⟩) hH ?_
 simp only [Act.put]
 refine rd1 (i := 8) (by kernel_rfl) rfl (fun K hK => ?_)
 rw [if_pos (by kernel_rfl)]
 go_simp
 go_at_call 53
 refine (HO.out _ _ (HG.out.below (below_drewN (Below.refl _ _) 1))).mono ?_
 rintro e w2 ⟨rfl, hg2⟩
 have HG2 := hid hg2
 have HE2 := hid (hg2.frame.row HE.out.drew HLT.out)
 have HA2 := hid (hg2.frame.row HA.out.drew HLT1.out)
 clear hg2
 go_wp2_with fail
 refine hK.out _ _ (⟨HG2.out.row, HE2.out⟩) (fun hH => ?_)
 clear hK K
 try simp only [Act.put]
 refine wpAnyH_done (by kernel_rfl) ?_ _
 try simp only [Act.put]
 have e4 := HE2.out.at_ 4 _ rfl
 go_wp2_with (first
  | (go_at_call 34; obtain ⟨fq, hq, -⟩ := HG2.out; refine (HN.out _ fq hq).mono ?_; rintro e w3 ⟨rfl, hb3⟩; have HG3 := hid (HG2.out.below hb3); have HA3 := hid (HA2.out.below hb3 HA2.out.lt); clear hb3 hq)
  | (refine wpl_store_st rfl (.tmp 5) (.tmp 18) rfl HZ.out w3.heap.size an0.cells.toList (#[.int .i64 1, .int .i64 xc, .int .i64 xs, .int .i64 xr, .int .i64 xo, .string xt] : Array Value).toList rfl rfl (Row.new _ _ _) ?_ (hid rfl) (hid rfl) (hid rfl); intro w4 hr4 hg4; have HA4 := hid ((HA3.out.alloc (.cells an0.cells 33)).grown hg4 (by have := HA3.out.lt; intro e; have := Option.some.inj e; omega)); have HG4 := hid (HG3.out.below (((Below.refl w3.heap.size w3).alloc (Nat.le_refl _) (.cells an0.cells 33)).trans (below_grown hg4 (Nat.le_refl _) (by simp)))); have d3 := hr4.at_ 3 _ rfl; have HR4 := hid hr4; clear hr4 hg4)
  | (refine wpList_load_row rfl 33 (.tmp 5) rfl w3.heap.size rfl 33 #[.int .i64 1, .int .i64 xc, .int .i64 xs, .int .i64 xr, .int .i64 xo, .string xt] (0, 0) _ HR4.out.arr Tryz.underlying33 rfl HZ.out ?_)
  | (refine wpl_store_st rfl (.tmp 4) (.tmp 23) rfl HZ.out (w.heap.size + 1) an0.cells.toList (#[.int .i64 0, .int .i64 0, .int .i64 0, .int .i64 0, .int .i64 0, .string ⟨#[]⟩] : Array Value).toList rfl rfl HA4.out ?_ (hid rfl) (hid rfl) (hid rfl); intro w5 hr5 hg5))
 refine bodyPost_ret (v := .agg #[.int .i64 0, .int .i64 0, .int .i64 0, .int .i64 0, .int .i64 0, .string ⟨#[]⟩])
  (results_cell_row rfl _ _ (w.heap.size + 1) 33 _ (0, 0) _ rfl hr5.arr' Tryz.underlying33 rfl HZ.out) rfl ⟨rfl, Gmw.leave HH.out (below_drewN HB0.out 1) HG4.out hg5 (by omega) (by have := HSZ.out; show _ < (World.drewN _ _).heap.size; simp)⟩
def Mk.cl (m : Mk) : List Value := m.cells.toList
theorem En.cl_ones (e : En) : ∀ u ∈ e.cl, u.oneCell' = true := by
 intro u hu
 simp only [En.cl, En.cells, List.mem_cons, List.not_mem_nil, or_false] at hu
 rcases hu with rfl | rfl | rfl | rfl | rfl | rfl | rfl | rfl | rfl <;> rfl
theorem En.cl_all (e : En) : e.cl.all (·.oneCell') = true := by rw [List.all_eq_true]; exact e.cl_ones
/-- one more behind the mark -/
def putF (s : Mk × List En) (x : En) : Mk × List En := if Rt (nextS s.1 x) then (markE (nextS s.1 x), s.2 ++ [nextS s.1 x]) else (s.1, s.2 ++ [x])
/-- behind the first k -/
def pst (l : List En) (k : Nat) : Mk × List En := (l.take k).foldl putF (mk0, [])
/-- what Put answers -/
def put (l : List En) : List En := (pst l 60).2
theorem pst_zero (l : List En) : pst l 0 = (mk0, []) := rfl
theorem pst_succ (l : List En) (k : Nat) (h : k < l.length) : pst l (k + 1) = putF (pst l k) l[k] := by
 unfold pst
 rw [List.take_succ_eq_append_getElem h, List.foldl_append]
 rfl
theorem pst_end (l : List En) (k : Nat) (h : l.length ≤ k) : pst l k = pst l l.length := by
 unfold pst
 rw [List.take_of_length_le h, List.take_length]
/-- an entry of the machine's, its body too -/
def En.good (e : En) : Prop := e.fits ∧ e.body.size ≤ 140737488355328
theorem nextS_good {m : Mk} {e : En} (hm : m.ok) (he : e.good) : (nextS m e).good := by
 obtain ⟨⟨⟨a1, a2, a3, a4⟩, b, c⟩, d⟩ := he
 obtain ⟨h1, h2, h3⟩ := hm
 refine ⟨⟨⟨a1, ?_, ?_, a4⟩, b, h3⟩, d⟩
 ·
  show In64 (if 0 ≤ m.opn ∧ m.opn ≤ 72057594037927934 then m.opn + 1 else e.opn)
  split
  ·
   exact ⟨by omega, by omega⟩
  ·
   exact a2
 ·
  exact ⟨by show (-9223372036854775808 : Int) ≤ m.view; omega, by show m.view ≤ 9223372036854775807; omega⟩
theorem markE_ok {e : En} (he : e.fits) (h : Rt e) : (markE e).ok := by
 obtain ⟨h1, h2, h3⟩ := markE_rt he h
 obtain ⟨⟨r1, r2⟩, _, ⟨r3, r4⟩, _⟩ := id h
 exact ⟨by omega, by omega, h3⟩
theorem pst_good (l : List En) (hl : ∀ e ∈ l, e.good) : ∀ k, k ≤ l.length → k ≤ 60 → (pst l k).1.ok ∧ (∀ e ∈ (pst l k).2, e.good) ∧ (pst l k).2.length = k ∧ (pst l k).1.opn ≤ k
 | 0, _, _ => ⟨mk0_ok, by simp [pst_zero], by simp [pst_zero], by rw [pst_zero]; show (0 : Int) ≤ 0; omega⟩
 | k + 1, h, hk => by
  obtain ⟨h1, h2, h3, h4⟩ := pst_good l hl k (by omega) (by omega)
  rw [pst_succ l k h]
  have hg := nextS_good h1 (hl _ (List.getElem_mem h))
  unfold putF
  by_cases hr : Rt (nextS (pst l k).1 l[k])
  ·
   rw [if_pos hr]
   refine ⟨markE_ok hg.1 hr, fun e he => ?_, by simp [h3], ?_⟩
   ·
    rcases List.mem_append.1 he with he | he
    ·
     exact h2 e he
    ·
     rw [List.mem_singleton.1 he]; exact hg
   ·
    show (markE (nextS (pst l k).1 l[k])).opn ≤ _
    rw [(markE_rt hg.1 hr).1]
    have h1o := h1.o
    show (if 0 ≤ (pst l k).1.opn ∧ (pst l k).1.opn ≤ 72057594037927934 then (pst l k).1.opn + 1 else l[k].opn) ≤ _
    rw [if_pos ⟨h1o.1, by omega⟩]
    omega
  ·
   rw [if_neg hr]
   refine ⟨h1, fun e he => ?_, by simp [h3], by simp; omega⟩
   rcases List.mem_append.1 he with he | he
   ·
    exact h2 e he
   ·
    rw [List.mem_singleton.1 he]; exact hl _ (List.getElem_mem h)
end Go.Proofs.YtgednnjmcjhfmaaGreatDoor
