/-
  The walk of the document's Machine.Does.
-/
import Derived.Test.YtgednnjmcjhfmaaGreatDoorM31
import Derived.Test.YtgednnjmcjhfmaaGreatDoorM02
import Derived.Test.YtgednnjmcjhfmaaGreatDoorM26
import Derived.Test.YtgednnjmcjhfmaaGreatDoorM28
import Derived.Test.YtgednnjmcjhfmaaGreatDoorM24
import Derived.Deep.CutRange
import Derived.Deep.DeepCutAuto
import Derived.BigQuiet
import Derived.Deep.RegionHeld
namespace Go.Proofs.YtgednnjmcjhfmaaGreatDoor
open Go.RowKit
set_option maxRecDepth 10000
set_option maxHeartbeats 80000000
theorem Gmw.look {XM XS XB p ps pb : Nat} {C : List Value} {M : Mw} {fp : List Nat} {w w' : World} {P : Program} {f : FuncId} {args : Array Value} {Q : World → Ending → World → Prop} (h : Gmw XM XS XB p ps pb w fp C M w') (H : ∀ (W : World) fq, Gm XM XS XB p ps pb C M fq W → Calls P f args W (Q W)) : Calls P f args w' (Q w') := by
 obtain ⟨fq, hq, -⟩ := h
 exact H _ fq hq
theorem rdoes_open (p ps pb : Nat) (view opn under : Int) (parent : Nat) (client session request oper : Int) (body : ByteArray) (mo mv : Int) (ms : Nat) (o2 v2 : Int) (s2 : Nat) (xc xs xr xo : Int) (xt : ByteArray) (lb : Bool) (M M1 : Mw) (l er : Int) (fp : List Nat) (w : World) (h : Gm KR.1 KR.2.1 KR.2.2 p ps pb [.int .i64 mo, .int .i64 mv, .int .u64 (ms : Int), .pointer (some ⟨ps, 0, none⟩), .pointer (some ⟨pb, 0, none⟩)] M fp w)
  (HMK : Hid (∀ W, Calls Tryz.prog 57 #[.agg #[.int .i64 view, .int .i64 opn, .int .i64 under, .int .u64 (parent : Int), .int .i64 client, .int .i64 session, .int .i64 request, .int .i64 oper, .string body]] W (VE W (.agg ([.int .i64 o2, .int .i64 v2, .int .u64 (s2 : Int)] : List Value).toArray))))
  (HL : Hid (∀ (W : World) fq, Gm KR.1 KR.2.1 KR.2.2 p ps pb [.int .i64 o2, .int .i64 v2, .int .u64 (s2 : Int), .pointer (some ⟨ps, 0, none⟩), .pointer (some ⟨pb, 0, none⟩)] M fq W → Calls Tryz.prog 35 #[.pointer (some ⟨ps, 0, none⟩), .int .i64 client] W (VE W (.tuple #[.agg ([.int .i64 xc, .int .i64 xs, .int .i64 xr, .int .i64 xo, .string xt] : List Value).toArray, .bool lb]))))
  (hop : Hid (oper = 1)) (hlb : Hid (lb = false)) (HO : Hid (∀ (W : World) fq, Gm KR.1 KR.2.1 KR.2.2 p ps pb [.int .i64 o2, .int .i64 v2, .int .u64 (s2 : Int), .pointer (some ⟨ps, 0, none⟩), .pointer (some ⟨pb, 0, none⟩)] M fq W → Calls Tryz.prog 58 #[.pointer (some ⟨ps, 0, none⟩), .int .i64 client, .int .i64 opn] W fun e w' => e = .returned (.tuple #[.int .i64 l, .int .i64 er]) ∧ Gmw KR.1 KR.2.1 KR.2.2 p ps pb W fq [.int .i64 o2, .int .i64 v2, .int .u64 (s2 : Int), .pointer (some ⟨ps, 0, none⟩), .pointer (some ⟨pb, 0, none⟩)] M1 w')) :
  Calls Tryz.prog 33 #[.pointer (some ⟨p, 0, none⟩), .agg #[.int .i64 view, .int .i64 opn, .int .i64 under, .int .u64 (parent : Int), .int .i64 client, .int .i64 session, .int .i64 request, .int .i64 oper, .string body]] w fun e w' => e = .returned (.agg #[.int .i64 1, .int .i64 client, .int .i64 opn, .int .i64 0, .int .i64 opn, .string ⟨#[]⟩]) ∧ Gmw KR.1 KR.2.1 KR.2.2 p ps pb w fp [.int .i64 o2, .int .i64 v2, .int .u64 (s2 : Int), .pointer (some ⟨ps, 0, none⟩), .pointer (some ⟨pb, 0, none⟩)] M1 w' := by
 have HB0 : Hid (Below w.heap.size w ((w.alloc (.cells #[.int .i64 view, .int .i64 opn, .int .i64 under, .int .u64 (parent : Int), .int .i64 client, .int .i64 session, .int .i64 request, .int .i64 oper, .string body] 31)).alloc (.cells #[.int .i64 0, .int .i64 0, .int .i64 0, .int .i64 0, .int .i64 0, .string ⟨#[]⟩] 33))) := hid (((Below.refl w.heap.size w).alloc (Nat.le_refl _) _).alloc (by simp) _)
 have HE0 : Hid (Row ((w.alloc (.cells #[.int .i64 view, .int .i64 opn, .int .i64 under, .int .u64 (parent : Int), .int .i64 client, .int .i64 session, .int .i64 request, .int .i64 oper, .string body] 31)).alloc (.cells #[.int .i64 0, .int .i64 0, .int .i64 0, .int .i64 0, .int .i64 0, .string ⟨#[]⟩] 33)) w.heap.size 31 (#[.int .i64 view, .int .i64 opn, .int .i64 under, .int .u64 (parent : Int), .int .i64 client, .int .i64 session, .int .i64 request, .int .i64 oper, .string body] : Array Value).toList) := hid ((Row.new _ _ _).alloc _)
 have HA0 : Hid (Row ((w.alloc (.cells #[.int .i64 view, .int .i64 opn, .int .i64 under, .int .u64 (parent : Int), .int .i64 client, .int .i64 session, .int .i64 request, .int .i64 oper, .string body] 31)).alloc (.cells #[.int .i64 0, .int .i64 0, .int .i64 0, .int .i64 0, .int .i64 0, .string ⟨#[]⟩] 33)) (w.heap.size + 1) 33 (#[.int .i64 0, .int .i64 0, .int .i64 0, .int .i64 0, .int .i64 0, .string ⟨#[]⟩] : Array Value).toList) := hid (by
  have := Row.new (w.alloc (.cells #[.int .i64 view, .int .i64 opn, .int .i64 under, .int .u64 (parent : Int), .int .i64 client, .int .i64 session, .int .i64 request, .int .i64 oper, .string body] 31)) 33 #[.int .i64 0, .int .i64 0, .int .i64 0, .int .i64 0, .int .i64 0, .string ⟨#[]⟩]
  simpa using this)
 have HSZ : Hid (((w.alloc (.cells #[.int .i64 view, .int .i64 opn, .int .i64 under, .int .u64 (parent : Int), .int .i64 client, .int .i64 session, .int .i64 request, .int .i64 oper, .string body] 31)).alloc (.cells #[.int .i64 0, .int .i64 0, .int .i64 0, .int .i64 0, .int .i64 0, .string ⟨#[]⟩] 33)).heap.size = w.heap.size + 2) := hid (by simp)
 have HG0 := hid (Gmw.start (h.below HB0.out))
 have HZ := hid asize
 have HZE := hid esize
 have HZ5 := hid ssSize
 have HZM := hid msize
 have HH := hid h
 have HLT := hid (show w.heap.size ∉ fp from fun q => by have := h.lt _ q; omega)
 have HLT1 := hid (show (w.heap.size + 1) ∉ fp from fun q => by have := h.lt _ q; omega)
 clear h
 go_enter Tryz.func33, Tryz.ntmps33
 go_wp2_with (first
  | (refine wpList_load_row rfl 31 (.tmp 3) rfl w.heap.size rfl 31 #[.int .i64 view, .int .i64 opn, .int .i64 under, .int .u64 (parent : Int), .int .i64 client, .int .i64 session, .int .i64 request, .int .i64 oper, .string body] (0, 0) _ HE0.out.arr Tryz.underlying31 rfl HZE.out ?_)
  | (go_at_call 57; refine (HMK.out _).mono ?_; rintro e w1 ⟨rfl, hb⟩; have HGW1 := hid (HG0.out.below hb); clear hb)
  | (refine wpl_store_pre rfl (.tmp 13) (.tmp 11) rfl HZM.out p [.int .i64 mo, .int .i64 mv, .int .u64 (ms : Int)] [.int .i64 o2, .int .i64 v2, .int .u64 (s2 : Int)] [.pointer (some ⟨ps, 0, none⟩), .pointer (some ⟨pb, 0, none⟩)] rfl rfl HGW1.out.row ?_ (hid rfl) (hid rfl) (hid rfl); intro w2 hr2 hg2; have HGW := hid (HGW1.out.turn (C' := [.int .i64 o2, .int .i64 v2, .int .u64 (s2 : Int), .pointer (some ⟨ps, 0, none⟩), .pointer (some ⟨pb, 0, none⟩)]) hr2 hg2); clear hr2 hg2 HGW1))
 have HLK := hid (fun W (hW : Below w2.heap.size w2 W) => (HGW.out.below hW).look HL.out)
 have HRP := hid (fun W (hW : Below w2.heap.size w2 W) => (HGW.out.below hW).row)
 have HRE := hid (fun W (hW : Below w2.heap.size w2 W) => (HGW.out.below hW).frame.row HE0.out HLT.out)
 try simp only [Act.put]
 go_cut [5, 6] (fun v b wx => ∃ bs, ∃ W1 : World, W1 = wx ∧ v = .pointer (some ⟨bs, 0, none⟩) ∧ b = .bool lb ∧ Row W1 bs 75 [.int .i64 xc, .int .i64 xs, .int .i64 xr, .int .i64 xo, .string xt] ∧ Below w2.heap.size w2 W1)
 case first =>
  refine wp_region_held_drew (S := fun W => Below w2.heap.size w2 W) (by kernel_rfl) ((Below.refl _ _).drew) (fun hH => ?_)
  refine tk_ (i := 0) (v := .pointer (some ⟨p, 0, none⟩)) rfl (Or.inl ⟨by kernel_rfl, fun w' hw' => by clear hw'; go_simp⟩) hH ?_
  simp only [Act.put]
  refine tk_ (i := 1) (v := .pointer (some ⟨p, 0, none⟩)) rfl (Or.inl ⟨by kernel_rfl, fun w' hw' => by clear hw'; go_simp⟩) hH ?_
  simp only [Act.put]
  refine tk_ (i := 2) (v := .pointer (some ⟨p, 3, none⟩)) rfl (Or.inl ⟨by kernel_rfl, fun w' hw' => by clear hw'; go_simp⟩) hH ?_
  simp only [Act.put]
  refine tk_ (i := 3) (v := .pointer (some ⟨ps, 0, none⟩)) rfl (Or.inl ⟨by kernel_rfl, fun w' hw' => by have h := (HRP.out _ hw').at_ 3 _ rfl; clear hw'; go_simp⟩) hH ?_
  simp only [Act.put]
  refine tk_ (i := 4) (v := .pointer (some ⟨w.heap.size, 4, none⟩)) rfl (Or.inl ⟨by kernel_rfl, fun w' hw' => by clear hw'; go_simp⟩) hH ?_
  simp only [Act.put]
  refine tk_ (i := 5) (v := .int .i64 client) rfl (Or.inl ⟨by kernel_rfl, fun w' hw' => by have h := (HRE.out _ hw').at_ 4 _ rfl; clear hw'; go_simp⟩) hH ?_
  simp only [Act.put]
  refine wpAnyH_ready (rs := [6, 10]) (by kernel_rfl) (by simp) ?_
  refine AllReadyH.cons rfl (fun K hK => ?_) (AllReadyH.cons rfl (fun K hK => ?_) AllReadyH.nil)
  ·
   rw [if_pos (by kernel_rfl)]
   go_simp
   go_at_call 35
   refine (HLK.out _ hH).mono ?_
   rintro e w3 ⟨rfl, hb⟩
   have hH3 := hH.trans (Below.mono hb hH.size)
   clear hb
   go_wp2_with fail
   refine hK.out _ _ hH3 (fun hH => ?_)
   clear hH3
   clear hK K
   try simp only [Act.put]
   refine tk_ (i := 7) (v := .tuple #[.agg ([.int .i64 xc, .int .i64 xs, .int .i64 xr, .int .i64 xo, .string xt] : List Value).toArray, .bool lb]) rfl (Or.inl ⟨by kernel_rfl, fun w' hw' => by clear hw'; go_simp⟩) hH ?_
   simp only [Act.put]
   refine tk_ (i := 8) (v := .agg ([.int .i64 xc, .int .i64 xs, .int .i64 xr, .int .i64 xo, .string xt] : List Value).toArray) rfl (Or.inl ⟨by kernel_rfl, fun w' hw' => by clear hw'; go_simp⟩) hH ?_
   simp only [Act.put]
   refine tk_ (i := 9) (v := .bool lb) rfl (Or.inl ⟨by kernel_rfl, fun w' hw' => by clear hw'; go_simp⟩) hH ?_
   simp only [Act.put]
   refine rd1 (i := 10) (by kernel_rfl) rfl (fun K hK => ?_)
   rw [if_pos (by kernel_rfl)]
   go_simp
   have HSX := hid (show Row ((w3).alloc (.cells #[.int .i64 0, .int .i64 0, .int .i64 0, .int .i64 0, .string ⟨#[]⟩] 75)) (w3).heap.size 75 ss0.cells from Row.new (w3) 75 #[.int .i64 0, .int .i64 0, .int .i64 0, .int .i64 0, .string ⟨#[]⟩])
   have HLB := hid (show w2.heap.size ≤ (w3).heap.size from hH.size)
   refine hK.out _ _ (hH.alloc hH.size _) (fun hH => ?_)
   clear hK K
   try simp only [Act.put]
   refine rd1 (i := 11) (by kernel_rfl) rfl (fun K hK => ?_)
   rw [if_pos (by kernel_rfl)]
   refine wp_store_stL (.tmp 5) (.tmp 22) rfl HZ5.out _ ss0.cells [.int .i64 xc, .int .i64 xs, .int .i64 xr, .int .i64 xo, .string xt] rfl rfl HSX.out rfl rfl rfl (fun W9 hr9 hg9 => ?_)
   have hb9 := hH.trans (below_grown hg9 HLB.out hH.size)
   refine hK.out _ _ hb9 (fun hH => ?_)
   clear hK K
   try simp only [Act.put]
   refine rd1 (i := 12) (by kernel_rfl) rfl (fun K hK => ?_)
   rw [if_pos (by kernel_rfl)]
   go_simp
   refine hK.out _ _ hH (fun hH => ?_)
   clear hK K
   try simp only [Act.put]
   refine wpAnyH_done (by kernel_rfl) ?_ _
   try simp only [Act.put]
   go_wp2_with fail
   go_meet
   case rel => exact ⟨_, _, rfl, rfl, rfl, hr9, hH⟩
  ·
   rw [if_pos (by kernel_rfl)]
   go_simp
   have HSX := hid (show Row ((w2.drew).alloc (.cells #[.int .i64 0, .int .i64 0, .int .i64 0, .int .i64 0, .string ⟨#[]⟩] 75)) (w2.drew).heap.size 75 ss0.cells from Row.new (w2.drew) 75 #[.int .i64 0, .int .i64 0, .int .i64 0, .int .i64 0, .string ⟨#[]⟩])
   have HLB := hid (show w2.heap.size ≤ (w2.drew).heap.size from hH.size)
   refine hK.out _ _ (hH.alloc hH.size _) (fun hH => ?_)
   clear hK K
   try simp only [Act.put]
   refine rd1 (i := 6) (by kernel_rfl) rfl (fun K hK => ?_)
   rw [if_pos (by kernel_rfl)]
   go_simp
   go_at_call 35
   refine (HLK.out _ hH).mono ?_
   rintro e w3 ⟨rfl, hb⟩
   replace HSX := hid (HSX.out.below hb HSX.out.lt)
   have hH3 := hH.trans (Below.mono hb hH.size)
   clear hb
   go_wp2_with fail
   refine hK.out _ _ hH3 (fun hH => ?_)
   clear hH3
   clear hK K
   try simp only [Act.put]
   refine tk_ (i := 7) (v := .tuple #[.agg ([.int .i64 xc, .int .i64 xs, .int .i64 xr, .int .i64 xo, .string xt] : List Value).toArray, .bool lb]) rfl (Or.inl ⟨by kernel_rfl, fun w' hw' => by clear hw'; go_simp⟩) hH ?_
   simp only [Act.put]
   refine tk_ (i := 8) (v := .agg ([.int .i64 xc, .int .i64 xs, .int .i64 xr, .int .i64 xo, .string xt] : List Value).toArray) rfl (Or.inl ⟨by kernel_rfl, fun w' hw' => by clear hw'; go_simp⟩) hH ?_
   simp only [Act.put]
   refine tk_ (i := 9) (v := .bool lb) rfl (Or.inl ⟨by kernel_rfl, fun w' hw' => by clear hw'; go_simp⟩) hH ?_
   simp only [Act.put]
   refine rd1 (i := 11) (by kernel_rfl) rfl (fun K hK => ?_)
   rw [if_pos (by kernel_rfl)]
   refine wp_store_stL (.tmp 5) (.tmp 22) rfl HZ5.out _ ss0.cells [.int .i64 xc, .int .i64 xs, .int .i64 xr, .int .i64 xo, .string xt] rfl rfl HSX.out rfl rfl rfl (fun W9 hr9 hg9 => ?_)
   have hb9 := hH.trans (below_grown hg9 HLB.out hH.size)
   refine hK.out _ _ hb9 (fun hH => ?_)
   clear hK K
   try simp only [Act.put]
   refine rd1 (i := 12) (by kernel_rfl) rfl (fun K hK => ?_)
   rw [if_pos (by kernel_rfl)]
   go_simp
   refine hK.out _ _ hH (fun hH => ?_)
   clear hK K
   try simp only [Act.put]
   refine wpAnyH_done (by kernel_rfl) ?_ _
   try simp only [Act.put]
   go_wp2_with fail
   go_meet
   case rel => exact ⟨_, _, rfl, rfl, rfl, hr9, hH⟩
 case rest =>
  obtain ⟨bs, W3, rfl, rfl, rfl, hsx, hbx⟩ := hcut
  have HSX := hid hsx
  replace HGW := hid (HGW.out.below hbx)
  clear hsx hbx HLK HRP HRE
  have hop1 : (oper == 1) = true := by simp [hop.out]
  obtain rfl := hlb.out
  have e7 := (HGW.out.frame.row HE0.out HLT.out).at_ 7 _ rfl
  go_wp2_with fail
  try simp only [Act.put]
  refine wp_region_held_drew (S := fun W => Row W p 45 [.int .i64 o2, .int .i64 v2, .int .u64 (s2 : Int), .pointer (some ⟨ps, 0, none⟩), .pointer (some ⟨pb, 0, none⟩)] ∧ Row W w.heap.size 31 (#[.int .i64 view, .int .i64 opn, .int .i64 under, .int .u64 (parent : Int), .int .i64 client, .int .i64 session, .int .i64 request, .int .i64 oper, .string body] : Array Value).toList) (by kernel_rfl) ⟨HGW.out.row.drew, (HGW.out.frame.row HE0.out HLT.out).drew⟩ (fun hH => ?_)
  replace HGW := hid (HGW.out.below (below_drewN (Below.refl _ _) 1))
  refine tk_ (i := 0) (v := .pointer (some ⟨p, 0, none⟩)) rfl (Or.inl ⟨by kernel_rfl, fun w' hw' => by clear hw'; go_simp⟩) hH ?_
  simp only [Act.put]
  refine tk_ (i := 1) (v := .pointer (some ⟨p, 0, none⟩)) rfl (Or.inl ⟨by kernel_rfl, fun w' hw' => by clear hw'; go_simp⟩) hH ?_
  simp only [Act.put]
  refine tk_ (i := 2) (v := .pointer (some ⟨p, 3, none⟩)) rfl (Or.inl ⟨by kernel_rfl, fun w' hw' => by clear hw'; go_simp⟩) hH ?_
  simp only [Act.put]
  refine tk_ (i := 3) (v := .pointer (some ⟨ps, 0, none⟩)) rfl (Or.inl ⟨by kernel_rfl, fun w' hw' => by have h := hw'.1.at_ 3 _ rfl; clear hw'; go_simp⟩) hH ?_
  simp only [Act.put]
  refine tk_ (i := 4) (v := .pointer (some ⟨w.heap.size, 4, none⟩)) rfl (Or.inl ⟨by kernel_rfl, fun w' hw' => by clear hw'; go_simp⟩) hH ?_
  simp only [Act.put]
  refine tk_ (i := 5) (v := .int .i64 client) rfl (Or.inl ⟨by kernel_rfl, fun w' hw' => by have h := hw'.2.at_ 4 _ rfl; clear hw'; go_simp⟩) hH ?_
  simp only [Act.put]
  refine tk_ (i := 6) (v := .pointer (some ⟨w.heap.size, 1, none⟩)) rfl (Or.inl ⟨by kernel_rfl, fun w' hw' => by clear hw'; go_simp⟩) hH ?_
  simp only [Act.put]
  refine tk_ (i := 7) (v := .int .i64 opn) rfl (Or.inl ⟨by kernel_rfl, fun w' hw' => by have h := hw'.2.at_ 1 _ rfl; clear hw'; go_simp⟩) hH ?_
  simp only [Act.put]
  refine rd1 (i := 8) (by kernel_rfl) rfl (fun K hK => ?_)
  rw [if_pos (by kernel_rfl)]
  go_simp
  go_at_call 58
  refine (HGW.out.callG (fun fq hk => HO.out _ fq hk)).mono ?_
  rintro e w6 ⟨rfl, hgw⟩
  replace HGW := hid hgw
  clear hgw
  go_wp2_with fail
  refine hK.out _ _ ⟨HGW.out.row, (HGW.out.frame.row HE0.out HLT.out)⟩ (fun hH => ?_)
  clear hK K
  try simp only [Act.put]
  refine wpAnyH_done (by kernel_rfl) ?_ _
  try simp only [Act.put]
  have e4 := (HGW.out.frame.row HE0.out HLT.out).at_ 4 _ rfl
  have e1 := (HGW.out.frame.row HE0.out HLT.out).at_ 1 _ rfl
  go_wp2_with (first
   | (refine wpl_store_st rfl (.tmp 4) (.tmp 44) rfl HZ.out (w.heap.size + 1) an0.cells.toList (#[.int .i64 1, .int .i64 client, .int .i64 opn, .int .i64 0, .int .i64 opn, .string ⟨#[]⟩] : Array Value).toList rfl rfl (HGW.out.frame.row HA0.out HLT1.out) ?_ (hid rfl) (hid rfl) (hid rfl); intro w5 hr5 hg5))
  refine bodyPost_ret (v := .agg #[.int .i64 1, .int .i64 client, .int .i64 opn, .int .i64 0, .int .i64 opn, .string ⟨#[]⟩])
   (results_cell_row rfl _ _ (w.heap.size + 1) 33 _ (0, 0) _ rfl hr5.arr' Tryz.underlying33 rfl HZ.out) rfl ⟨rfl, Gmw.leave HH.out HB0.out HGW.out hg5 (by omega) (by have := HSZ.out; omega)⟩
theorem rdoes_told (p ps pb : Nat) (view opn under : Int) (parent : Nat) (client session request oper : Int) (body : ByteArray) (mo mv : Int) (ms : Nat) (o2 v2 : Int) (s2 : Nat) (xc xs xr xo : Int) (xt : ByteArray) (lb : Bool) (M : Mw) (fp : List Nat) (w : World) (h : Gm KR.1 KR.2.1 KR.2.2 p ps pb [.int .i64 mo, .int .i64 mv, .int .u64 (ms : Int), .pointer (some ⟨ps, 0, none⟩), .pointer (some ⟨pb, 0, none⟩)] M fp w)
  (HMK : Hid (∀ W, Calls Tryz.prog 57 #[.agg #[.int .i64 view, .int .i64 opn, .int .i64 under, .int .u64 (parent : Int), .int .i64 client, .int .i64 session, .int .i64 request, .int .i64 oper, .string body]] W (VE W (.agg ([.int .i64 o2, .int .i64 v2, .int .u64 (s2 : Int)] : List Value).toArray))))
  (HL : Hid (∀ (W : World) fq, Gm KR.1 KR.2.1 KR.2.2 p ps pb [.int .i64 o2, .int .i64 v2, .int .u64 (s2 : Int), .pointer (some ⟨ps, 0, none⟩), .pointer (some ⟨pb, 0, none⟩)] M fq W → Calls Tryz.prog 35 #[.pointer (some ⟨ps, 0, none⟩), .int .i64 client] W (VE W (.tuple #[.agg ([.int .i64 xc, .int .i64 xs, .int .i64 xr, .int .i64 xo, .string xt] : List Value).toArray, .bool lb]))))
  (hop : Hid (oper = 1)) (hlb : Hid (lb = true)) (hx : Hid (xr = 0))
  (HTD : Hid (∀ W, Calls Tryz.prog 36 #[.agg ([.int .i64 xc, .int .i64 xs, .int .i64 xr, .int .i64 xo, .string xt] : List Value).toArray] W (VE W (.agg #[.int .i64 1, .int .i64 xc, .int .i64 xs, .int .i64 xr, .int .i64 xo, .string xt])))) :
  Calls Tryz.prog 33 #[.pointer (some ⟨p, 0, none⟩), .agg #[.int .i64 view, .int .i64 opn, .int .i64 under, .int .u64 (parent : Int), .int .i64 client, .int .i64 session, .int .i64 request, .int .i64 oper, .string body]] w fun e w' => e = .returned (.agg #[.int .i64 1, .int .i64 xc, .int .i64 xs, .int .i64 xr, .int .i64 xo, .string xt]) ∧ Gmw KR.1 KR.2.1 KR.2.2 p ps pb w fp [.int .i64 o2, .int .i64 v2, .int .u64 (s2 : Int), .pointer (some ⟨ps, 0, none⟩), .pointer (some ⟨pb, 0, none⟩)] M w' := by
 have HB0 : Hid (Below w.heap.size w ((w.alloc (.cells #[.int .i64 view, .int .i64 opn, .int .i64 under, .int .u64 (parent : Int), .int .i64 client, .int .i64 session, .int .i64 request, .int .i64 oper, .string body] 31)).alloc (.cells #[.int .i64 0, .int .i64 0, .int .i64 0, .int .i64 0, .int .i64 0, .string ⟨#[]⟩] 33))) := hid (((Below.refl w.heap.size w).alloc (Nat.le_refl _) _).alloc (by simp) _)
 have HE0 : Hid (Row ((w.alloc (.cells #[.int .i64 view, .int .i64 opn, .int .i64 under, .int .u64 (parent : Int), .int .i64 client, .int .i64 session, .int .i64 request, .int .i64 oper, .string body] 31)).alloc (.cells #[.int .i64 0, .int .i64 0, .int .i64 0, .int .i64 0, .int .i64 0, .string ⟨#[]⟩] 33)) w.heap.size 31 (#[.int .i64 view, .int .i64 opn, .int .i64 under, .int .u64 (parent : Int), .int .i64 client, .int .i64 session, .int .i64 request, .int .i64 oper, .string body] : Array Value).toList) := hid ((Row.new _ _ _).alloc _)
 have HA0 : Hid (Row ((w.alloc (.cells #[.int .i64 view, .int .i64 opn, .int .i64 under, .int .u64 (parent : Int), .int .i64 client, .int .i64 session, .int .i64 request, .int .i64 oper, .string body] 31)).alloc (.cells #[.int .i64 0, .int .i64 0, .int .i64 0, .int .i64 0, .int .i64 0, .string ⟨#[]⟩] 33)) (w.heap.size + 1) 33 (#[.int .i64 0, .int .i64 0, .int .i64 0, .int .i64 0, .int .i64 0, .string ⟨#[]⟩] : Array Value).toList) := hid (by
  have := Row.new (w.alloc (.cells #[.int .i64 view, .int .i64 opn, .int .i64 under, .int .u64 (parent : Int), .int .i64 client, .int .i64 session, .int .i64 request, .int .i64 oper, .string body] 31)) 33 #[.int .i64 0, .int .i64 0, .int .i64 0, .int .i64 0, .int .i64 0, .string ⟨#[]⟩]
  simpa using this)
 have HSZ : Hid (((w.alloc (.cells #[.int .i64 view, .int .i64 opn, .int .i64 under, .int .u64 (parent : Int), .int .i64 client, .int .i64 session, .int .i64 request, .int .i64 oper, .string body] 31)).alloc (.cells #[.int .i64 0, .int .i64 0, .int .i64 0, .int .i64 0, .int .i64 0, .string ⟨#[]⟩] 33)).heap.size = w.heap.size + 2) := hid (by simp)
 have HG0 := hid (Gmw.start (h.below HB0.out))
 have HZ := hid asize
 have HZE := hid esize
 have HZ5 := hid ssSize
 have HZM := hid msize
 have HH := hid h
 have HLT := hid (show w.heap.size ∉ fp from fun q => by have := h.lt _ q; omega)
 have HLT1 := hid (show (w.heap.size + 1) ∉ fp from fun q => by have := h.lt _ q; omega)
 clear h
 go_enter Tryz.func33, Tryz.ntmps33
 go_wp2_with (first
  | (refine wpList_load_row rfl 31 (.tmp 3) rfl w.heap.size rfl 31 #[.int .i64 view, .int .i64 opn, .int .i64 under, .int .u64 (parent : Int), .int .i64 client, .int .i64 session, .int .i64 request, .int .i64 oper, .string body] (0, 0) _ HE0.out.arr Tryz.underlying31 rfl HZE.out ?_)
  | (go_at_call 57; refine (HMK.out _).mono ?_; rintro e w1 ⟨rfl, hb⟩; have HGW1 := hid (HG0.out.below hb); clear hb)
  | (refine wpl_store_pre rfl (.tmp 13) (.tmp 11) rfl HZM.out p [.int .i64 mo, .int .i64 mv, .int .u64 (ms : Int)] [.int .i64 o2, .int .i64 v2, .int .u64 (s2 : Int)] [.pointer (some ⟨ps, 0, none⟩), .pointer (some ⟨pb, 0, none⟩)] rfl rfl HGW1.out.row ?_ (hid rfl) (hid rfl) (hid rfl); intro w2 hr2 hg2; have HGW := hid (HGW1.out.turn (C' := [.int .i64 o2, .int .i64 v2, .int .u64 (s2 : Int), .pointer (some ⟨ps, 0, none⟩), .pointer (some ⟨pb, 0, none⟩)]) hr2 hg2); clear hr2 hg2 HGW1))
 have HLK := hid (fun W (hW : Below w2.heap.size w2 W) => (HGW.out.below hW).look HL.out)
 have HRP := hid (fun W (hW : Below w2.heap.size w2 W) => (HGW.out.below hW).row)
 have HRE := hid (fun W (hW : Below w2.heap.size w2 W) => (HGW.out.below hW).frame.row HE0.out HLT.out)
 try simp only [Act.put]
 go_cut [5, 6] (fun v b wx => ∃ bs, ∃ W1 : World, W1 = wx ∧ v = .pointer (some ⟨bs, 0, none⟩) ∧ b = .bool lb ∧ Row W1 bs 75 [.int .i64 xc, .int .i64 xs, .int .i64 xr, .int .i64 xo, .string xt] ∧ Below w2.heap.size w2 W1)
 case first =>
  refine wp_region_held_drew (S := fun W => Below w2.heap.size w2 W) (by kernel_rfl) ((Below.refl _ _).drew) (fun hH => ?_)
  refine tk_ (i := 0) (v := .pointer (some ⟨p, 0, none⟩)) rfl (Or.inl ⟨by kernel_rfl, fun w' hw' => by clear hw'; go_simp⟩) hH ?_
  simp only [Act.put]
  refine tk_ (i := 1) (v := .pointer (some ⟨p, 0, none⟩)) rfl (Or.inl ⟨by kernel_rfl, fun w' hw' => by clear hw'; go_simp⟩) hH ?_
  simp only [Act.put]
  refine tk_ (i := 2) (v := .pointer (some ⟨p, 3, none⟩)) rfl (Or.inl ⟨by kernel_rfl, fun w' hw' => by clear hw'; go_simp⟩) hH ?_
  simp only [Act.put]
  refine tk_ (i := 3) (v := .pointer (some ⟨ps, 0, none⟩)) rfl (Or.inl ⟨by kernel_rfl, fun w' hw' => by have h := (HRP.out _ hw').at_ 3 _ rfl; clear hw'; go_simp⟩) hH ?_
  simp only [Act.put]
  refine tk_ (i := 4) (v := .pointer (some ⟨w.heap.size, 4, none⟩)) rfl (Or.inl ⟨by kernel_rfl, fun w' hw' => by clear hw'; go_simp⟩) hH ?_
  simp only [Act.put]
  refine tk_ (i := 5) (v := .int .i64 client) rfl (Or.inl ⟨by kernel_rfl, fun w' hw' => by have h := (HRE.out _ hw').at_ 4 _ rfl; clear hw'; go_simp⟩) hH ?_
  simp only [Act.put]
  refine wpAnyH_ready (rs := [6, 10]) (by kernel_rfl) (by simp) ?_
  refine AllReadyH.cons rfl (fun K hK => ?_) (AllReadyH.cons rfl (fun K hK => ?_) AllReadyH.nil)
  ·
   rw [if_pos (by kernel_rfl)]
   go_simp
   go_at_call 35
   refine (HLK.out _ hH).mono ?_
   rintro e w3 ⟨rfl, hb⟩
   have hH3 := hH.trans (Below.mono hb hH.size)
   clear hb
   go_wp2_with fail
   refine hK.out _ _ hH3 (fun hH => ?_)
   clear hH3
   clear hK K
   try simp only [Act.put]
   refine tk_ (i := 7) (v := .tuple #[.agg ([.int .i64 xc, .int .i64 xs, .int .i64 xr, .int .i64 xo, .string xt] : List Value).toArray, .bool lb]) rfl (Or.inl ⟨by kernel_rfl, fun w' hw' => by clear hw'; go_simp⟩) hH ?_
   simp only [Act.put]
   refine tk_ (i := 8) (v := .agg ([.int .i64 xc, .int .i64 xs, .int .i64 xr, .int .i64 xo, .string xt] : List Value).toArray) rfl (Or.inl ⟨by kernel_rfl, fun w' hw' => by clear hw'; go_simp⟩) hH ?_
   simp only [Act.put]
   refine tk_ (i := 9) (v := .bool lb) rfl (Or.inl ⟨by kernel_rfl, fun w' hw' => by clear hw'; go_simp⟩) hH ?_
   simp only [Act.put]
   refine rd1 (i := 10) (by kernel_rfl) rfl (fun K hK => ?_)
   rw [if_pos (by kernel_rfl)]
   go_simp
   have HSX := hid (show Row ((w3).alloc (.cells #[.int .i64 0, .int .i64 0, .int .i64 0, .int .i64 0, .string ⟨#[]⟩] 75)) (w3).heap.size 75 ss0.cells from Row.new (w3) 75 #[.int .i64 0, .int .i64 0, .int .i64 0, .int .i64 0, .string ⟨#[]⟩])
   have HLB := hid (show w2.heap.size ≤ (w3).heap.size from hH.size)
   refine hK.out _ _ (hH.alloc hH.size _) (fun hH => ?_)
   clear hK K
   try simp only [Act.put]
   refine rd1 (i := 11) (by kernel_rfl) rfl (fun K hK => ?_)
   rw [if_pos (by kernel_rfl)]
   refine wp_store_stL (.tmp 5) (.tmp 22) rfl HZ5.out _ ss0.cells [.int .i64 xc, .int .i64 xs, .int .i64 xr, .int .i64 xo, .string xt] rfl rfl HSX.out rfl rfl rfl (fun W9 hr9 hg9 => ?_)
   have hb9 := hH.trans (below_grown hg9 HLB.out hH.size)
   refine hK.out _ _ hb9 (fun hH => ?_)
   clear hK K
   try simp only [Act.put]
   refine rd1 (i := 12) (by kernel_rfl) rfl (fun K hK => ?_)
   rw [if_pos (by kernel_rfl)]
   go_simp
   refine hK.out _ _ hH (fun hH => ?_)
   clear hK K
   try simp only [Act.put]
   refine wpAnyH_done (by kernel_rfl) ?_ _
   try simp only [Act.put]
   go_wp2_with fail
   go_meet
   case rel => exact ⟨_, _, rfl, rfl, rfl, hr9, hH⟩
  ·
   rw [if_pos (by kernel_rfl)]
   go_simp
   have HSX := hid (show Row ((w2.drew).alloc (.cells #[.int .i64 0, .int .i64 0, .int .i64 0, .int .i64 0, .string ⟨#[]⟩] 75)) (w2.drew).heap.size 75 ss0.cells from Row.new (w2.drew) 75 #[.int .i64 0, .int .i64 0, .int .i64 0, .int .i64 0, .string ⟨#[]⟩])
   have HLB := hid (show w2.heap.size ≤ (w2.drew).heap.size from hH.size)
   refine hK.out _ _ (hH.alloc hH.size _) (fun hH => ?_)
   clear hK K
   try simp only [Act.put]
   refine rd1 (i := 6) (by kernel_rfl) rfl (fun K hK => ?_)
   rw [if_pos (by kernel_rfl)]
   go_simp
   go_at_call 35
   refine (HLK.out _ hH).mono ?_
   rintro e w3 ⟨rfl, hb⟩
   replace HSX := hid (HSX.out.below hb HSX.out.lt)
   have hH3 := hH.trans (Below.mono hb hH.size)
   clear hb
   go_wp2_with fail
   refine hK.out _ _ hH3 (fun hH => ?_)
   clear hH3
   clear hK K
   try simp only [Act.put]
   refine tk_ (i := 7) (v := .tuple #[.agg ([.int .i64 xc, .int .i64 xs, .int .i64 xr, .int .i64 xo, .string xt] : List Value).toArray, .bool lb]) rfl (Or.inl ⟨by kernel_rfl, fun w' hw' => by clear hw'; go_simp⟩) hH ?_
   simp only [Act.put]
   refine tk_ (i := 8) (v := .agg ([.int .i64 xc, .int .i64 xs, .int .i64 xr, .int .i64 xo, .string xt] : List Value).toArray) rfl (Or.inl ⟨by kernel_rfl, fun w' hw' => by clear hw'; go_simp⟩) hH ?_
   simp only [Act.put]
   refine tk_ (i := 9) (v := .bool lb) rfl (Or.inl ⟨by kernel_rfl, fun w' hw' => by clear hw'; go_simp⟩) hH ?_
   simp only [Act.put]
   refine rd1 (i := 11) (by kernel_rfl) rfl (fun K hK => ?_)
   rw [if_pos (by kernel_rfl)]
   refine wp_store_stL (.tmp 5) (.tmp 22) rfl HZ5.out _ ss0.cells [.int .i64 xc, .int .i64 xs, .int .i64 xr, .int .i64 xo, .string xt] rfl rfl HSX.out rfl rfl rfl (fun W9 hr9 hg9 => ?_)
   have hb9 := hH.trans (below_grown hg9 HLB.out hH.size)
   refine hK.out _ _ hb9 (fun hH => ?_)
   clear hK K
   try simp only [Act.put]
   refine rd1 (i := 12) (by kernel_rfl) rfl (fun K hK => ?_)
   rw [if_pos (by kernel_rfl)]
   go_simp
   refine hK.out _ _ hH (fun hH => ?_)
   clear hK K
   try simp only [Act.put]
   refine wpAnyH_done (by kernel_rfl) ?_ _
   try simp only [Act.put]
   go_wp2_with fail
   go_meet
   case rel => exact ⟨_, _, rfl, rfl, rfl, hr9, hH⟩
 case rest =>
  obtain ⟨bs, W3, rfl, rfl, rfl, hsx, hbx⟩ := hcut
  have HSX := hid hsx
  replace HGW := hid (HGW.out.below hbx)
  clear hsx hbx HLK HRP HRE
  have hop1 : (oper == 1) = true := by simp [hop.out]
  obtain rfl := hlb.out
  have e7 := (HGW.out.frame.row HE0.out HLT.out).at_ 7 _ rfl
  have x2 := HSX.out.at_ 2 _ rfl
  have hx1 : (xr == 0) = true := by simp [hx.out]
  go_wp2_with (first
   | (refine wpList_load_row rfl 75 (.tmp 5) rfl bs rfl 75 ([.int .i64 xc, .int .i64 xs, .int .i64 xr, .int .i64 xo, .string xt] : List Value).toArray (0, 0) _ HSX.out.arr' Tryz.underlying75 rfl HZ5.out ?_)
   | (go_at_call 36; refine (HTD.out _).mono ?_; rintro e w4 ⟨rfl, hb⟩; replace HGW := hid (HGW.out.below hb); clear hb)
   | (refine wpl_store_st rfl (.tmp 4) (.tmp 49) rfl HZ.out (w.heap.size + 1) an0.cells.toList (#[.int .i64 1, .int .i64 xc, .int .i64 xs, .int .i64 xr, .int .i64 xo, .string xt] : Array Value).toList rfl rfl (HGW.out.frame.row HA0.out HLT1.out) ?_ (hid rfl) (hid rfl) (hid rfl); intro w5 hr5 hg5))
  refine bodyPost_ret (v := .agg #[.int .i64 1, .int .i64 xc, .int .i64 xs, .int .i64 xr, .int .i64 xo, .string xt])
   (results_cell_row rfl _ _ (w.heap.size + 1) 33 _ (0, 0) _ rfl hr5.arr' Tryz.underlying33 rfl HZ.out) rfl ⟨rfl, Gmw.leave HH.out HB0.out HGW.out hg5 (by omega) (by have := HSZ.out; omega)⟩
theorem rdoes_none (p ps pb : Nat) (view opn under : Int) (parent : Nat) (client session request oper : Int) (body : ByteArray) (mo mv : Int) (ms : Nat) (o2 v2 : Int) (s2 : Nat) (xc xs xr xo : Int) (xt : ByteArray) (lb : Bool) (M : Mw) (fp : List Nat) (w : World) (h : Gm KR.1 KR.2.1 KR.2.2 p ps pb [.int .i64 mo, .int .i64 mv, .int .u64 (ms : Int), .pointer (some ⟨ps, 0, none⟩), .pointer (some ⟨pb, 0, none⟩)] M fp w)
  (HMK : Hid (∀ W, Calls Tryz.prog 57 #[.agg #[.int .i64 view, .int .i64 opn, .int .i64 under, .int .u64 (parent : Int), .int .i64 client, .int .i64 session, .int .i64 request, .int .i64 oper, .string body]] W (VE W (.agg ([.int .i64 o2, .int .i64 v2, .int .u64 (s2 : Int)] : List Value).toArray))))
  (HL : Hid (∀ (W : World) fq, Gm KR.1 KR.2.1 KR.2.2 p ps pb [.int .i64 o2, .int .i64 v2, .int .u64 (s2 : Int), .pointer (some ⟨ps, 0, none⟩), .pointer (some ⟨pb, 0, none⟩)] M fq W → Calls Tryz.prog 35 #[.pointer (some ⟨ps, 0, none⟩), .int .i64 client] W (VE W (.tuple #[.agg ([.int .i64 xc, .int .i64 xs, .int .i64 xr, .int .i64 xo, .string xt] : List Value).toArray, .bool lb]))))
  (hop : Hid (oper = 1)) (hlb : Hid (lb = true)) (hx : Hid (¬ xr = 0)) :
  Calls Tryz.prog 33 #[.pointer (some ⟨p, 0, none⟩), .agg #[.int .i64 view, .int .i64 opn, .int .i64 under, .int .u64 (parent : Int), .int .i64 client, .int .i64 session, .int .i64 request, .int .i64 oper, .string body]] w fun e w' => e = .returned (.agg #[.int .i64 0, .int .i64 0, .int .i64 0, .int .i64 0, .int .i64 0, .string ⟨#[]⟩]) ∧ Gmw KR.1 KR.2.1 KR.2.2 p ps pb w fp [.int .i64 o2, .int .i64 v2, .int .u64 (s2 : Int), .pointer (some ⟨ps, 0, none⟩), .pointer (some ⟨pb, 0, none⟩)] M w' := by
 have HB0 : Hid (Below w.heap.size w ((w.alloc (.cells #[.int .i64 view, .int .i64 opn, .int .i64 under, .int .u64 (parent : Int), .int .i64 client, .int .i64 session, .int .i64 request, .int .i64 oper, .string body] 31)).alloc (.cells #[.int .i64 0, .int .i64 0, .int .i64 0, .int .i64 0, .int .i64 0, .string ⟨#[]⟩] 33))) := hid (((Below.refl w.heap.size w).alloc (Nat.le_refl _) _).alloc (by simp) _)
 have HE0 : Hid (Row ((w.alloc (.cells #[.int .i64 view, .int .i64 opn, .int .i64 under, .int .u64 (parent : Int), .int .i64 client, .int .i64 session, .int .i64 request, .int .i64 oper, .string body] 31)).alloc (.cells #[.int .i64 0, .int .i64 0, .int .i64 0, .int .i64 0, .int .i64 0, .string ⟨#[]⟩] 33)) w.heap.size 31 (#[.int .i64 view, .int .i64 opn, .int .i64 under, .int .u64 (parent : Int), .int .i64 client, .int .i64 session, .int .i64 request, .int .i64 oper, .string body] : Array Value).toList) := hid ((Row.new _ _ _).alloc _)
 have HA0 : Hid (Row ((w.alloc (.cells #[.int .i64 view, .int .i64 opn, .int .i64 under, .int .u64 (parent : Int), .int .i64 client, .int .i64 session, .int .i64 request, .int .i64 oper, .string body] 31)).alloc (.cells #[.int .i64 0, .int .i64 0, .int .i64 0, .int .i64 0, .int .i64 0, .string ⟨#[]⟩] 33)) (w.heap.size + 1) 33 (#[.int .i64 0, .int .i64 0, .int .i64 0, .int .i64 0, .int .i64 0, .string ⟨#[]⟩] : Array Value).toList) := hid (by
  have := Row.new (w.alloc (.cells #[.int .i64 view, .int .i64 opn, .int .i64 under, .int .u64 (parent : Int), .int .i64 client, .int .i64 session, .int .i64 request, .int .i64 oper, .string body] 31)) 33 #[.int .i64 0, .int .i64 0, .int .i64 0, .int .i64 0, .int .i64 0, .string ⟨#[]⟩]
  simpa using this)
 have HSZ : Hid (((w.alloc (.cells #[.int .i64 view, .int .i64 opn, .int .i64 under, .int .u64 (parent : Int), .int .i64 client, .int .i64 session, .int .i64 request, .int .i64 oper, .string body] 31)).alloc (.cells #[.int .i64 0, .int .i64 0, .int .i64 0, .int .i64 0, .int .i64 0, .string ⟨#[]⟩] 33)).heap.size = w.heap.size + 2) := hid (by simp)
 have HG0 := hid (Gmw.start (h.below HB0.out))
 have HZ := hid asize
 have HZE := hid esize
 have HZ5 := hid ssSize
 have HZM := hid msize
 have HH := hid h
 have HLT := hid (show w.heap.size ∉ fp from fun q => by have := h.lt _ q; omega)
 have HLT1 := hid (show (w.heap.size + 1) ∉ fp from fun q => by have := h.lt _ q; omega)
 clear h
 go_enter Tryz.func33, Tryz.ntmps33
 go_wp2_with (first
  | (refine wpList_load_row rfl 31 (.tmp 3) rfl w.heap.size rfl 31 #[.int .i64 view, .int .i64 opn, .int .i64 under, .int .u64 (parent : Int), .int .i64 client, .int .i64 session, .int .i64 request, .int .i64 oper, .string body] (0, 0) _ HE0.out.arr Tryz.underlying31 rfl HZE.out ?_)
  | (go_at_call 57; refine (HMK.out _).mono ?_; rintro e w1 ⟨rfl, hb⟩; have HGW1 := hid (HG0.out.below hb); clear hb)
  | (refine wpl_store_pre rfl (.tmp 13) (.tmp 11) rfl HZM.out p [.int .i64 mo, .int .i64 mv, .int .u64 (ms : Int)] [.int .i64 o2, .int .i64 v2, .int .u64 (s2 : Int)] [.pointer (some ⟨ps, 0, none⟩), .pointer (some ⟨pb, 0, none⟩)] rfl rfl HGW1.out.row ?_ (hid rfl) (hid rfl) (hid rfl); intro w2 hr2 hg2; have HGW := hid (HGW1.out.turn (C' := [.int .i64 o2, .int .i64 v2, .int .u64 (s2 : Int), .pointer (some ⟨ps, 0, none⟩), .pointer (some ⟨pb, 0, none⟩)]) hr2 hg2); clear hr2 hg2 HGW1))
 have HLK := hid (fun W (hW : Below w2.heap.size w2 W) => (HGW.out.below hW).look HL.out)
 have HRP := hid (fun W (hW : Below w2.heap.size w2 W) => (HGW.out.below hW).row)
 have HRE := hid (fun W (hW : Below w2.heap.size w2 W) => (HGW.out.below hW).frame.row HE0.out HLT.out)
 try simp only [Act.put]
 go_cut [5, 6] (fun v b wx => ∃ bs, ∃ W1 : World, W1 = wx ∧ v = .pointer (some ⟨bs, 0, none⟩) ∧ b = .bool lb ∧ Row W1 bs 75 [.int .i64 xc, .int .i64 xs, .int .i64 xr, .int .i64 xo, .string xt] ∧ Below w2.heap.size w2 W1)
 case first =>
  refine wp_region_held_drew (S := fun W => Below w2.heap.size w2 W) (by kernel_rfl) ((Below.refl _ _).drew) (fun hH => ?_)
  refine tk_ (i := 0) (v := .pointer (some ⟨p, 0, none⟩)) rfl (Or.inl ⟨by kernel_rfl, fun w' hw' => by clear hw'; go_simp⟩) hH ?_
  simp only [Act.put]
  refine tk_ (i := 1) (v := .pointer (some ⟨p, 0, none⟩)) rfl (Or.inl ⟨by kernel_rfl, fun w' hw' => by clear hw'; go_simp⟩) hH ?_
  simp only [Act.put]
  refine tk_ (i := 2) (v := .pointer (some ⟨p, 3, none⟩)) rfl (Or.inl ⟨by kernel_rfl, fun w' hw' => by clear hw'; go_simp⟩) hH ?_
  simp only [Act.put]
  refine tk_ (i := 3) (v := .pointer (some ⟨ps, 0, none⟩)) rfl (Or.inl ⟨by kernel_rfl, fun w' hw' => by have h := (HRP.out _ hw').at_ 3 _ rfl; clear hw'; go_simp⟩) hH ?_
  simp only [Act.put]
  refine tk_ (i := 4) (v := .pointer (some ⟨w.heap.size, 4, none⟩)) rfl (Or.inl ⟨by kernel_rfl, fun w' hw' => by clear hw'; go_simp⟩) hH ?_
  simp only [Act.put]
  refine tk_ (i := 5) (v := .int .i64 client) rfl (Or.inl ⟨by kernel_rfl, fun w' hw' => by have h := (HRE.out _ hw').at_ 4 _ rfl; clear hw'; go_simp⟩) hH ?_
  simp only [Act.put]
  refine wpAnyH_ready (rs := [6, 10]) (by kernel_rfl) (by simp) ?_
  refine AllReadyH.cons rfl (fun K hK => ?_) (AllReadyH.cons rfl (fun K hK => ?_) AllReadyH.nil)
  ·
   rw [if_pos (by kernel_rfl)]
   go_simp
   go_at_call 35
   refine (HLK.out _ hH).mono ?_
   rintro e w3 ⟨rfl, hb⟩
   have hH3 := hH.trans (Below.mono hb hH.size)
   clear hb
   go_wp2_with fail
   refine hK.out _ _ hH3 (fun hH => ?_)
   clear hH3
   clear hK K
   try simp only [Act.put]
   refine tk_ (i := 7) (v := .tuple #[.agg ([.int .i64 xc, .int .i64 xs, .int .i64 xr, .int .i64 xo, .string xt] : List Value).toArray, .bool lb]) rfl (Or.inl ⟨by kernel_rfl, fun w' hw' => by clear hw'; go_simp⟩) hH ?_
   simp only [Act.put]
   refine tk_ (i := 8) (v := .agg ([.int .i64 xc, .int .i64 xs, .int .i64 xr, .int .i64 xo, .string xt] : List Value).toArray) rfl (Or.inl ⟨by kernel_rfl, fun w' hw' => by clear hw'; go_simp⟩) hH ?_
   simp only [Act.put]
   refine tk_ (i := 9) (v := .bool lb) rfl (Or.inl ⟨by kernel_rfl, fun w' hw' => by clear hw'; go_simp⟩) hH ?_
   simp only [Act.put]
   refine rd1 (i := 10) (by kernel_rfl) rfl (fun K hK => ?_)
   rw [if_pos (by kernel_rfl)]
   go_simp
   have HSX := hid (show Row ((w3).alloc (.cells #[.int .i64 0, .int .i64 0, .int .i64 0, .int .i64 0, .string ⟨#[]⟩] 75)) (w3).heap.size 75 ss0.cells from Row.new (w3) 75 #[.int .i64 0, .int .i64 0, .int .i64 0, .int .i64 0, .string ⟨#[]⟩])
   have HLB := hid (show w2.heap.size ≤ (w3).heap.size from hH.size)
   refine hK.out _ _ (hH.alloc hH.size _) (fun hH => ?_)
   clear hK K
   try simp only [Act.put]
   refine rd1 (i := 11) (by kernel_rfl) rfl (fun K hK => ?_)
   rw [if_pos (by kernel_rfl)]
   refine wp_store_stL (.tmp 5) (.tmp 22) rfl HZ5.out _ ss0.cells [.int .i64 xc, .int .i64 xs, .int .i64 xr, .int .i64 xo, .string xt] rfl rfl HSX.out rfl rfl rfl (fun W9 hr9 hg9 => ?_)
   have hb9 := hH.trans (below_grown hg9 HLB.out hH.size)
   refine hK.out _ _ hb9 (fun hH => ?_)
   clear hK K
   try simp only [Act.put]
   refine rd1 (i := 12) (by kernel_rfl) rfl (fun K hK => ?_)
   rw [if_pos (by kernel_rfl)]
   go_simp
   refine hK.out _ _ hH (fun hH => ?_)
   clear hK K
   try simp only [Act.put]
   refine wpAnyH_done (by kernel_rfl) ?_ _
   try simp only [Act.put]
   go_wp2_with fail
   go_meet
   case rel => exact ⟨_, _, rfl, rfl, rfl, hr9, hH⟩
  ·
   rw [if_pos (by kernel_rfl)]
   go_simp
   have HSX := hid (show Row ((w2.drew).alloc (.cells #[.int .i64 0, .int .i64 0, .int .i64 0, .int .i64 0, .string ⟨#[]⟩] 75)) (w2.drew).heap.size 75 ss0.cells from Row.new (w2.drew) 75 #[.int .i64 0, .int .i64 0, .int .i64 0, .int .i64 0, .string ⟨#[]⟩])
   have HLB := hid (show w2.heap.size ≤ (w2.drew).heap.size from hH.size)
   refine hK.out _ _ (hH.alloc hH.size _) (fun hH => ?_)
   clear hK K
   try simp only [Act.put]
   refine rd1 (i := 6) (by kernel_rfl) rfl (fun K hK => ?_)
   rw [if_pos (by kernel_rfl)]
   go_simp
   go_at_call 35
   refine (HLK.out _ hH).mono ?_
   rintro e w3 ⟨rfl, hb⟩
   replace HSX := hid (HSX.out.below hb HSX.out.lt)
   have hH3 := hH.trans (Below.mono hb hH.size)
   clear hb
   go_wp2_with fail
   refine hK.out _ _ hH3 (fun hH => ?_)
   clear hH3
   clear hK K
   try simp only [Act.put]
   refine tk_ (i := 7) (v := .tuple #[.agg ([.int .i64 xc, .int .i64 xs, .int .i64 xr, .int .i64 xo, .string xt] : List Value).toArray, .bool lb]) rfl (Or.inl ⟨by kernel_rfl, fun w' hw' => by clear hw'; go_simp⟩) hH ?_
   simp only [Act.put]
   refine tk_ (i := 8) (v := .agg ([.int .i64 xc, .int .i64 xs, .int .i64 xr, .int .i64 xo, .string xt] : List Value).toArray) rfl (Or.inl ⟨by kernel_rfl, fun w' hw' => by clear hw'; go_simp⟩) hH ?_
   simp only [Act.put]
   refine tk_ (i := 9) (v := .bool lb) rfl (Or.inl ⟨by kernel_rfl, fun w' hw' => by clear hw'; go_simp⟩) hH ?_
   simp only [Act.put]
   refine rd1 (i := 11) (by kernel_rfl) rfl (fun K hK => ?_)
   rw [if_pos (by kernel_rfl)]
   refine wp_store_stL (.tmp 5) (.tmp 22) rfl HZ5.out _ ss0.cells [.int .i64 xc, .int .i64 xs, .int .i64 xr, .int .i64 xo, .string xt] rfl rfl HSX.out rfl rfl rfl (fun W9 hr9 hg9 => ?_)
   have hb9 := hH.trans (below_grown hg9 HLB.out hH.size)
   refine hK.out _ _ hb9 (fun hH => ?_)
   clear hK K
   try simp only [Act.put]
   refine rd1 (i := 12) (by kernel_rfl) rfl (fun K hK => ?_)
   rw [if_pos (by kernel_rfl)]
   go_simp
   refine hK.out _ _ hH (fun hH => ?_)
   clear hK K
   try simp only [Act.put]
   refine wpAnyH_done (by kernel_rfl) ?_ _
   try simp only [Act.put]
   go_wp2_with fail
   go_meet
   case rel => exact ⟨_, _, rfl, rfl, rfl, hr9, hH⟩
 case rest =>
  obtain ⟨bs, W3, rfl, rfl, rfl, hsx, hbx⟩ := hcut
  have HSX := hid hsx
  replace HGW := hid (HGW.out.below hbx)
  clear hsx hbx HLK HRP HRE
  have hop1 : (oper == 1) = true := by simp [hop.out]
  obtain rfl := hlb.out
  have e7 := (HGW.out.frame.row HE0.out HLT.out).at_ 7 _ rfl
  have x2 := HSX.out.at_ 2 _ rfl
  have hx1 : (xr == 0) = false := by simp [hx.out]
  go_wp2_with (first
   | (refine wpl_store_st rfl (.tmp 4) (.tmp 50) rfl HZ.out (w.heap.size + 1) an0.cells.toList (#[.int .i64 0, .int .i64 0, .int .i64 0, .int .i64 0, .int .i64 0, .string ⟨#[]⟩] : Array Value).toList rfl rfl (HGW.out.frame.row HA0.out HLT1.out) ?_ (hid rfl) (hid rfl) (hid rfl); intro w5 hr5 hg5))
  refine bodyPost_ret (v := .agg #[.int .i64 0, .int .i64 0, .int .i64 0, .int .i64 0, .int .i64 0, .string ⟨#[]⟩])
   (results_cell_row rfl _ _ (w.heap.size + 1) 33 _ (0, 0) _ rfl hr5.arr' Tryz.underlying33 rfl HZ.out) rfl ⟨rfl, Gmw.leave HH.out HB0.out HGW.out hg5 (by omega) (by have := HSZ.out; omega)⟩
theorem rdoes_gone (p ps pb : Nat) (view opn under : Int) (parent : Nat) (client session request oper : Int) (body : ByteArray) (mo mv : Int) (ms : Nat) (o2 v2 : Int) (s2 : Nat) (xc xs xr xo : Int) (xt : ByteArray) (lb : Bool) (M : Mw) (fp : List Nat) (w : World) (h : Gm KR.1 KR.2.1 KR.2.2 p ps pb [.int .i64 mo, .int .i64 mv, .int .u64 (ms : Int), .pointer (some ⟨ps, 0, none⟩), .pointer (some ⟨pb, 0, none⟩)] M fp w)
    (HMK : Hid (∀ W, Calls Tryz.prog 57 #[.agg #[.int .i64 view, .int .i64 opn, .int .i64 under, .int .u64 (parent : Int), .int .i64 client, .int .i64 session, .int .i64 request, .int .i64 oper, .string body]] W (VE W (.agg ([.int .i64 o2, .int .i64 v2, .int .u64 (s2 : Int)] : List Value).toArray))))
    (HL : Hid (∀ (W : World) fq, Gm KR.1 KR.2.1 KR.2.2 p ps pb [.int .i64 o2, .int .i64 v2, .int .u64 (s2 : Int), .pointer (some ⟨ps, 0, none⟩), .pointer (some ⟨pb, 0, none⟩)] M fq W → Calls Tryz.prog 35 #[.pointer (some ⟨ps, 0, none⟩), .int .i64 client] W (VE W (.tuple #[.agg ([.int .i64 xc, .int .i64 xs, .int .i64 xr, .int .i64 xo, .string xt] : List Value).toArray, .bool lb]))))
    (hop : Hid (¬ oper = 1))
     (HV : Hid (∀ (W : World) fq, Gm KR.1 KR.2.1 KR.2.2 p ps pb [.int .i64 o2, .int .i64 v2, .int .u64 (s2 : Int), .pointer (some ⟨ps, 0, none⟩), .pointer (some ⟨pb, 0, none⟩)] M fq W → Calls Tryz.prog 13 #[.pointer (some ⟨ps, 0, none⟩), .int .i64 client, .int .i64 session, .int .i64 request] W (VE W (.int .i64 5)))) :
    Calls Tryz.prog 33 #[.pointer (some ⟨p, 0, none⟩), .agg #[.int .i64 view, .int .i64 opn, .int .i64 under, .int .u64 (parent : Int), .int .i64 client, .int .i64 session, .int .i64 request, .int .i64 oper, .string body]] w fun e w' => e = .returned (.agg #[.int .i64 2, .int .i64 client, .int .i64 session, .int .i64 request, .int .i64 opn, .string ⟨#[]⟩]) ∧ Gmw KR.1 KR.2.1 KR.2.2 p ps pb w fp [.int .i64 o2, .int .i64 v2, .int .u64 (s2 : Int), .pointer (some ⟨ps, 0, none⟩), .pointer (some ⟨pb, 0, none⟩)] M w' := by
  have HB0 : Hid (Below w.heap.size w ((w.alloc (.cells #[.int .i64 view, .int .i64 opn, .int .i64 under, .int .u64 (parent : Int), .int .i64 client, .int .i64 session, .int .i64 request, .int .i64 oper, .string body] 31)).alloc (.cells #[.int .i64 0, .int .i64 0, .int .i64 0, .int .i64 0, .int .i64 0, .string ⟨#[]⟩] 33))) := hid (((Below.refl w.heap.size w).alloc (Nat.le_refl _) _).alloc (by simp) _)
  have HE0 : Hid (Row ((w.alloc (.cells #[.int .i64 view, .int .i64 opn, .int .i64 under, .int .u64 (parent : Int), .int .i64 client, .int .i64 session, .int .i64 request, .int .i64 oper, .string body] 31)).alloc (.cells #[.int .i64 0, .int .i64 0, .int .i64 0, .int .i64 0, .int .i64 0, .string ⟨#[]⟩] 33)) w.heap.size 31 (#[.int .i64 view, .int .i64 opn, .int .i64 under, .int .u64 (parent : Int), .int .i64 client, .int .i64 session, .int .i64 request, .int .i64 oper, .string body] : Array Value).toList) := hid ((Row.new _ _ _).alloc _)
  have HA0 : Hid (Row ((w.alloc (.cells #[.int .i64 view, .int .i64 opn, .int .i64 under, .int .u64 (parent : Int), .int .i64 client, .int .i64 session, .int .i64 request, .int .i64 oper, .string body] 31)).alloc (.cells #[.int .i64 0, .int .i64 0, .int .i64 0, .int .i64 0, .int .i64 0, .string ⟨#[]⟩] 33)) (w.heap.size + 1) 33 (#[.int .i64 0, .int .i64 0, .int .i64 0, .int .i64 0, .int .i64 0, .string ⟨#[]⟩] : Array Value).toList) := hid (by
    have := Row.new (w.alloc (.cells #[.int .i64 view, .int .i64 opn, .int .i64 under, .int .u64 (parent : Int), .int .i64 client, .int .i64 session, .int .i64 request, .int .i64 oper, .string body] 31)) 33 #[.int .i64 0, .int .i64 0, .int .i64 0, .int .i64 0, .int .i64 0, .string ⟨#[]⟩]
    simpa using this)
  have HSZ : Hid (((w.alloc (.cells #[.int .i64 view, .int .i64 opn, .int .i64 under, .int .u64 (parent : Int), .int .i64 client, .int .i64 session, .int .i64 request, .int .i64 oper, .string body] 31)).alloc (.cells #[.int .i64 0, .int .i64 0, .int .i64 0, .int .i64 0, .int .i64 0, .string ⟨#[]⟩] 33)).heap.size = w.heap.size + 2) := hid (by simp)
  have HG0 := hid (Gmw.start (h.below HB0.out))
  have HZ := hid asize
  have HZE := hid esize
  have HZ5 := hid ssSize
  have HZM := hid msize
  have HH := hid h
  have HLT := hid (show w.heap.size ∉ fp from fun q => by have := h.lt _ q; omega)
  have HLT1 := hid (show (w.heap.size + 1) ∉ fp from fun q => by have := h.lt _ q; omega)
  clear h
  go_enter Tryz.func33, Tryz.ntmps33
  go_wp2_with (first
    | (refine wpList_load_row rfl 31 (.tmp 3) rfl w.heap.size rfl 31 #[.int .i64 view, .int .i64 opn, .int .i64 under, .int .u64 (parent : Int), .int .i64 client, .int .i64 session, .int .i64 request, .int .i64 oper, .string body] (0, 0) _ HE0.out.arr Tryz.underlying31 rfl HZE.out ?_)
    | (go_at_call 57; refine (HMK.out _).mono ?_; rintro e w1 ⟨rfl, hb⟩; have HGW1 := hid (HG0.out.below hb); clear hb)
    | (refine wpl_store_pre rfl (.tmp 13) (.tmp 11) rfl HZM.out p [.int .i64 mo, .int .i64 mv, .int .u64 (ms : Int)] [.int .i64 o2, .int .i64 v2, .int .u64 (s2 : Int)] [.pointer (some ⟨ps, 0, none⟩), .pointer (some ⟨pb, 0, none⟩)] rfl rfl HGW1.out.row ?_ (hid rfl) (hid rfl) (hid rfl); intro w2 hr2 hg2; have HGW := hid (HGW1.out.turn (C' := [.int .i64 o2, .int .i64 v2, .int .u64 (s2 : Int), .pointer (some ⟨ps, 0, none⟩), .pointer (some ⟨pb, 0, none⟩)]) hr2 hg2); clear hr2 hg2 HGW1))
  have HLK := hid (fun W (hW : Below w2.heap.size w2 W) => (HGW.out.below hW).look HL.out)
  have HRP := hid (fun W (hW : Below w2.heap.size w2 W) => (HGW.out.below hW).row)
  have HRE := hid (fun W (hW : Below w2.heap.size w2 W) => (HGW.out.below hW).frame.row HE0.out HLT.out)
  try simp only [Act.put]
  go_cut [5, 6] (fun v b wx => ∃ bs, ∃ W1 : World, W1 = wx ∧ v = .pointer (some ⟨bs, 0, none⟩) ∧ b = .bool lb ∧ Row W1 bs 75 [.int .i64 xc, .int .i64 xs, .int .i64 xr, .int .i64 xo, .string xt] ∧ Below w2.heap.size w2 W1)
  case first =>
    refine wp_region_held_drew (S := fun W => Below w2.heap.size w2 W) (by kernel_rfl) ((Below.refl _ _).drew) (fun hH => ?_)
    refine tk_ (i := 0) (v := .pointer (some ⟨p, 0, none⟩)) rfl (Or.inl ⟨by kernel_rfl, fun w' hw' => by clear hw'; go_simp⟩) hH ?_
    simp only [Act.put]
    refine tk_ (i := 1) (v := .pointer (some ⟨p, 0, none⟩)) rfl (Or.inl ⟨by kernel_rfl, fun w' hw' => by clear hw'; go_simp⟩) hH ?_
    simp only [Act.put]
    refine tk_ (i := 2) (v := .pointer (some ⟨p, 3, none⟩)) rfl (Or.inl ⟨by kernel_rfl, fun w' hw' => by clear hw'; go_simp⟩) hH ?_
    simp only [Act.put]
    refine tk_ (i := 3) (v := .pointer (some ⟨ps, 0, none⟩)) rfl (Or.inl ⟨by kernel_rfl, fun w' hw' => by have h := (HRP.out _ hw').at_ 3 _ rfl; clear hw'; go_simp⟩) hH ?_
    simp only [Act.put]
    refine tk_ (i := 4) (v := .pointer (some ⟨w.heap.size, 4, none⟩)) rfl (Or.inl ⟨by kernel_rfl, fun w' hw' => by clear hw'; go_simp⟩) hH ?_
    simp only [Act.put]
    refine tk_ (i := 5) (v := .int .i64 client) rfl (Or.inl ⟨by kernel_rfl, fun w' hw' => by have h := (HRE.out _ hw').at_ 4 _ rfl; clear hw'; go_simp⟩) hH ?_
    simp only [Act.put]
    refine wpAnyH_ready (rs := [6, 10]) (by kernel_rfl) (by simp) ?_
    refine AllReadyH.cons rfl (fun K hK => ?_) (AllReadyH.cons rfl (fun K hK => ?_) AllReadyH.nil)
    · rw [if_pos (by kernel_rfl)]
      go_simp
      go_at_call 35
      refine (HLK.out _ hH).mono ?_
      rintro e w3 ⟨rfl, hb⟩
      have hH3 := hH.trans (Below.mono hb hH.size)
      clear hb
      go_wp2_with fail
      refine hK.out _ _ hH3 (fun hH => ?_)
      clear hH3
      clear hK K
      try simp only [Act.put]
      refine tk_ (i := 7) (v := .tuple #[.agg ([.int .i64 xc, .int .i64 xs, .int .i64 xr, .int .i64 xo, .string xt] : List Value).toArray, .bool lb]) rfl (Or.inl ⟨by kernel_rfl, fun w' hw' => by clear hw'; go_simp⟩) hH ?_
      simp only [Act.put]
      refine tk_ (i := 8) (v := .agg ([.int .i64 xc, .int .i64 xs, .int .i64 xr, .int .i64 xo, .string xt] : List Value).toArray) rfl (Or.inl ⟨by kernel_rfl, fun w' hw' => by clear hw'; go_simp⟩) hH ?_
      simp only [Act.put]
      refine tk_ (i := 9) (v := .bool lb) rfl (Or.inl ⟨by kernel_rfl, fun w' hw' => by clear hw'; go_simp⟩) hH ?_
      simp only [Act.put]
      refine rd1 (i := 10) (by kernel_rfl) rfl (fun K hK => ?_)
      rw [if_pos (by kernel_rfl)]
      go_simp
      have HSX := hid (show Row ((w3).alloc (.cells #[.int .i64 0, .int .i64 0, .int .i64 0, .int .i64 0, .string ⟨#[]⟩] 75)) (w3).heap.size 75 ss0.cells from Row.new (w3) 75 #[.int .i64 0, .int .i64 0, .int .i64 0, .int .i64 0, .string ⟨#[]⟩])
      have HLB := hid (show w2.heap.size ≤ (w3).heap.size from hH.size)
      refine hK.out _ _ (hH.alloc hH.size _) (fun hH => ?_)
      clear hK K
      try simp only [Act.put]
      refine rd1 (i := 11) (by kernel_rfl) rfl (fun K hK => ?_)
      rw [if_pos (by kernel_rfl)]
      refine wp_store_stL (.tmp 5) (.tmp 22) rfl HZ5.out _ ss0.cells [.int .i64 xc, .int .i64 xs, .int .i64 xr, .int .i64 xo, .string xt] rfl rfl HSX.out rfl rfl rfl (fun W9 hr9 hg9 => ?_)
      have hb9 := hH.trans (below_grown hg9 HLB.out hH.size)
      refine hK.out _ _ hb9 (fun hH => ?_)
      clear hK K
      try simp only [Act.put]
      refine rd1 (i := 12) (by kernel_rfl) rfl (fun K hK => ?_)
      rw [if_pos (by kernel_rfl)]
      go_simp
      refine hK.out _ _ hH (fun hH => ?_)
      clear hK K
      try simp only [Act.put]
      refine wpAnyH_done (by kernel_rfl) ?_ _
      try simp only [Act.put]
      go_wp2_with fail
      go_meet
      case rel => exact ⟨_, _, rfl, rfl, rfl, hr9, hH⟩
    · rw [if_pos (by kernel_rfl)]
      go_simp
      have HSX := hid (show Row ((w2.drew).alloc (.cells #[.int .i64 0, .int .i64 0, .int .i64 0, .int .i64 0, .string ⟨#[]⟩] 75)) (w2.drew).heap.size 75 ss0.cells from Row.new (w2.drew) 75 #[.int .i64 0, .int .i64 0, .int .i64 0, .int .i64 0, .string ⟨#[]⟩])
      have HLB := hid (show w2.heap.size ≤ (w2.drew).heap.size from hH.size)
      refine hK.out _ _ (hH.alloc hH.size _) (fun hH => ?_)
      clear hK K
      try simp only [Act.put]
      refine rd1 (i := 6) (by kernel_rfl) rfl (fun K hK => ?_)
      rw [if_pos (by kernel_rfl)]
      go_simp
      go_at_call 35
      refine (HLK.out _ hH).mono ?_
      rintro e w3 ⟨rfl, hb⟩
      replace HSX := hid (HSX.out.below hb HSX.out.lt)
      have hH3 := hH.trans (Below.mono hb hH.size)
      clear hb
      go_wp2_with fail
      refine hK.out _ _ hH3 (fun hH => ?_)
      clear hH3
      clear hK K
      try simp only [Act.put]
      refine tk_ (i := 7) (v := .tuple #[.agg ([.int .i64 xc, .int .i64 xs, .int .i64 xr, .int .i64 xo, .string xt] : List Value).toArray, .bool lb]) rfl (Or.inl ⟨by kernel_rfl, fun w' hw' => by clear hw'; go_simp⟩) hH ?_
      simp only [Act.put]
      refine tk_ (i := 8) (v := .agg ([.int .i64 xc, .int .i64 xs, .int .i64 xr, .int .i64 xo, .string xt] : List Value).toArray) rfl (Or.inl ⟨by kernel_rfl, fun w' hw' => by clear hw'; go_simp⟩) hH ?_
      simp only [Act.put]
      refine tk_ (i := 9) (v := .bool lb) rfl (Or.inl ⟨by kernel_rfl, fun w' hw' => by clear hw'; go_simp⟩) hH ?_
      simp only [Act.put]
      refine rd1 (i := 11) (by kernel_rfl) rfl (fun K hK => ?_)
      rw [if_pos (by kernel_rfl)]
      refine wp_store_stL (.tmp 5) (.tmp 22) rfl HZ5.out _ ss0.cells [.int .i64 xc, .int .i64 xs, .int .i64 xr, .int .i64 xo, .string xt] rfl rfl HSX.out rfl rfl rfl (fun W9 hr9 hg9 => ?_)
      have hb9 := hH.trans (below_grown hg9 HLB.out hH.size)
      refine hK.out _ _ hb9 (fun hH => ?_)
      clear hK K
      try simp only [Act.put]
      refine rd1 (i := 12) (by kernel_rfl) rfl (fun K hK => ?_)
      rw [if_pos (by kernel_rfl)]
      go_simp
      refine hK.out _ _ hH (fun hH => ?_)
      clear hK K
      try simp only [Act.put]
      refine wpAnyH_done (by kernel_rfl) ?_ _
      try simp only [Act.put]
      go_wp2_with fail
      go_meet
      case rel => exact ⟨_, _, rfl, rfl, rfl, hr9, hH⟩
  case rest =>
    obtain ⟨bs, W3, rfl, rfl, rfl, hsx, hbx⟩ := hcut
    have HSX := hid hsx
    replace HGW := hid (HGW.out.below hbx)
    clear hsx hbx HLK HRP HRE
    have hop1 : (oper == 1) = false := by simp [hop.out]
    have e7 := (HGW.out.frame.row HE0.out HLT.out).at_ 7 _ rfl
    go_wp2_with fail
    try simp only [Act.put]
    refine wp_region_held_drew (S := fun W => Row W p 45 [.int .i64 o2, .int .i64 v2, .int .u64 (s2 : Int), .pointer (some ⟨ps, 0, none⟩), .pointer (some ⟨pb, 0, none⟩)] ∧ Row W w.heap.size 31 (#[.int .i64 view, .int .i64 opn, .int .i64 under, .int .u64 (parent : Int), .int .i64 client, .int .i64 session, .int .i64 request, .int .i64 oper, .string body] : Array Value).toList) (by kernel_rfl) ⟨HGW.out.row.drew, (HGW.out.frame.row HE0.out HLT.out).drew⟩ (fun hH => ?_)
    replace HGW := hid (HGW.out.below (below_drewN (Below.refl _ _) 1))
    replace HSX := hid (HSX.out.below (below_drewN (Below.refl _ _) 1) HSX.out.lt)
    refine tk_ (i := 0) (v := .pointer (some ⟨p, 0, none⟩)) rfl (Or.inl ⟨by kernel_rfl, fun w' hw' => by clear hw'; go_simp⟩) hH ?_
    simp only [Act.put]
    refine tk_ (i := 1) (v := .pointer (some ⟨p, 0, none⟩)) rfl (Or.inl ⟨by kernel_rfl, fun w' hw' => by clear hw'; go_simp⟩) hH ?_
    simp only [Act.put]
    refine tk_ (i := 2) (v := .pointer (some ⟨p, 3, none⟩)) rfl (Or.inl ⟨by kernel_rfl, fun w' hw' => by clear hw'; go_simp⟩) hH ?_
    simp only [Act.put]
    refine tk_ (i := 3) (v := .pointer (some ⟨ps, 0, none⟩)) rfl (Or.inl ⟨by kernel_rfl, fun w' hw' => by have h := hw'.1.at_ 3 _ rfl; clear hw'; go_simp⟩) hH ?_
    simp only [Act.put]
    refine tk_ (i := 4) (v := .pointer (some ⟨w.heap.size, 4, none⟩)) rfl (Or.inl ⟨by kernel_rfl, fun w' hw' => by clear hw'; go_simp⟩) hH ?_
    simp only [Act.put]
    refine tk_ (i := 5) (v := .int .i64 client) rfl (Or.inl ⟨by kernel_rfl, fun w' hw' => by have h := hw'.2.at_ 4 _ rfl; clear hw'; go_simp⟩) hH ?_
    simp only [Act.put]
    refine tk_ (i := 6) (v := .pointer (some ⟨w.heap.size, 5, none⟩)) rfl (Or.inl ⟨by kernel_rfl, fun w' hw' => by clear hw'; go_simp⟩) hH ?_
    simp only [Act.put]
    refine tk_ (i := 7) (v := .int .i64 session) rfl (Or.inl ⟨by kernel_rfl, fun w' hw' => by have h := hw'.2.at_ 5 _ rfl; clear hw'; go_simp⟩) hH ?_
    simp only [Act.put]
    refine tk_ (i := 8) (v := .pointer (some ⟨w.heap.size, 6, none⟩)) rfl (Or.inl ⟨by kernel_rfl, fun w' hw' => by clear hw'; go_simp⟩) hH ?_
    simp only [Act.put]
    refine tk_ (i := 9) (v := .int .i64 request) rfl (Or.inl ⟨by kernel_rfl, fun w' hw' => by have h := hw'.2.at_ 6 _ rfl; clear hw'; go_simp⟩) hH ?_
    simp only [Act.put]
    refine rd1 (i := 10) (by kernel_rfl) rfl (fun K hK => ?_)
    rw [if_pos (by kernel_rfl)]
    go_simp
    go_at_call 13
    obtain ⟨fq, hq, -⟩ := HGW.out
    refine (HV.out _ fq hq).mono ?_
    rintro e w6 ⟨rfl, hb⟩
    replace HGW := hid (HGW.out.below hb)
    replace HSX := hid (HSX.out.below hb HSX.out.lt)
    clear hb hq
    go_wp2_with fail
    refine hK.out _ _ ⟨HGW.out.row, (HGW.out.frame.row HE0.out HLT.out)⟩ (fun hH => ?_)
    clear hK K
    try simp only [Act.put]
    refine rd1 (i := 11) (by kernel_rfl) rfl (fun K hK => ?_)
    rw [if_pos (by kernel_rfl)]
    go_simp
    refine hK.out _ _ hH (fun hH => ?_)
    clear hK K
    try simp only [Act.put]
    refine wpAnyH_done (by kernel_rfl) ?_ _
    try simp only [Act.put]
    have e4 := (HGW.out.frame.row HE0.out HLT.out).at_ 4 _ rfl
    have e5 := (HGW.out.frame.row HE0.out HLT.out).at_ 5 _ rfl
    have e6 := (HGW.out.frame.row HE0.out HLT.out).at_ 6 _ rfl
    have e1 := (HGW.out.frame.row HE0.out HLT.out).at_ 1 _ rfl
    go_wp2_with (first
      | (refine wpl_store_st rfl (.tmp 4) (.tmp 72) rfl HZ.out (w.heap.size + 1) an0.cells.toList (#[.int .i64 2, .int .i64 client, .int .i64 session, .int .i64 request, .int .i64 opn, .string ⟨#[]⟩] : Array Value).toList rfl rfl (HGW.out.frame.row HA0.out HLT1.out) ?_ (hid rfl) (hid rfl) (hid rfl); intro w5 hr5 hg5))
    refine bodyPost_ret (v := .agg #[.int .i64 2, .int .i64 client, .int .i64 session, .int .i64 request, .int .i64 opn, .string ⟨#[]⟩])
      (results_cell_row rfl _ _ (w.heap.size + 1) 33 _ (0, 0) _ rfl hr5.arr' Tryz.underlying33 rfl HZ.out) rfl ⟨rfl, Gmw.leave HH.out HB0.out HGW.out hg5 (by omega) (by have := HSZ.out; omega)⟩
theorem rdoes_again (p ps pb : Nat) (view opn under : Int) (parent : Nat) (client session request oper : Int) (body : ByteArray) (mo mv : Int) (ms : Nat) (o2 v2 : Int) (s2 : Nat) (xc xs xr xo : Int) (xt : ByteArray) (lb : Bool) (M : Mw) (fp : List Nat) (w : World) (h : Gm KR.1 KR.2.1 KR.2.2 p ps pb [.int .i64 mo, .int .i64 mv, .int .u64 (ms : Int), .pointer (some ⟨ps, 0, none⟩), .pointer (some ⟨pb, 0, none⟩)] M fp w)
    (HMK : Hid (∀ W, Calls Tryz.prog 57 #[.agg #[.int .i64 view, .int .i64 opn, .int .i64 under, .int .u64 (parent : Int), .int .i64 client, .int .i64 session, .int .i64 request, .int .i64 oper, .string body]] W (VE W (.agg ([.int .i64 o2, .int .i64 v2, .int .u64 (s2 : Int)] : List Value).toArray))))
    (HL : Hid (∀ (W : World) fq, Gm KR.1 KR.2.1 KR.2.2 p ps pb [.int .i64 o2, .int .i64 v2, .int .u64 (s2 : Int), .pointer (some ⟨ps, 0, none⟩), .pointer (some ⟨pb, 0, none⟩)] M fq W → Calls Tryz.prog 35 #[.pointer (some ⟨ps, 0, none⟩), .int .i64 client] W (VE W (.tuple #[.agg ([.int .i64 xc, .int .i64 xs, .int .i64 xr, .int .i64 xo, .string xt] : List Value).toArray, .bool lb]))))
    (hop : Hid (¬ oper = 1))
     (HV : Hid (∀ (W : World) fq, Gm KR.1 KR.2.1 KR.2.2 p ps pb [.int .i64 o2, .int .i64 v2, .int .u64 (s2 : Int), .pointer (some ⟨ps, 0, none⟩), .pointer (some ⟨pb, 0, none⟩)] M fq W → Calls Tryz.prog 13 #[.pointer (some ⟨ps, 0, none⟩), .int .i64 client, .int .i64 session, .int .i64 request] W (VE W (.int .i64 2))))
    (HTD : Hid (∀ W, Calls Tryz.prog 36 #[.agg ([.int .i64 xc, .int .i64 xs, .int .i64 xr, .int .i64 xo, .string xt] : List Value).toArray] W (VE W (.agg #[.int .i64 1, .int .i64 xc, .int .i64 xs, .int .i64 xr, .int .i64 xo, .string xt])))) :
    Calls Tryz.prog 33 #[.pointer (some ⟨p, 0, none⟩), .agg #[.int .i64 view, .int .i64 opn, .int .i64 under, .int .u64 (parent : Int), .int .i64 client, .int .i64 session, .int .i64 request, .int .i64 oper, .string body]] w fun e w' => e = .returned (.agg #[.int .i64 1, .int .i64 xc, .int .i64 xs, .int .i64 xr, .int .i64 xo, .string xt]) ∧ Gmw KR.1 KR.2.1 KR.2.2 p ps pb w fp [.int .i64 o2, .int .i64 v2, .int .u64 (s2 : Int), .pointer (some ⟨ps, 0, none⟩), .pointer (some ⟨pb, 0, none⟩)] M w' := by
  have HB0 : Hid (Below w.heap.size w ((w.alloc (.cells #[.int .i64 view, .int .i64 opn, .int .i64 under, .int .u64 (parent : Int), .int .i64 client, .int .i64 session, .int .i64 request, .int .i64 oper, .string body] 31)).alloc (.cells #[.int .i64 0, .int .i64 0, .int .i64 0, .int .i64 0, .int .i64 0, .string ⟨#[]⟩] 33))) := hid (((Below.refl w.heap.size w).alloc (Nat.le_refl _) _).alloc (by simp) _)
  have HE0 : Hid (Row ((w.alloc (.cells #[.int .i64 view, .int .i64 opn, .int .i64 under, .int .u64 (parent : Int), .int .i64 client, .int .i64 session, .int .i64 request, .int .i64 oper, .string body] 31)).alloc (.cells #[.int .i64 0, .int .i64 0, .int .i64 0, .int .i64 0, .int .i64 0, .string ⟨#[]⟩] 33)) w.heap.size 31 (#[.int .i64 view, .int .i64 opn, .int .i64 under, .int .u64 (parent : Int), .int .i64 client, .int .i64 session, .int .i64 request, .int .i64 oper, .string body] : Array Value).toList) := hid ((Row.new _ _ _).alloc _)
  have HA0 : Hid (Row ((w.alloc (.cells #[.int .i64 view, .int .i64 opn, .int .i64 under, .int .u64 (parent : Int), .int .i64 client, .int .i64 session, .int .i64 request, .int .i64 oper, .string body] 31)).alloc (.cells #[.int .i64 0, .int .i64 0, .int .i64 0, .int .i64 0, .int .i64 0, .string ⟨#[]⟩] 33)) (w.heap.size + 1) 33 (#[.int .i64 0, .int .i64 0, .int .i64 0, .int .i64 0, .int .i64 0, .string ⟨#[]⟩] : Array Value).toList) := hid (by
    have := Row.new (w.alloc (.cells #[.int .i64 view, .int .i64 opn, .int .i64 under, .int .u64 (parent : Int), .int .i64 client, .int .i64 session, .int .i64 request, .int .i64 oper, .string body] 31)) 33 #[.int .i64 0, .int .i64 0, .int .i64 0, .int .i64 0, .int .i64 0, .string ⟨#[]⟩]
    simpa using this)
  have HSZ : Hid (((w.alloc (.cells #[.int .i64 view, .int .i64 opn, .int .i64 under, .int .u64 (parent : Int), .int .i64 client, .int .i64 session, .int .i64 request, .int .i64 oper, .string body] 31)).alloc (.cells #[.int .i64 0, .int .i64 0, .int .i64 0, .int .i64 0, .int .i64 0, .string ⟨#[]⟩] 33)).heap.size = w.heap.size + 2) := hid (by simp)
  have HG0 := hid (Gmw.start (h.below HB0.out))
  have HZ := hid asize
  have HZE := hid esize
  have HZ5 := hid ssSize
  have HZM := hid msize
  have HH := hid h
  have HLT := hid (show w.heap.size ∉ fp from fun q => by have := h.lt _ q; omega)
  have HLT1 := hid (show (w.heap.size + 1) ∉ fp from fun q => by have := h.lt _ q; omega)
  clear h
  go_enter Tryz.func33, Tryz.ntmps33
  go_wp2_with (first
    | (refine wpList_load_row rfl 31 (.tmp 3) rfl w.heap.size rfl 31 #[.int .i64 view, .int .i64 opn, .int .i64 under, .int .u64 (parent : Int), .int .i64 client, .int .i64 session, .int .i64 request, .int .i64 oper, .string body] (0, 0) _ HE0.out.arr Tryz.underlying31 rfl HZE.out ?_)
    | (go_at_call 57; refine (HMK.out _).mono ?_; rintro e w1 ⟨rfl, hb⟩; have HGW1 := hid (HG0.out.below hb); clear hb)
    | (refine wpl_store_pre rfl (.tmp 13) (.tmp 11) rfl HZM.out p [.int .i64 mo, .int .i64 mv, .int .u64 (ms : Int)] [.int .i64 o2, .int .i64 v2, .int .u64 (s2 : Int)] [.pointer (some ⟨ps, 0, none⟩), .pointer (some ⟨pb, 0, none⟩)] rfl rfl HGW1.out.row ?_ (hid rfl) (hid rfl) (hid rfl); intro w2 hr2 hg2; have HGW := hid (HGW1.out.turn (C' := [.int .i64 o2, .int .i64 v2, .int .u64 (s2 : Int), .pointer (some ⟨ps, 0, none⟩), .pointer (some ⟨pb, 0, none⟩)]) hr2 hg2); clear hr2 hg2 HGW1))
  have HLK := hid (fun W (hW : Below w2.heap.size w2 W) => (HGW.out.below hW).look HL.out)
  have HRP := hid (fun W (hW : Below w2.heap.size w2 W) => (HGW.out.below hW).row)
  have HRE := hid (fun W (hW : Below w2.heap.size w2 W) => (HGW.out.below hW).frame.row HE0.out HLT.out)
  try simp only [Act.put]
  go_cut [5, 6] (fun v b wx => ∃ bs, ∃ W1 : World, W1 = wx ∧ v = .pointer (some ⟨bs, 0, none⟩) ∧ b = .bool lb ∧ Row W1 bs 75 [.int .i64 xc, .int .i64 xs, .int .i64 xr, .int .i64 xo, .string xt] ∧ Below w2.heap.size w2 W1)
  case first =>
    refine wp_region_held_drew (S := fun W => Below w2.heap.size w2 W) (by kernel_rfl) ((Below.refl _ _).drew) (fun hH => ?_)
    refine tk_ (i := 0) (v := .pointer (some ⟨p, 0, none⟩)) rfl (Or.inl ⟨by kernel_rfl, fun w' hw' => by clear hw'; go_simp⟩) hH ?_
    simp only [Act.put]
    refine tk_ (i := 1) (v := .pointer (some ⟨p, 0, none⟩)) rfl (Or.inl ⟨by kernel_rfl, fun w' hw' => by clear hw'; go_simp⟩) hH ?_
    simp only [Act.put]
    refine tk_ (i := 2) (v := .pointer (some ⟨p, 3, none⟩)) rfl (Or.inl ⟨by kernel_rfl, fun w' hw' => by clear hw'; go_simp⟩) hH ?_
    simp only [Act.put]
    refine tk_ (i := 3) (v := .pointer (some ⟨ps, 0, none⟩)) rfl (Or.inl ⟨by kernel_rfl, fun w' hw' => by have h := (HRP.out _ hw').at_ 3 _ rfl; clear hw'; go_simp⟩) hH ?_
    simp only [Act.put]
    refine tk_ (i := 4) (v := .pointer (some ⟨w.heap.size, 4, none⟩)) rfl (Or.inl ⟨by kernel_rfl, fun w' hw' => by clear hw'; go_simp⟩) hH ?_
    simp only [Act.put]
    refine tk_ (i := 5) (v := .int .i64 client) rfl (Or.inl ⟨by kernel_rfl, fun w' hw' => by have h := (HRE.out _ hw').at_ 4 _ rfl; clear hw'; go_simp⟩) hH ?_
    simp only [Act.put]
    refine wpAnyH_ready (rs := [6, 10]) (by kernel_rfl) (by simp) ?_
    refine AllReadyH.cons rfl (fun K hK => ?_) (AllReadyH.cons rfl (fun K hK => ?_) AllReadyH.nil)
    · rw [if_pos (by kernel_rfl)]
      go_simp
      go_at_call 35
      refine (HLK.out _ hH).mono ?_
      rintro e w3 ⟨rfl, hb⟩
      have hH3 := hH.trans (Below.mono hb hH.size)
      clear hb
      go_wp2_with fail
      refine hK.out _ _ hH3 (fun hH => ?_)
      clear hH3
      clear hK K
      try simp only [Act.put]
      refine tk_ (i := 7) (v := .tuple #[.agg ([.int .i64 xc, .int .i64 xs, .int .i64 xr, .int .i64 xo, .string xt] : List Value).toArray, .bool lb]) rfl (Or.inl ⟨by kernel_rfl, fun w' hw' => by clear hw'; go_simp⟩) hH ?_
      simp only [Act.put]
      refine tk_ (i := 8) (v := .agg ([.int .i64 xc, .int .i64 xs, .int .i64 xr, .int .i64 xo, .string xt] : List Value).toArray) rfl (Or.inl ⟨by kernel_rfl, fun w' hw' => by clear hw'; go_simp⟩) hH ?_
      simp only [Act.put]
      refine tk_ (i := 9) (v := .bool lb) rfl (Or.inl ⟨by kernel_rfl, fun w' hw' => by clear hw'; go_simp⟩) hH ?_
      simp only [Act.put]
      refine rd1 (i := 10) (by kernel_rfl) rfl (fun K hK => ?_)
      rw [if_pos (by kernel_rfl)]
      go_simp
      have HSX := hid (show Row ((w3).alloc (.cells #[.int .i64 0, .int .i64 0, .int .i64 0, .int .i64 0, .string ⟨#[]⟩] 75)) (w3).heap.size 75 ss0.cells from Row.new (w3) 75 #[.int .i64 0, .int .i64 0, .int .i64 0, .int .i64 0, .string ⟨#[]⟩])
      have HLB := hid (show w2.heap.size ≤ (w3).heap.size from hH.size)
      refine hK.out _ _ (hH.alloc hH.size _) (fun hH => ?_)
      clear hK K
      try simp only [Act.put]
      refine rd1 (i := 11) (by kernel_rfl) rfl (fun K hK => ?_)
      rw [if_pos (by kernel_rfl)]
      refine wp_store_stL (.tmp 5) (.tmp 22) rfl HZ5.out _ ss0.cells [.int .i64 xc, .int .i64 xs, .int .i64 xr, .int .i64 xo, .string xt] rfl rfl HSX.out rfl rfl rfl (fun W9 hr9 hg9 => ?_)
      have hb9 := hH.trans (below_grown hg9 HLB.out hH.size)
      refine hK.out _ _ hb9 (fun hH => ?_)
      clear hK K
      try simp only [Act.put]
      refine rd1 (i := 12) (by kernel_rfl) rfl (fun K hK => ?_)
      rw [if_pos (by kernel_rfl)]
      go_simp
      refine hK.out _ _ hH (fun hH => ?_)
      clear hK K
      try simp only [Act.put]
      refine wpAnyH_done (by kernel_rfl) ?_ _
      try simp only [Act.put]
      go_wp2_with fail
      go_meet
      case rel => exact ⟨_, _, rfl, rfl, rfl, hr9, hH⟩
    · rw [if_pos (by kernel_rfl)]
      go_simp
      have HSX := hid (show Row ((w2.drew).alloc (.cells #[.int .i64 0, .int .i64 0, .int .i64 0, .int .i64 0, .string ⟨#[]⟩] 75)) (w2.drew).heap.size 75 ss0.cells from Row.new (w2.drew) 75 #[.int .i64 0, .int .i64 0, .int .i64 0, .int .i64 0, .string ⟨#[]⟩])
      have HLB := hid (show w2.heap.size ≤ (w2.drew).heap.size from hH.size)
      refine hK.out _ _ (hH.alloc hH.size _) (fun hH => ?_)
      clear hK K
      try simp only [Act.put]
      refine rd1 (i := 6) (by kernel_rfl) rfl (fun K hK => ?_)
      rw [if_pos (by kernel_rfl)]
      go_simp
      go_at_call 35
      refine (HLK.out _ hH).mono ?_
      rintro e w3 ⟨rfl, hb⟩
      replace HSX := hid (HSX.out.below hb HSX.out.lt)
      have hH3 := hH.trans (Below.mono hb hH.size)
      clear hb
      go_wp2_with fail
      refine hK.out _ _ hH3 (fun hH => ?_)
      clear hH3
      clear hK K
      try simp only [Act.put]
      refine tk_ (i := 7) (v := .tuple #[.agg ([.int .i64 xc, .int .i64 xs, .int .i64 xr, .int .i64 xo, .string xt] : List Value).toArray, .bool lb]) rfl (Or.inl ⟨by kernel_rfl, fun w' hw' => by clear hw'; go_simp⟩) hH ?_
      simp only [Act.put]
      refine tk_ (i := 8) (v := .agg ([.int .i64 xc, .int .i64 xs, .int .i64 xr, .int .i64 xo, .string xt] : List Value).toArray) rfl (Or.inl ⟨by kernel_rfl, fun w' hw' => by clear hw'; go_simp⟩) hH ?_
      simp only [Act.put]
      refine tk_ (i := 9) (v := .bool lb) rfl (Or.inl ⟨by kernel_rfl, fun w' hw' => by clear hw'; go_simp⟩) hH ?_
      simp only [Act.put]
      refine rd1 (i := 11) (by kernel_rfl) rfl (fun K hK => ?_)
      rw [if_pos (by kernel_rfl)]
      refine wp_store_stL (.tmp 5) (.tmp 22) rfl HZ5.out _ ss0.cells [.int .i64 xc, .int .i64 xs, .int .i64 xr, .int .i64 xo, .string xt] rfl rfl HSX.out rfl rfl rfl (fun W9 hr9 hg9 => ?_)
      have hb9 := hH.trans (below_grown hg9 HLB.out hH.size)
      refine hK.out _ _ hb9 (fun hH => ?_)
      clear hK K
      try simp only [Act.put]
      refine rd1 (i := 12) (by kernel_rfl) rfl (fun K hK => ?_)
      rw [if_pos (by kernel_rfl)]
      go_simp
      refine hK.out _ _ hH (fun hH => ?_)
      clear hK K
      try simp only [Act.put]
      refine wpAnyH_done (by kernel_rfl) ?_ _
      try simp only [Act.put]
      go_wp2_with fail
      go_meet
      case rel => exact ⟨_, _, rfl, rfl, rfl, hr9, hH⟩
  case rest =>
    obtain ⟨bs, W3, rfl, rfl, rfl, hsx, hbx⟩ := hcut
    have HSX := hid hsx
    replace HGW := hid (HGW.out.below hbx)
    clear hsx hbx HLK HRP HRE
    have hop1 : (oper == 1) = false := by simp [hop.out]
    have e7 := (HGW.out.frame.row HE0.out HLT.out).at_ 7 _ rfl
    go_wp2_with fail
    try simp only [Act.put]
    refine wp_region_held_drew (S := fun W => Row W p 45 [.int .i64 o2, .int .i64 v2, .int .u64 (s2 : Int), .pointer (some ⟨ps, 0, none⟩), .pointer (some ⟨pb, 0, none⟩)] ∧ Row W w.heap.size 31 (#[.int .i64 view, .int .i64 opn, .int .i64 under, .int .u64 (parent : Int), .int .i64 client, .int .i64 session, .int .i64 request, .int .i64 oper, .string body] : Array Value).toList) (by kernel_rfl) ⟨HGW.out.row.drew, (HGW.out.frame.row HE0.out HLT.out).drew⟩ (fun hH => ?_)
    replace HGW := hid (HGW.out.below (below_drewN (Below.refl _ _) 1))
    replace HSX := hid (HSX.out.below (below_drewN (Below.refl _ _) 1) HSX.out.lt)
    refine tk_ (i := 0) (v := .pointer (some ⟨p, 0, none⟩)) rfl (Or.inl ⟨by kernel_rfl, fun w' hw' => by clear hw'; go_simp⟩) hH ?_
    simp only [Act.put]
    refine tk_ (i := 1) (v := .pointer (some ⟨p, 0, none⟩)) rfl (Or.inl ⟨by kernel_rfl, fun w' hw' => by clear hw'; go_simp⟩) hH ?_
    simp only [Act.put]
    refine tk_ (i := 2) (v := .pointer (some ⟨p, 3, none⟩)) rfl (Or.inl ⟨by kernel_rfl, fun w' hw' => by clear hw'; go_simp⟩) hH ?_
    simp only [Act.put]
    refine tk_ (i := 3) (v := .pointer (some ⟨ps, 0, none⟩)) rfl (Or.inl ⟨by kernel_rfl, fun w' hw' => by have h := hw'.1.at_ 3 _ rfl; clear hw'; go_simp⟩) hH ?_
    simp only [Act.put]
    refine tk_ (i := 4) (v := .pointer (some ⟨w.heap.size, 4, none⟩)) rfl (Or.inl ⟨by kernel_rfl, fun w' hw' => by clear hw'; go_simp⟩) hH ?_
    simp only [Act.put]
    refine tk_ (i := 5) (v := .int .i64 client) rfl (Or.inl ⟨by kernel_rfl, fun w' hw' => by have h := hw'.2.at_ 4 _ rfl; clear hw'; go_simp⟩) hH ?_
    simp only [Act.put]
    refine tk_ (i := 6) (v := .pointer (some ⟨w.heap.size, 5, none⟩)) rfl (Or.inl ⟨by kernel_rfl, fun w' hw' => by clear hw'; go_simp⟩) hH ?_
    simp only [Act.put]
    refine tk_ (i := 7) (v := .int .i64 session) rfl (Or.inl ⟨by kernel_rfl, fun w' hw' => by have h := hw'.2.at_ 5 _ rfl; clear hw'; go_simp⟩) hH ?_
    simp only [Act.put]
    refine tk_ (i := 8) (v := .pointer (some ⟨w.heap.size, 6, none⟩)) rfl (Or.inl ⟨by kernel_rfl, fun w' hw' => by clear hw'; go_simp⟩) hH ?_
    simp only [Act.put]
    refine tk_ (i := 9) (v := .int .i64 request) rfl (Or.inl ⟨by kernel_rfl, fun w' hw' => by have h := hw'.2.at_ 6 _ rfl; clear hw'; go_simp⟩) hH ?_
    simp only [Act.put]
    refine rd1 (i := 10) (by kernel_rfl) rfl (fun K hK => ?_)
    rw [if_pos (by kernel_rfl)]
    go_simp
    go_at_call 13
    obtain ⟨fq, hq, -⟩ := HGW.out
    refine (HV.out _ fq hq).mono ?_
    rintro e w6 ⟨rfl, hb⟩
    replace HGW := hid (HGW.out.below hb)
    replace HSX := hid (HSX.out.below hb HSX.out.lt)
    clear hb hq
    go_wp2_with fail
    refine hK.out _ _ ⟨HGW.out.row, (HGW.out.frame.row HE0.out HLT.out)⟩ (fun hH => ?_)
    clear hK K
    try simp only [Act.put]
    refine rd1 (i := 11) (by kernel_rfl) rfl (fun K hK => ?_)
    rw [if_pos (by kernel_rfl)]
    go_simp
    refine hK.out _ _ hH (fun hH => ?_)
    clear hK K
    try simp only [Act.put]
    refine wpAnyH_done (by kernel_rfl) ?_ _
    try simp only [Act.put]
    go_wp2_with (first
      | (refine wpList_load_row rfl 75 (.tmp 5) rfl bs rfl 75 ([.int .i64 xc, .int .i64 xs, .int .i64 xr, .int .i64 xo, .string xt] : List Value).toArray (0, 0) _ HSX.out.arr' Tryz.underlying75 rfl HZ5.out ?_)
      | (go_at_call 36; refine (HTD.out _).mono ?_; rintro e w4 ⟨rfl, hb⟩; replace HGW := hid (HGW.out.below hb); clear hb)
      | (refine wpl_store_st rfl (.tmp 4) (.tmp 109) rfl HZ.out (w.heap.size + 1) an0.cells.toList (#[.int .i64 1, .int .i64 xc, .int .i64 xs, .int .i64 xr, .int .i64 xo, .string xt] : Array Value).toList rfl rfl (HGW.out.frame.row HA0.out HLT1.out) ?_ (hid rfl) (hid rfl) (hid rfl); intro w5 hr5 hg5))
    refine bodyPost_ret (v := .agg #[.int .i64 1, .int .i64 xc, .int .i64 xs, .int .i64 xr, .int .i64 xo, .string xt])
      (results_cell_row rfl _ _ (w.heap.size + 1) 33 _ (0, 0) _ rfl hr5.arr' Tryz.underlying33 rfl HZ.out) rfl ⟨rfl, Gmw.leave HH.out HB0.out HGW.out hg5 (by omega) (by have := HSZ.out; omega)⟩
theorem rdoes_else (p ps pb : Nat) (view opn under : Int) (parent : Nat) (client session request oper : Int) (body : ByteArray) (mo mv : Int) (ms : Nat) (o2 v2 : Int) (s2 : Nat) (xc xs xr xo : Int) (xt : ByteArray) (lb : Bool) (M : Mw) (v : Int) (fp : List Nat) (w : World) (h : Gm KR.1 KR.2.1 KR.2.2 p ps pb [.int .i64 mo, .int .i64 mv, .int .u64 (ms : Int), .pointer (some ⟨ps, 0, none⟩), .pointer (some ⟨pb, 0, none⟩)] M fp w)
    (HMK : Hid (∀ W, Calls Tryz.prog 57 #[.agg #[.int .i64 view, .int .i64 opn, .int .i64 under, .int .u64 (parent : Int), .int .i64 client, .int .i64 session, .int .i64 request, .int .i64 oper, .string body]] W (VE W (.agg ([.int .i64 o2, .int .i64 v2, .int .u64 (s2 : Int)] : List Value).toArray))))
    (HL : Hid (∀ (W : World) fq, Gm KR.1 KR.2.1 KR.2.2 p ps pb [.int .i64 o2, .int .i64 v2, .int .u64 (s2 : Int), .pointer (some ⟨ps, 0, none⟩), .pointer (some ⟨pb, 0, none⟩)] M fq W → Calls Tryz.prog 35 #[.pointer (some ⟨ps, 0, none⟩), .int .i64 client] W (VE W (.tuple #[.agg ([.int .i64 xc, .int .i64 xs, .int .i64 xr, .int .i64 xo, .string xt] : List Value).toArray, .bool lb]))))
    (hop : Hid (¬ oper = 1)) (h1 : Hid ((v == 1) = false)) (h2 : Hid ((v == 2) = false)) (h5 : Hid ((v == 5) = false))
     (HV : Hid (∀ (W : World) fq, Gm KR.1 KR.2.1 KR.2.2 p ps pb [.int .i64 o2, .int .i64 v2, .int .u64 (s2 : Int), .pointer (some ⟨ps, 0, none⟩), .pointer (some ⟨pb, 0, none⟩)] M fq W → Calls Tryz.prog 13 #[.pointer (some ⟨ps, 0, none⟩), .int .i64 client, .int .i64 session, .int .i64 request] W (VE W (.int .i64 v)))) :
    Calls Tryz.prog 33 #[.pointer (some ⟨p, 0, none⟩), .agg #[.int .i64 view, .int .i64 opn, .int .i64 under, .int .u64 (parent : Int), .int .i64 client, .int .i64 session, .int .i64 request, .int .i64 oper, .string body]] w fun e w' => e = .returned (.agg #[.int .i64 0, .int .i64 0, .int .i64 0, .int .i64 0, .int .i64 0, .string ⟨#[]⟩]) ∧ Gmw KR.1 KR.2.1 KR.2.2 p ps pb w fp [.int .i64 o2, .int .i64 v2, .int .u64 (s2 : Int), .pointer (some ⟨ps, 0, none⟩), .pointer (some ⟨pb, 0, none⟩)] M w' := by
  have HB0 : Hid (Below w.heap.size w ((w.alloc (.cells #[.int .i64 view, .int .i64 opn, .int .i64 under, .int .u64 (parent : Int), .int .i64 client, .int .i64 session, .int .i64 request, .int .i64 oper, .string body] 31)).alloc (.cells #[.int .i64 0, .int .i64 0, .int .i64 0, .int .i64 0, .int .i64 0, .string ⟨#[]⟩] 33))) := hid (((Below.refl w.heap.size w).alloc (Nat.le_refl _) _).alloc (by simp) _)
  have HE0 : Hid (Row ((w.alloc (.cells #[.int .i64 view, .int .i64 opn, .int .i64 under, .int .u64 (parent : Int), .int .i64 client, .int .i64 session, .int .i64 request, .int .i64 oper, .string body] 31)).alloc (.cells #[.int .i64 0, .int .i64 0, .int .i64 0, .int .i64 0, .int .i64 0, .string ⟨#[]⟩] 33)) w.heap.size 31 (#[.int .i64 view, .int .i64 opn, .int .i64 under, .int .u64 (parent : Int), .int .i64 client, .int .i64 session, .int .i64 request, .int .i64 oper, .string body] : Array Value).toList) := hid ((Row.new _ _ _).alloc _)
  have HA0 : Hid (Row ((w.alloc (.cells #[.int .i64 view, .int .i64 opn, .int .i64 under, .int .u64 (parent : Int), .int .i64 client, .int .i64 session, .int .i64 request, .int .i64 oper, .string body] 31)).alloc (.cells #[.int .i64 0, .int .i64 0, .int .i64 0, .int .i64 0, .int .i64 0, .string ⟨#[]⟩] 33)) (w.heap.size + 1) 33 (#[.int .i64 0, .int .i64 0, .int .i64 0, .int .i64 0, .int .i64 0, .string ⟨#[]⟩] : Array Value).toList) := hid (by
    have := Row.new (w.alloc (.cells #[.int .i64 view, .int .i64 opn, .int .i64 under, .int .u64 (parent : Int), .int .i64 client, .int .i64 session, .int .i64 request, .int .i64 oper, .string body] 31)) 33 #[.int .i64 0, .int .i64 0, .int .i64 0, .int .i64 0, .int .i64 0, .string ⟨#[]⟩]
    simpa using this)
  have HSZ : Hid (((w.alloc (.cells #[.int .i64 view, .int .i64 opn, .int .i64 under, .int .u64 (parent : Int), .int .i64 client, .int .i64 session, .int .i64 request, .int .i64 oper, .string body] 31)).alloc (.cells #[.int .i64 0, .int .i64 0, .int .i64 0, .int .i64 0, .int .i64 0, .string ⟨#[]⟩] 33)).heap.size = w.heap.size + 2) := hid (by simp)
  have HG0 := hid (Gmw.start (h.below HB0.out))
  have HZ := hid asize
  have HZE := hid esize
  have HZ5 := hid ssSize
  have HZM := hid msize
  have HH := hid h
  have HLT := hid (show w.heap.size ∉ fp from fun q => by have := h.lt _ q; omega)
  have HLT1 := hid (show (w.heap.size + 1) ∉ fp from fun q => by have := h.lt _ q; omega)
  clear h
  go_enter Tryz.func33, Tryz.ntmps33
  go_wp2_with (first
    | (refine wpList_load_row rfl 31 (.tmp 3) rfl w.heap.size rfl 31 #[.int .i64 view, .int .i64 opn, .int .i64 under, .int .u64 (parent : Int), .int .i64 client, .int .i64 session, .int .i64 request, .int .i64 oper, .string body] (0, 0) _ HE0.out.arr Tryz.underlying31 rfl HZE.out ?_)
    | (go_at_call 57; refine (HMK.out _).mono ?_; rintro e w1 ⟨rfl, hb⟩; have HGW1 := hid (HG0.out.below hb); clear hb)
    | (refine wpl_store_pre rfl (.tmp 13) (.tmp 11) rfl HZM.out p [.int .i64 mo, .int .i64 mv, .int .u64 (ms : Int)] [.int .i64 o2, .int .i64 v2, .int .u64 (s2 : Int)] [.pointer (some ⟨ps, 0, none⟩), .pointer (some ⟨pb, 0, none⟩)] rfl rfl HGW1.out.row ?_ (hid rfl) (hid rfl) (hid rfl); intro w2 hr2 hg2; have HGW := hid (HGW1.out.turn (C' := [.int .i64 o2, .int .i64 v2, .int .u64 (s2 : Int), .pointer (some ⟨ps, 0, none⟩), .pointer (some ⟨pb, 0, none⟩)]) hr2 hg2); clear hr2 hg2 HGW1))
  have HLK := hid (fun W (hW : Below w2.heap.size w2 W) => (HGW.out.below hW).look HL.out)
  have HRP := hid (fun W (hW : Below w2.heap.size w2 W) => (HGW.out.below hW).row)
  have HRE := hid (fun W (hW : Below w2.heap.size w2 W) => (HGW.out.below hW).frame.row HE0.out HLT.out)
  try simp only [Act.put]
  go_cut [5, 6] (fun v b wx => ∃ bs, ∃ W1 : World, W1 = wx ∧ v = .pointer (some ⟨bs, 0, none⟩) ∧ b = .bool lb ∧ Row W1 bs 75 [.int .i64 xc, .int .i64 xs, .int .i64 xr, .int .i64 xo, .string xt] ∧ Below w2.heap.size w2 W1)
  case first =>
    refine wp_region_held_drew (S := fun W => Below w2.heap.size w2 W) (by kernel_rfl) ((Below.refl _ _).drew) (fun hH => ?_)
    refine tk_ (i := 0) (v := .pointer (some ⟨p, 0, none⟩)) rfl (Or.inl ⟨by kernel_rfl, fun w' hw' => by clear hw'; go_simp⟩) hH ?_
    simp only [Act.put]
    refine tk_ (i := 1) (v := .pointer (some ⟨p, 0, none⟩)) rfl (Or.inl ⟨by kernel_rfl, fun w' hw' => by clear hw'; go_simp⟩) hH ?_
    simp only [Act.put]
    refine tk_ (i := 2) (v := .pointer (some ⟨p, 3, none⟩)) rfl (Or.inl ⟨by kernel_rfl, fun w' hw' => by clear hw'; go_simp⟩) hH ?_
    simp only [Act.put]
    refine tk_ (i := 3) (v := .pointer (some ⟨ps, 0, none⟩)) rfl (Or.inl ⟨by kernel_rfl, fun w' hw' => by have h := (HRP.out _ hw').at_ 3 _ rfl; clear hw'; go_simp⟩) hH ?_
    simp only [Act.put]
    refine tk_ (i := 4) (v := .pointer (some ⟨w.heap.size, 4, none⟩)) rfl (Or.inl ⟨by kernel_rfl, fun w' hw' => by clear hw'; go_simp⟩) hH ?_
    simp only [Act.put]
    refine tk_ (i := 5) (v := .int .i64 client) rfl (Or.inl ⟨by kernel_rfl, fun w' hw' => by have h := (HRE.out _ hw').at_ 4 _ rfl; clear hw'; go_simp⟩) hH ?_
    simp only [Act.put]
    refine wpAnyH_ready (rs := [6, 10]) (by kernel_rfl) (by simp) ?_
    refine AllReadyH.cons rfl (fun K hK => ?_) (AllReadyH.cons rfl (fun K hK => ?_) AllReadyH.nil)
    · rw [if_pos (by kernel_rfl)]
      go_simp
      go_at_call 35
      refine (HLK.out _ hH).mono ?_
      rintro e w3 ⟨rfl, hb⟩
      have hH3 := hH.trans (Below.mono hb hH.size)
      clear hb
      go_wp2_with fail
      refine hK.out _ _ hH3 (fun hH => ?_)
      clear hH3
      clear hK K
      try simp only [Act.put]
      refine tk_ (i := 7) (v := .tuple #[.agg ([.int .i64 xc, .int .i64 xs, .int .i64 xr, .int .i64 xo, .string xt] : List Value).toArray, .bool lb]) rfl (Or.inl ⟨by kernel_rfl, fun w' hw' => by clear hw'; go_simp⟩) hH ?_
      simp only [Act.put]
      refine tk_ (i := 8) (v := .agg ([.int .i64 xc, .int .i64 xs, .int .i64 xr, .int .i64 xo, .string xt] : List Value).toArray) rfl (Or.inl ⟨by kernel_rfl, fun w' hw' => by clear hw'; go_simp⟩) hH ?_
      simp only [Act.put]
      refine tk_ (i := 9) (v := .bool lb) rfl (Or.inl ⟨by kernel_rfl, fun w' hw' => by clear hw'; go_simp⟩) hH ?_
      simp only [Act.put]
      refine rd1 (i := 10) (by kernel_rfl) rfl (fun K hK => ?_)
      rw [if_pos (by kernel_rfl)]
      go_simp
      have HSX := hid (show Row ((w3).alloc (.cells #[.int .i64 0, .int .i64 0, .int .i64 0, .int .i64 0, .string ⟨#[]⟩] 75)) (w3).heap.size 75 ss0.cells from Row.new (w3) 75 #[.int .i64 0, .int .i64 0, .int .i64 0, .int .i64 0, .string ⟨#[]⟩])
      have HLB := hid (show w2.heap.size ≤ (w3).heap.size from hH.size)
      refine hK.out _ _ (hH.alloc hH.size _) (fun hH => ?_)
      clear hK K
      try simp only [Act.put]
      refine rd1 (i := 11) (by kernel_rfl) rfl (fun K hK => ?_)
      rw [if_pos (by kernel_rfl)]
      refine wp_store_stL (.tmp 5) (.tmp 22) rfl HZ5.out _ ss0.cells [.int .i64 xc, .int .i64 xs, .int .i64 xr, .int .i64 xo, .string xt] rfl rfl HSX.out rfl rfl rfl (fun W9 hr9 hg9 => ?_)
      have hb9 := hH.trans (below_grown hg9 HLB.out hH.size)
      refine hK.out _ _ hb9 (fun hH => ?_)
      clear hK K
      try simp only [Act.put]
      refine rd1 (i := 12) (by kernel_rfl) rfl (fun K hK => ?_)
      rw [if_pos (by kernel_rfl)]
      go_simp
      refine hK.out _ _ hH (fun hH => ?_)
      clear hK K
      try simp only [Act.put]
      refine wpAnyH_done (by kernel_rfl) ?_ _
      try simp only [Act.put]
      go_wp2_with fail
      go_meet
      case rel => exact ⟨_, _, rfl, rfl, rfl, hr9, hH⟩
    · rw [if_pos (by kernel_rfl)]
      go_simp
      have HSX := hid (show Row ((w2.drew).alloc (.cells #[.int .i64 0, .int .i64 0, .int .i64 0, .int .i64 0, .string ⟨#[]⟩] 75)) (w2.drew).heap.size 75 ss0.cells from Row.new (w2.drew) 75 #[.int .i64 0, .int .i64 0, .int .i64 0, .int .i64 0, .string ⟨#[]⟩])
      have HLB := hid (show w2.heap.size ≤ (w2.drew).heap.size from hH.size)
      refine hK.out _ _ (hH.alloc hH.size _) (fun hH => ?_)
      clear hK K
      try simp only [Act.put]
      refine rd1 (i := 6) (by kernel_rfl) rfl (fun K hK => ?_)
      rw [if_pos (by kernel_rfl)]
      go_simp
      go_at_call 35
      refine (HLK.out _ hH).mono ?_
      rintro e w3 ⟨rfl, hb⟩
      replace HSX := hid (HSX.out.below hb HSX.out.lt)
      have hH3 := hH.trans (Below.mono hb hH.size)
      clear hb
      go_wp2_with fail
      refine hK.out _ _ hH3 (fun hH => ?_)
      clear hH3
      clear hK K
      try simp only [Act.put]
      refine tk_ (i := 7) (v := .tuple #[.agg ([.int .i64 xc, .int .i64 xs, .int .i64 xr, .int .i64 xo, .string xt] : List Value).toArray, .bool lb]) rfl (Or.inl ⟨by kernel_rfl, fun w' hw' => by clear hw'; go_simp⟩) hH ?_
      simp only [Act.put]
      refine tk_ (i := 8) (v := .agg ([.int .i64 xc, .int .i64 xs, .int .i64 xr, .int .i64 xo, .string xt] : List Value).toArray) rfl (Or.inl ⟨by kernel_rfl, fun w' hw' => by clear hw'; go_simp⟩) hH ?_
      simp only [Act.put]
      refine tk_ (i := 9) (v := .bool lb) rfl (Or.inl ⟨by kernel_rfl, fun w' hw' => by clear hw'; go_simp⟩) hH ?_
      simp only [Act.put]
      refine rd1 (i := 11) (by kernel_rfl) rfl (fun K hK => ?_)
      rw [if_pos (by kernel_rfl)]
      refine wp_store_stL (.tmp 5) (.tmp 22) rfl HZ5.out _ ss0.cells [.int .i64 xc, .int .i64 xs, .int .i64 xr, .int .i64 xo, .string xt] rfl rfl HSX.out rfl rfl rfl (fun W9 hr9 hg9 => ?_)
      have hb9 := hH.trans (below_grown hg9 HLB.out hH.size)
      refine hK.out _ _ hb9 (fun hH => ?_)
      clear hK K
      try simp only [Act.put]
      refine rd1 (i := 12) (by kernel_rfl) rfl (fun K hK => ?_)
      rw [if_pos (by kernel_rfl)]
      go_simp
      refine hK.out _ _ hH (fun hH => ?_)
      clear hK K
      try simp only [Act.put]
      refine wpAnyH_done (by kernel_rfl) ?_ _
      try simp only [Act.put]
      go_wp2_with fail
      go_meet
      case rel => exact ⟨_, _, rfl, rfl, rfl, hr9, hH⟩
  case rest =>
    obtain ⟨bs, W3, rfl, rfl, rfl, hsx, hbx⟩ := hcut
    have HSX := hid hsx
    replace HGW := hid (HGW.out.below hbx)
    clear hsx hbx HLK HRP HRE
    have hop1 : (oper == 1) = false := by simp [hop.out]
    have e7 := (HGW.out.frame.row HE0.out HLT.out).at_ 7 _ rfl
    go_wp2_with fail
    try simp only [Act.put]
    refine wp_region_held_drew (S := fun W => Row W p 45 [.int .i64 o2, .int .i64 v2, .int .u64 (s2 : Int), .pointer (some ⟨ps, 0, none⟩), .pointer (some ⟨pb, 0, none⟩)] ∧ Row W w.heap.size 31 (#[.int .i64 view, .int .i64 opn, .int .i64 under, .int .u64 (parent : Int), .int .i64 client, .int .i64 session, .int .i64 request, .int .i64 oper, .string body] : Array Value).toList) (by kernel_rfl) ⟨HGW.out.row.drew, (HGW.out.frame.row HE0.out HLT.out).drew⟩ (fun hH => ?_)
    replace HGW := hid (HGW.out.below (below_drewN (Below.refl _ _) 1))
    replace HSX := hid (HSX.out.below (below_drewN (Below.refl _ _) 1) HSX.out.lt)
    refine tk_ (i := 0) (v := .pointer (some ⟨p, 0, none⟩)) rfl (Or.inl ⟨by kernel_rfl, fun w' hw' => by clear hw'; go_simp⟩) hH ?_
    simp only [Act.put]
    refine tk_ (i := 1) (v := .pointer (some ⟨p, 0, none⟩)) rfl (Or.inl ⟨by kernel_rfl, fun w' hw' => by clear hw'; go_simp⟩) hH ?_
    simp only [Act.put]
    refine tk_ (i := 2) (v := .pointer (some ⟨p, 3, none⟩)) rfl (Or.inl ⟨by kernel_rfl, fun w' hw' => by clear hw'; go_simp⟩) hH ?_
    simp only [Act.put]
    refine tk_ (i := 3) (v := .pointer (some ⟨ps, 0, none⟩)) rfl (Or.inl ⟨by kernel_rfl, fun w' hw' => by have h := hw'.1.at_ 3 _ rfl; clear hw'; go_simp⟩) hH ?_
    simp only [Act.put]
    refine tk_ (i := 4) (v := .pointer (some ⟨w.heap.size, 4, none⟩)) rfl (Or.inl ⟨by kernel_rfl, fun w' hw' => by clear hw'; go_simp⟩) hH ?_
    simp only [Act.put]
    refine tk_ (i := 5) (v := .int .i64 client) rfl (Or.inl ⟨by kernel_rfl, fun w' hw' => by have h := hw'.2.at_ 4 _ rfl; clear hw'; go_simp⟩) hH ?_
    simp only [Act.put]
    refine tk_ (i := 6) (v := .pointer (some ⟨w.heap.size, 5, none⟩)) rfl (Or.inl ⟨by kernel_rfl, fun w' hw' => by clear hw'; go_simp⟩) hH ?_
    simp only [Act.put]
    refine tk_ (i := 7) (v := .int .i64 session) rfl (Or.inl ⟨by kernel_rfl, fun w' hw' => by have h := hw'.2.at_ 5 _ rfl; clear hw'; go_simp⟩) hH ?_
    simp only [Act.put]
    refine tk_ (i := 8) (v := .pointer (some ⟨w.heap.size, 6, none⟩)) rfl (Or.inl ⟨by kernel_rfl, fun w' hw' => by clear hw'; go_simp⟩) hH ?_
    simp only [Act.put]
    refine tk_ (i := 9) (v := .int .i64 request) rfl (Or.inl ⟨by kernel_rfl, fun w' hw' => by have h := hw'.2.at_ 6 _ rfl; clear hw'; go_simp⟩) hH ?_
    simp only [Act.put]
    refine rd1 (i := 10) (by kernel_rfl) rfl (fun K hK => ?_)
    rw [if_pos (by kernel_rfl)]
    go_simp
    go_at_call 13
    obtain ⟨fq, hq, -⟩ := HGW.out
    refine (HV.out _ fq hq).mono ?_
    rintro e w6 ⟨rfl, hb⟩
    replace HGW := hid (HGW.out.below hb)
    replace HSX := hid (HSX.out.below hb HSX.out.lt)
    clear hb hq
    go_wp2_with fail
    refine hK.out _ _ ⟨HGW.out.row, (HGW.out.frame.row HE0.out HLT.out)⟩ (fun hH => ?_)
    clear hK K
    try simp only [Act.put]
    refine rd1 (i := 11) (by kernel_rfl) rfl (fun K hK => ?_)
    rw [if_pos (by kernel_rfl)]
    go_simp
    refine hK.out _ _ hH (fun hH => ?_)
    clear hK K
    try simp only [Act.put]
    refine wpAnyH_done (by kernel_rfl) ?_ _
    try simp only [Act.put]
    have q1 := h1.out
    have q2 := h2.out
    have q5 := h5.out
    go_wp2_with (first
      | (refine wpl_store_st rfl (.tmp 4) (.tmp 110) rfl HZ.out (w.heap.size + 1) an0.cells.toList (#[.int .i64 0, .int .i64 0, .int .i64 0, .int .i64 0, .int .i64 0, .string ⟨#[]⟩] : Array Value).toList rfl rfl (HGW.out.frame.row HA0.out HLT1.out) ?_ (hid rfl) (hid rfl) (hid rfl); intro w5 hr5 hg5))
    refine bodyPost_ret (v := .agg #[.int .i64 0, .int .i64 0, .int .i64 0, .int .i64 0, .int .i64 0, .string ⟨#[]⟩])
      (results_cell_row rfl _ _ (w.heap.size + 1) 33 _ (0, 0) _ rfl hr5.arr' Tryz.underlying33 rfl HZ.out) rfl ⟨rfl, Gmw.leave HH.out HB0.out HGW.out hg5 (by omega) (by have := HSZ.out; omega)⟩
theorem rdoes_fresh (p ps pb : Nat) (view opn under : Int) (parent : Nat) (client session request oper : Int) (body : ByteArray) (mo mv : Int) (ms : Nat) (o2 v2 : Int) (s2 : Nat) (xc xs xr xo : Int) (xt : ByteArray) (lb : Bool) (M M1 M2 : Mw) (ans : ByteArray) (ne : Int) (fp : List Nat) (w : World) (h : Gm KR.1 KR.2.1 KR.2.2 p ps pb [.int .i64 mo, .int .i64 mv, .int .u64 (ms : Int), .pointer (some ⟨ps, 0, none⟩), .pointer (some ⟨pb, 0, none⟩)] M fp w)
    (HMK : Hid (∀ W, Calls Tryz.prog 57 #[.agg #[.int .i64 view, .int .i64 opn, .int .i64 under, .int .u64 (parent : Int), .int .i64 client, .int .i64 session, .int .i64 request, .int .i64 oper, .string body]] W (VE W (.agg ([.int .i64 o2, .int .i64 v2, .int .u64 (s2 : Int)] : List Value).toArray))))
    (HL : Hid (∀ (W : World) fq, Gm KR.1 KR.2.1 KR.2.2 p ps pb [.int .i64 o2, .int .i64 v2, .int .u64 (s2 : Int), .pointer (some ⟨ps, 0, none⟩), .pointer (some ⟨pb, 0, none⟩)] M fq W → Calls Tryz.prog 35 #[.pointer (some ⟨ps, 0, none⟩), .int .i64 client] W (VE W (.tuple #[.agg ([.int .i64 xc, .int .i64 xs, .int .i64 xr, .int .i64 xo, .string xt] : List Value).toArray, .bool lb]))))
    (hop : Hid (¬ oper = 1))
     (HV : Hid (∀ (W : World) fq, Gm KR.1 KR.2.1 KR.2.2 p ps pb [.int .i64 o2, .int .i64 v2, .int .u64 (s2 : Int), .pointer (some ⟨ps, 0, none⟩), .pointer (some ⟨pb, 0, none⟩)] M fq W → Calls Tryz.prog 13 #[.pointer (some ⟨ps, 0, none⟩), .int .i64 client, .int .i64 session, .int .i64 request] W (VE W (.int .i64 1))))
     (HD : Hid (∀ (W : World) fq, Gm KR.1 KR.2.1 KR.2.2 p ps pb [.int .i64 o2, .int .i64 v2, .int .u64 (s2 : Int), .pointer (some ⟨ps, 0, none⟩), .pointer (some ⟨pb, 0, none⟩)] M fq W → Calls Tryz.prog 59 #[.pointer (some ⟨pb, 0, none⟩), .int .i64 oper, .string body] W fun e w' => e = .returned (.string ans) ∧ Gmw KR.1 KR.2.1 KR.2.2 p ps pb W fq [.int .i64 o2, .int .i64 v2, .int .u64 (s2 : Int), .pointer (some ⟨ps, 0, none⟩), .pointer (some ⟨pb, 0, none⟩)] M1 w'))
     (HT : Hid (∀ (W : World) fq, Gm KR.1 KR.2.1 KR.2.2 p ps pb [.int .i64 o2, .int .i64 v2, .int .u64 (s2 : Int), .pointer (some ⟨ps, 0, none⟩), .pointer (some ⟨pb, 0, none⟩)] M1 fq W → Calls Tryz.prog 60 #[.pointer (some ⟨ps, 0, none⟩), .int .i64 client, .int .i64 request, .int .i64 opn, .string ans] W fun e w' => e = .returned (.int .i64 ne) ∧ Gmw KR.1 KR.2.1 KR.2.2 p ps pb W fq [.int .i64 o2, .int .i64 v2, .int .u64 (s2 : Int), .pointer (some ⟨ps, 0, none⟩), .pointer (some ⟨pb, 0, none⟩)] M2 w')) :
    Calls Tryz.prog 33 #[.pointer (some ⟨p, 0, none⟩), .agg #[.int .i64 view, .int .i64 opn, .int .i64 under, .int .u64 (parent : Int), .int .i64 client, .int .i64 session, .int .i64 request, .int .i64 oper, .string body]] w fun e w' => e = .returned (.agg #[.int .i64 1, .int .i64 client, .int .i64 session, .int .i64 request, .int .i64 opn, .string ans]) ∧ Gmw KR.1 KR.2.1 KR.2.2 p ps pb w fp [.int .i64 o2, .int .i64 v2, .int .u64 (s2 : Int), .pointer (some ⟨ps, 0, none⟩), .pointer (some ⟨pb, 0, none⟩)] M2 w' := by
  have HB0 : Hid (Below w.heap.size w ((w.alloc (.cells #[.int .i64 view, .int .i64 opn, .int .i64 under, .int .u64 (parent : Int), .int .i64 client, .int .i64 session, .int .i64 request, .int .i64 oper, .string body] 31)).alloc (.cells #[.int .i64 0, .int .i64 0, .int .i64 0, .int .i64 0, .int .i64 0, .string ⟨#[]⟩] 33))) := hid (((Below.refl w.heap.size w).alloc (Nat.le_refl _) _).alloc (by simp) _)
  have HE0 : Hid (Row ((w.alloc (.cells #[.int .i64 view, .int .i64 opn, .int .i64 under, .int .u64 (parent : Int), .int .i64 client, .int .i64 session, .int .i64 request, .int .i64 oper, .string body] 31)).alloc (.cells #[.int .i64 0, .int .i64 0, .int .i64 0, .int .i64 0, .int .i64 0, .string ⟨#[]⟩] 33)) w.heap.size 31 (#[.int .i64 view, .int .i64 opn, .int .i64 under, .int .u64 (parent : Int), .int .i64 client, .int .i64 session, .int .i64 request, .int .i64 oper, .string body] : Array Value).toList) := hid ((Row.new _ _ _).alloc _)
  have HA0 : Hid (Row ((w.alloc (.cells #[.int .i64 view, .int .i64 opn, .int .i64 under, .int .u64 (parent : Int), .int .i64 client, .int .i64 session, .int .i64 request, .int .i64 oper, .string body] 31)).alloc (.cells #[.int .i64 0, .int .i64 0, .int .i64 0, .int .i64 0, .int .i64 0, .string ⟨#[]⟩] 33)) (w.heap.size + 1) 33 (#[.int .i64 0, .int .i64 0, .int .i64 0, .int .i64 0, .int .i64 0, .string ⟨#[]⟩] : Array Value).toList) := hid (by
    have := Row.new (w.alloc (.cells #[.int .i64 view, .int .i64 opn, .int .i64 under, .int .u64 (parent : Int), .int .i64 client, .int .i64 session, .int .i64 request, .int .i64 oper, .string body] 31)) 33 #[.int .i64 0, .int .i64 0, .int .i64 0, .int .i64 0, .int .i64 0, .string ⟨#[]⟩]
    simpa using this)
  have HSZ : Hid (((w.alloc (.cells #[.int .i64 view, .int .i64 opn, .int .i64 under, .int .u64 (parent : Int), .int .i64 client, .int .i64 session, .int .i64 request, .int .i64 oper, .string body] 31)).alloc (.cells #[.int .i64 0, .int .i64 0, .int .i64 0, .int .i64 0, .int .i64 0, .string ⟨#[]⟩] 33)).heap.size = w.heap.size + 2) := hid (by simp)
  have HG0 := hid (Gmw.start (h.below HB0.out))
  have HZ := hid asize
  have HZE := hid esize
  have HZ5 := hid ssSize
  have HZM := hid msize
  have HH := hid h
  have HLT := hid (show w.heap.size ∉ fp from fun q => by have := h.lt _ q; omega)
  have HLT1 := hid (show (w.heap.size + 1) ∉ fp from fun q => by have := h.lt _ q; omega)
  clear h
  go_enter Tryz.func33, Tryz.ntmps33
  go_wp2_with (first
    | (refine wpList_load_row rfl 31 (.tmp 3) rfl w.heap.size rfl 31 #[.int .i64 view, .int .i64 opn, .int .i64 under, .int .u64 (parent : Int), .int .i64 client, .int .i64 session, .int .i64 request, .int .i64 oper, .string body] (0, 0) _ HE0.out.arr Tryz.underlying31 rfl HZE.out ?_)
    | (go_at_call 57; refine (HMK.out _).mono ?_; rintro e w1 ⟨rfl, hb⟩; have HGW1 := hid (HG0.out.below hb); clear hb)
    | (refine wpl_store_pre rfl (.tmp 13) (.tmp 11) rfl HZM.out p [.int .i64 mo, .int .i64 mv, .int .u64 (ms : Int)] [.int .i64 o2, .int .i64 v2, .int .u64 (s2 : Int)] [.pointer (some ⟨ps, 0, none⟩), .pointer (some ⟨pb, 0, none⟩)] rfl rfl HGW1.out.row ?_ (hid rfl) (hid rfl) (hid rfl); intro w2 hr2 hg2; have HGW := hid (HGW1.out.turn (C' := [.int .i64 o2, .int .i64 v2, .int .u64 (s2 : Int), .pointer (some ⟨ps, 0, none⟩), .pointer (some ⟨pb, 0, none⟩)]) hr2 hg2); clear hr2 hg2 HGW1))
  have HLK := hid (fun W (hW : Below w2.heap.size w2 W) => (HGW.out.below hW).look HL.out)
  have HRP := hid (fun W (hW : Below w2.heap.size w2 W) => (HGW.out.below hW).row)
  have HRE := hid (fun W (hW : Below w2.heap.size w2 W) => (HGW.out.below hW).frame.row HE0.out HLT.out)
  try simp only [Act.put]
  go_cut [5, 6] (fun v b wx => ∃ bs, ∃ W1 : World, W1 = wx ∧ v = .pointer (some ⟨bs, 0, none⟩) ∧ b = .bool lb ∧ Row W1 bs 75 [.int .i64 xc, .int .i64 xs, .int .i64 xr, .int .i64 xo, .string xt] ∧ Below w2.heap.size w2 W1)
  case first =>
    refine wp_region_held_drew (S := fun W => Below w2.heap.size w2 W) (by kernel_rfl) ((Below.refl _ _).drew) (fun hH => ?_)
    refine tk_ (i := 0) (v := .pointer (some ⟨p, 0, none⟩)) rfl (Or.inl ⟨by kernel_rfl, fun w' hw' => by clear hw'; go_simp⟩) hH ?_
    simp only [Act.put]
    refine tk_ (i := 1) (v := .pointer (some ⟨p, 0, none⟩)) rfl (Or.inl ⟨by kernel_rfl, fun w' hw' => by clear hw'; go_simp⟩) hH ?_
    simp only [Act.put]
    refine tk_ (i := 2) (v := .pointer (some ⟨p, 3, none⟩)) rfl (Or.inl ⟨by kernel_rfl, fun w' hw' => by clear hw'; go_simp⟩) hH ?_
    simp only [Act.put]
    refine tk_ (i := 3) (v := .pointer (some ⟨ps, 0, none⟩)) rfl (Or.inl ⟨by kernel_rfl, fun w' hw' => by have h := (HRP.out _ hw').at_ 3 _ rfl; clear hw'; go_simp⟩) hH ?_
    simp only [Act.put]
    refine tk_ (i := 4) (v := .pointer (some ⟨w.heap.size, 4, none⟩)) rfl (Or.inl ⟨by kernel_rfl, fun w' hw' => by clear hw'; go_simp⟩) hH ?_
    simp only [Act.put]
    refine tk_ (i := 5) (v := .int .i64 client) rfl (Or.inl ⟨by kernel_rfl, fun w' hw' => by have h := (HRE.out _ hw').at_ 4 _ rfl; clear hw'; go_simp⟩) hH ?_
    simp only [Act.put]
    refine wpAnyH_ready (rs := [6, 10]) (by kernel_rfl) (by simp) ?_
    refine AllReadyH.cons rfl (fun K hK => ?_) (AllReadyH.cons rfl (fun K hK => ?_) AllReadyH.nil)
    · rw [if_pos (by kernel_rfl)]
      go_simp
      go_at_call 35
      refine (HLK.out _ hH).mono ?_
      rintro e w3 ⟨rfl, hb⟩
      have hH3 := hH.trans (Below.mono hb hH.size)
      clear hb
      go_wp2_with fail
      refine hK.out _ _ hH3 (fun hH => ?_)
      clear hH3
      clear hK K
      try simp only [Act.put]
      refine tk_ (i := 7) (v := .tuple #[.agg ([.int .i64 xc, .int .i64 xs, .int .i64 xr, .int .i64 xo, .string xt] : List Value).toArray, .bool lb]) rfl (Or.inl ⟨by kernel_rfl, fun w' hw' => by clear hw'; go_simp⟩) hH ?_
      simp only [Act.put]
      refine tk_ (i := 8) (v := .agg ([.int .i64 xc, .int .i64 xs, .int .i64 xr, .int .i64 xo, .string xt] : List Value).toArray) rfl (Or.inl ⟨by kernel_rfl, fun w' hw' => by clear hw'; go_simp⟩) hH ?_
      simp only [Act.put]
      refine tk_ (i := 9) (v := .bool lb) rfl (Or.inl ⟨by kernel_rfl, fun w' hw' => by clear hw'; go_simp⟩) hH ?_
      simp only [Act.put]
      refine rd1 (i := 10) (by kernel_rfl) rfl (fun K hK => ?_)
      rw [if_pos (by kernel_rfl)]
      go_simp
      have HSX := hid (show Row ((w3).alloc (.cells #[.int .i64 0, .int .i64 0, .int .i64 0, .int .i64 0, .string ⟨#[]⟩] 75)) (w3).heap.size 75 ss0.cells from Row.new (w3) 75 #[.int .i64 0, .int .i64 0, .int .i64 0, .int .i64 0, .string ⟨#[]⟩])
      have HLB := hid (show w2.heap.size ≤ (w3).heap.size from hH.size)
      refine hK.out _ _ (hH.alloc hH.size _) (fun hH => ?_)
      clear hK K
      try simp only [Act.put]
      refine rd1 (i := 11) (by kernel_rfl) rfl (fun K hK => ?_)
      rw [if_pos (by kernel_rfl)]
      refine wp_store_stL (.tmp 5) (.tmp 22) rfl HZ5.out _ ss0.cells [.int .i64 xc, .int .i64 xs, .int .i64 xr, .int .i64 xo, .string xt] rfl rfl HSX.out rfl rfl rfl (fun W9 hr9 hg9 => ?_)
      have hb9 := hH.trans (below_grown hg9 HLB.out hH.size)
      refine hK.out _ _ hb9 (fun hH => ?_)
      clear hK K
      try simp only [Act.put]
      refine rd1 (i := 12) (by kernel_rfl) rfl (fun K hK => ?_)
      rw [if_pos (by kernel_rfl)]
      go_simp
      refine hK.out _ _ hH (fun hH => ?_)
      clear hK K
      try simp only [Act.put]
      refine wpAnyH_done (by kernel_rfl) ?_ _
      try simp only [Act.put]
      go_wp2_with fail
      go_meet
      case rel => exact ⟨_, _, rfl, rfl, rfl, hr9, hH⟩
    · rw [if_pos (by kernel_rfl)]
      go_simp
      have HSX := hid (show Row ((w2.drew).alloc (.cells #[.int .i64 0, .int .i64 0, .int .i64 0, .int .i64 0, .string ⟨#[]⟩] 75)) (w2.drew).heap.size 75 ss0.cells from Row.new (w2.drew) 75 #[.int .i64 0, .int .i64 0, .int .i64 0, .int .i64 0, .string ⟨#[]⟩])
      have HLB := hid (show w2.heap.size ≤ (w2.drew).heap.size from hH.size)
      refine hK.out _ _ (hH.alloc hH.size _) (fun hH => ?_)
      clear hK K
      try simp only [Act.put]
      refine rd1 (i := 6) (by kernel_rfl) rfl (fun K hK => ?_)
      rw [if_pos (by kernel_rfl)]
      go_simp
      go_at_call 35
      refine (HLK.out _ hH).mono ?_
      rintro e w3 ⟨rfl, hb⟩
      replace HSX := hid (HSX.out.below hb HSX.out.lt)
      have hH3 := hH.trans (Below.mono hb hH.size)
      clear hb
      go_wp2_with fail
      refine hK.out _ _ hH3 (fun hH => ?_)
      clear hH3
      clear hK K
      try simp only [Act.put]
      refine tk_ (i := 7) (v := .tuple #[.agg ([.int .i64 xc, .int .i64 xs, .int .i64 xr, .int .i64 xo, .string xt] : List Value).toArray, .bool lb]) rfl (Or.inl ⟨by kernel_rfl, fun w' hw' => by clear hw'; go_simp⟩) hH ?_
      simp only [Act.put]
      refine tk_ (i := 8) (v := .agg ([.int .i64 xc, .int .i64 xs, .int .i64 xr, .int .i64 xo, .string xt] : List Value).toArray) rfl (Or.inl ⟨by kernel_rfl, fun w' hw' => by clear hw'; go_simp⟩) hH ?_
      simp only [Act.put]
      refine tk_ (i := 9) (v := .bool lb) rfl (Or.inl ⟨by kernel_rfl, fun w' hw' => by clear hw'; go_simp⟩) hH ?_
      simp only [Act.put]
      refine rd1 (i := 11) (by kernel_rfl) rfl (fun K hK => ?_)
      rw [if_pos (by kernel_rfl)]
      refine wp_store_stL (.tmp 5) (.tmp 22) rfl HZ5.out _ ss0.cells [.int .i64 xc, .int .i64 xs, .int .i64 xr, .int .i64 xo, .string xt] rfl rfl HSX.out rfl rfl rfl (fun W9 hr9 hg9 => ?_)
      have hb9 := hH.trans (below_grown hg9 HLB.out hH.size)
      refine hK.out _ _ hb9 (fun hH => ?_)
      clear hK K
      try simp only [Act.put]
      refine rd1 (i := 12) (by kernel_rfl) rfl (fun K hK => ?_)
      rw [if_pos (by kernel_rfl)]
      go_simp
      refine hK.out _ _ hH (fun hH => ?_)
      clear hK K
      try simp only [Act.put]
      refine wpAnyH_done (by kernel_rfl) ?_ _
      try simp only [Act.put]
      go_wp2_with fail
      go_meet
      case rel => exact ⟨_, _, rfl, rfl, rfl, hr9, hH⟩
  case rest =>
    obtain ⟨bs, W3, rfl, rfl, rfl, hsx, hbx⟩ := hcut
    have HSX := hid hsx
    replace HGW := hid (HGW.out.below hbx)
    clear hsx hbx HLK HRP HRE
    have hop1 : (oper == 1) = false := by simp [hop.out]
    have e7 := (HGW.out.frame.row HE0.out HLT.out).at_ 7 _ rfl
    go_wp2_with fail
    try simp only [Act.put]
    refine wp_region_held_drew (S := fun W => Row W p 45 [.int .i64 o2, .int .i64 v2, .int .u64 (s2 : Int), .pointer (some ⟨ps, 0, none⟩), .pointer (some ⟨pb, 0, none⟩)] ∧ Row W w.heap.size 31 (#[.int .i64 view, .int .i64 opn, .int .i64 under, .int .u64 (parent : Int), .int .i64 client, .int .i64 session, .int .i64 request, .int .i64 oper, .string body] : Array Value).toList) (by kernel_rfl) ⟨HGW.out.row.drew, (HGW.out.frame.row HE0.out HLT.out).drew⟩ (fun hH => ?_)
    replace HGW := hid (HGW.out.below (below_drewN (Below.refl _ _) 1))
    replace HSX := hid (HSX.out.below (below_drewN (Below.refl _ _) 1) HSX.out.lt)
    refine tk_ (i := 0) (v := .pointer (some ⟨p, 0, none⟩)) rfl (Or.inl ⟨by kernel_rfl, fun w' hw' => by clear hw'; go_simp⟩) hH ?_
    simp only [Act.put]
    refine tk_ (i := 1) (v := .pointer (some ⟨p, 0, none⟩)) rfl (Or.inl ⟨by kernel_rfl, fun w' hw' => by clear hw'; go_simp⟩) hH ?_
    simp only [Act.put]
    refine tk_ (i := 2) (v := .pointer (some ⟨p, 3, none⟩)) rfl (Or.inl ⟨by kernel_rfl, fun w' hw' => by clear hw'; go_simp⟩) hH ?_
    simp only [Act.put]
    refine tk_ (i := 3) (v := .pointer (some ⟨ps, 0, none⟩)) rfl (Or.inl ⟨by kernel_rfl, fun w' hw' => by have h := hw'.1.at_ 3 _ rfl; clear hw'; go_simp⟩) hH ?_
    simp only [Act.put]
    refine tk_ (i := 4) (v := .pointer (some ⟨w.heap.size, 4, none⟩)) rfl (Or.inl ⟨by kernel_rfl, fun w' hw' => by clear hw'; go_simp⟩) hH ?_
    simp only [Act.put]
    refine tk_ (i := 5) (v := .int .i64 client) rfl (Or.inl ⟨by kernel_rfl, fun w' hw' => by have h := hw'.2.at_ 4 _ rfl; clear hw'; go_simp⟩) hH ?_
    simp only [Act.put]
    refine tk_ (i := 6) (v := .pointer (some ⟨w.heap.size, 5, none⟩)) rfl (Or.inl ⟨by kernel_rfl, fun w' hw' => by clear hw'; go_simp⟩) hH ?_
    simp only [Act.put]
    refine tk_ (i := 7) (v := .int .i64 session) rfl (Or.inl ⟨by kernel_rfl, fun w' hw' => by have h := hw'.2.at_ 5 _ rfl; clear hw'; go_simp⟩) hH ?_
    simp only [Act.put]
    refine tk_ (i := 8) (v := .pointer (some ⟨w.heap.size, 6, none⟩)) rfl (Or.inl ⟨by kernel_rfl, fun w' hw' => by clear hw'; go_simp⟩) hH ?_
    simp only [Act.put]
    refine tk_ (i := 9) (v := .int .i64 request) rfl (Or.inl ⟨by kernel_rfl, fun w' hw' => by have h := hw'.2.at_ 6 _ rfl; clear hw'; go_simp⟩) hH ?_
    simp only [Act.put]
    refine rd1 (i := 10) (by kernel_rfl) rfl (fun K hK => ?_)
    rw [if_pos (by kernel_rfl)]
    go_simp
    go_at_call 13
    obtain ⟨fq, hq, -⟩ := HGW.out
    refine (HV.out _ fq hq).mono ?_
    rintro e w6 ⟨rfl, hb⟩
    replace HGW := hid (HGW.out.below hb)
    replace HSX := hid (HSX.out.below hb HSX.out.lt)
    clear hb hq
    go_wp2_with fail
    refine hK.out _ _ ⟨HGW.out.row, (HGW.out.frame.row HE0.out HLT.out)⟩ (fun hH => ?_)
    clear hK K
    try simp only [Act.put]
    refine rd1 (i := 11) (by kernel_rfl) rfl (fun K hK => ?_)
    rw [if_pos (by kernel_rfl)]
    go_simp
    refine hK.out _ _ hH (fun hH => ?_)
    clear hK K
    try simp only [Act.put]
    refine wpAnyH_done (by kernel_rfl) ?_ _
    try simp only [Act.put]
    go_wp2_with fail
    try simp only [Act.put]
    refine wp_region_held_drew (S := fun W => Row W p 45 [.int .i64 o2, .int .i64 v2, .int .u64 (s2 : Int), .pointer (some ⟨ps, 0, none⟩), .pointer (some ⟨pb, 0, none⟩)] ∧ Row W w.heap.size 31 (#[.int .i64 view, .int .i64 opn, .int .i64 under, .int .u64 (parent : Int), .int .i64 client, .int .i64 session, .int .i64 request, .int .i64 oper, .string body] : Array Value).toList) (by kernel_rfl) ⟨HGW.out.row.drew, (HGW.out.frame.row HE0.out HLT.out).drew⟩ (fun hH => ?_)
    replace HGW := hid (HGW.out.below (below_drewN (Below.refl _ _) 1))
    refine tk_ (i := 0) (v := .pointer (some ⟨p, 0, none⟩)) rfl (Or.inl ⟨by kernel_rfl, fun w' hw' => by clear hw'; go_simp⟩) hH ?_
    simp only [Act.put]
    refine tk_ (i := 1) (v := .pointer (some ⟨p, 0, none⟩)) rfl (Or.inl ⟨by kernel_rfl, fun w' hw' => by clear hw'; go_simp⟩) hH ?_
    simp only [Act.put]
    refine tk_ (i := 2) (v := .pointer (some ⟨p, 4, none⟩)) rfl (Or.inl ⟨by kernel_rfl, fun w' hw' => by clear hw'; go_simp⟩) hH ?_
    simp only [Act.put]
    refine tk_ (i := 3) (v := .pointer (some ⟨pb, 0, none⟩)) rfl (Or.inl ⟨by kernel_rfl, fun w' hw' => by have h := hw'.1.at_ 4 _ rfl; clear hw'; go_simp⟩) hH ?_
    simp only [Act.put]
    refine tk_ (i := 4) (v := .pointer (some ⟨w.heap.size, 7, none⟩)) rfl (Or.inl ⟨by kernel_rfl, fun w' hw' => by clear hw'; go_simp⟩) hH ?_
    simp only [Act.put]
    refine tk_ (i := 5) (v := .int .i64 oper) rfl (Or.inl ⟨by kernel_rfl, fun w' hw' => by have h := hw'.2.at_ 7 _ rfl; clear hw'; go_simp⟩) hH ?_
    simp only [Act.put]
    refine tk_ (i := 6) (v := .pointer (some ⟨w.heap.size, 8, none⟩)) rfl (Or.inl ⟨by kernel_rfl, fun w' hw' => by clear hw'; go_simp⟩) hH ?_
    simp only [Act.put]
    refine tk_ (i := 7) (v := .string body) rfl (Or.inl ⟨by kernel_rfl, fun w' hw' => by have h := hw'.2.at_ 8 _ rfl; clear hw'; go_simp⟩) hH ?_
    simp only [Act.put]
    refine rd1 (i := 8) (by kernel_rfl) rfl (fun K hK => ?_)
    rw [if_pos (by kernel_rfl)]
    go_simp
    go_at_call 59
    refine (HGW.out.callG (fun fq hk => HD.out _ fq hk)).mono ?_
    rintro e w7 ⟨rfl, hgw⟩
    replace HGW := hid hgw
    clear hgw
    go_wp2_with fail
    refine hK.out _ _ ⟨HGW.out.row, (HGW.out.frame.row HE0.out HLT.out)⟩ (fun hH => ?_)
    clear hK K
    try simp only [Act.put]
    refine rd1 (i := 9) (by kernel_rfl) rfl (fun K hK => ?_)
    rw [if_pos (by kernel_rfl)]
    go_simp
    refine hK.out _ _ hH (fun hH => ?_)
    clear hK K
    try simp only [Act.put]
    refine wpAnyH_done (by kernel_rfl) ?_ _
    try simp only [Act.put]
    go_wp2_with fail
    try simp only [Act.put]
    refine wp_region_held_drew (S := fun W => Row W p 45 [.int .i64 o2, .int .i64 v2, .int .u64 (s2 : Int), .pointer (some ⟨ps, 0, none⟩), .pointer (some ⟨pb, 0, none⟩)] ∧ Row W w.heap.size 31 (#[.int .i64 view, .int .i64 opn, .int .i64 under, .int .u64 (parent : Int), .int .i64 client, .int .i64 session, .int .i64 request, .int .i64 oper, .string body] : Array Value).toList) (by kernel_rfl) ⟨HGW.out.row.drew, (HGW.out.frame.row HE0.out HLT.out).drew⟩ (fun hH => ?_)
    replace HGW := hid (HGW.out.below (below_drewN (Below.refl _ _) 1))
    refine tk_ (i := 0) (v := .pointer (some ⟨p, 0, none⟩)) rfl (Or.inl ⟨by kernel_rfl, fun w' hw' => by clear hw'; go_simp⟩) hH ?_
    simp only [Act.put]
    refine tk_ (i := 1) (v := .pointer (some ⟨p, 0, none⟩)) rfl (Or.inl ⟨by kernel_rfl, fun w' hw' => by clear hw'; go_simp⟩) hH ?_
    simp only [Act.put]
    refine tk_ (i := 2) (v := .pointer (some ⟨p, 3, none⟩)) rfl (Or.inl ⟨by kernel_rfl, fun w' hw' => by clear hw'; go_simp⟩) hH ?_
    simp only [Act.put]
    refine tk_ (i := 3) (v := .pointer (some ⟨ps, 0, none⟩)) rfl (Or.inl ⟨by kernel_rfl, fun w' hw' => by have h := hw'.1.at_ 3 _ rfl; clear hw'; go_simp⟩) hH ?_
    simp only [Act.put]
    refine tk_ (i := 4) (v := .pointer (some ⟨w.heap.size, 4, none⟩)) rfl (Or.inl ⟨by kernel_rfl, fun w' hw' => by clear hw'; go_simp⟩) hH ?_
    simp only [Act.put]
    refine tk_ (i := 5) (v := .int .i64 client) rfl (Or.inl ⟨by kernel_rfl, fun w' hw' => by have h := hw'.2.at_ 4 _ rfl; clear hw'; go_simp⟩) hH ?_
    simp only [Act.put]
    refine tk_ (i := 6) (v := .pointer (some ⟨w.heap.size, 6, none⟩)) rfl (Or.inl ⟨by kernel_rfl, fun w' hw' => by clear hw'; go_simp⟩) hH ?_
    simp only [Act.put]
    refine tk_ (i := 7) (v := .int .i64 request) rfl (Or.inl ⟨by kernel_rfl, fun w' hw' => by have h := hw'.2.at_ 6 _ rfl; clear hw'; go_simp⟩) hH ?_
    simp only [Act.put]
    refine tk_ (i := 8) (v := .pointer (some ⟨w.heap.size, 1, none⟩)) rfl (Or.inl ⟨by kernel_rfl, fun w' hw' => by clear hw'; go_simp⟩) hH ?_
    simp only [Act.put]
    refine tk_ (i := 9) (v := .int .i64 opn) rfl (Or.inl ⟨by kernel_rfl, fun w' hw' => by have h := hw'.2.at_ 1 _ rfl; clear hw'; go_simp⟩) hH ?_
    simp only [Act.put]
    refine tk_ (i := 10) (v := .string ans) rfl (Or.inl ⟨by kernel_rfl, fun w' hw' => by clear hw'; go_simp⟩) hH ?_
    simp only [Act.put]
    refine rd1 (i := 11) (by kernel_rfl) rfl (fun K hK => ?_)
    rw [if_pos (by kernel_rfl)]
    go_simp
    go_at_call 60
    refine (HGW.out.callG (fun fq hk => HT.out _ fq hk)).mono ?_
    rintro e w8 ⟨rfl, hgw⟩
    replace HGW := hid hgw
    clear hgw
    go_wp2_with fail
    refine hK.out _ _ ⟨HGW.out.row, (HGW.out.frame.row HE0.out HLT.out)⟩ (fun hH => ?_)
    clear hK K
    try simp only [Act.put]
    refine wpAnyH_done (by kernel_rfl) ?_ _
    try simp only [Act.put]
    have e4 := (HGW.out.frame.row HE0.out HLT.out).at_ 4 _ rfl
    have e5 := (HGW.out.frame.row HE0.out HLT.out).at_ 5 _ rfl
    have e6 := (HGW.out.frame.row HE0.out HLT.out).at_ 6 _ rfl
    have e1 := (HGW.out.frame.row HE0.out HLT.out).at_ 1 _ rfl
    go_wp2_with (first
      | (refine wpl_store_st rfl (.tmp 4) (.tmp 105) rfl HZ.out (w.heap.size + 1) an0.cells.toList (#[.int .i64 1, .int .i64 client, .int .i64 session, .int .i64 request, .int .i64 opn, .string ans] : Array Value).toList rfl rfl (HGW.out.frame.row HA0.out HLT1.out) ?_ (hid rfl) (hid rfl) (hid rfl); intro w5 hr5 hg5))
    refine bodyPost_ret (v := .agg #[.int .i64 1, .int .i64 client, .int .i64 session, .int .i64 request, .int .i64 opn, .string ans])
      (results_cell_row rfl _ _ (w.heap.size + 1) 33 _ (0, 0) _ rfl hr5.arr' Tryz.underlying33 rfl HZ.out) rfl ⟨rfl, Gmw.leave HH.out HB0.out HGW.out hg5 (by omega) (by have := HSZ.out; omega)⟩
end Go.Proofs.YtgednnjmcjhfmaaGreatDoor
