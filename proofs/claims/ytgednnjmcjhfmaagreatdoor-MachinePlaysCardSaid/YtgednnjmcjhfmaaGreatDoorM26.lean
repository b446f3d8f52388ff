/-
  The walks of package machine's request.
-/
import Derived.Test.YtgednnjmcjhfmaaGreatDoorM24
import Derived.Test.YtgednnjmcjhfmaaGreatDoorM02
import Derived.BigQuiet
import Derived.Deep.RegionHeld
import Derived.Test.YtgednnjmcjhfmaaGreatDoorM22
namespace Go.Proofs.YtgednnjmcjhfmaaGreatDoor
open Go.RowKit
set_option maxRecDepth 10000
set_option maxHeartbeats 80000000
theorem req_again (view opn under : Int) (parent : Nat) (client session request oper : Int) (body : ByteArray) (p ps pb : Nat) (C : List Value) (M : Mw) (fp : List Nat) (w : World) (h : Gm KP.1 KP.2.1 KP.2.2 p ps pb C M fp w) (hc3 : C[3]? = some (.pointer (some ⟨ps, 0, none⟩))) (hc4 : C[4]? = some (.pointer (some ⟨pb, 0, none⟩))) (xc xs xr xo : Int) (xt : ByteArray)
  (HV : Hid (∀ (W : World) fq, Gm KP.1 KP.2.1 KP.2.2 p ps pb C M fq W → Calls Tryz.prog 37 #[.pointer (some ⟨ps, 0, none⟩), .int .i64 client, .int .i64 session, .int .i64 request] W (VE W (.int .i64 2)))) (HN : Hid (∀ (W : World) fq, Gm KP.1 KP.2.1 KP.2.2 p ps pb C M fq W → Calls Tryz.prog 34 #[.pointer (some ⟨p, 0, none⟩), .int .i64 client] W (VE W (.agg #[.int .i64 1, .int .i64 xc, .int .i64 xs, .int .i64 xr, .int .i64 xo, .string xt])))) :
  Calls Tryz.prog 30 #[.pointer (some ⟨p, 0, none⟩), .agg #[.int .i64 view, .int .i64 opn, .int .i64 under, .int .u64 (parent : Int), .int .i64 client, .int .i64 session, .int .i64 request, .int .i64 oper, .string body]] w fun e w' => e = .returned (.agg #[.int .i64 1, .int .i64 xc, .int .i64 xs, .int .i64 xr, .int .i64 xo, .string xt]) ∧ Gmw KP.1 KP.2.1 KP.2.2 p ps pb w fp C M w' := by
 have HB0 : Hid (Below w.heap.size w ((w.alloc (.cells #[.int .i64 view, .int .i64 opn, .int .i64 under, .int .u64 (parent : Int), .int .i64 client, .int .i64 session, .int .i64 request, .int .i64 oper, .string body] 31)).alloc (.cells #[.int .i64 0, .int .i64 0, .int .i64 0, .int .i64 0, .int .i64 0, .string ⟨#[]⟩] 33))) := hid (((Below.refl w.heap.size w).alloc (Nat.le_refl _) _).alloc (by simp) _)
 have HE : Hid (Row ((w.alloc (.cells #[.int .i64 view, .int .i64 opn, .int .i64 under, .int .u64 (parent : Int), .int .i64 client, .int .i64 session, .int .i64 request, .int .i64 oper, .string body] 31)).alloc (.cells #[.int .i64 0, .int .i64 0, .int .i64 0, .int .i64 0, .int .i64 0, .string ⟨#[]⟩] 33)) w.heap.size 31 (#[.int .i64 view, .int .i64 opn, .int .i64 under, .int .u64 (parent : Int), .int .i64 client, .int .i64 session, .int .i64 request, .int .i64 oper, .string body] : Array Value).toList) := hid ((Row.new _ _ _).alloc _)
 have HA : Hid (Row ((w.alloc (.cells #[.int .i64 view, .int .i64 opn, .int .i64 under, .int .u64 (parent : Int), .int .i64 client, .int .i64 session, .int .i64 request, .int .i64 oper, .string body] 31)).alloc (.cells #[.int .i64 0, .int .i64 0, .int .i64 0, .int .i64 0, .int .i64 0, .string ⟨#[]⟩] 33)) (w.heap.size + 1) 33 (#[.int .i64 0, .int .i64 0, .int .i64 0, .int .i64 0, .int .i64 0, .string ⟨#[]⟩] : Array Value).toList) := hid (by
  have := Row.new (w.alloc (.cells #[.int .i64 view, .int .i64 opn, .int .i64 under, .int .u64 (parent : Int), .int .i64 client, .int .i64 session, .int .i64 request, .int .i64 oper, .string body] 31)) 33 #[.int .i64 0, .int .i64 0, .int .i64 0, .int .i64 0, .int .i64 0, .string ⟨#[]⟩]
  simpa using this)
 have HSZ : Hid (((w.alloc (.cells #[.int .i64 view, .int .i64 opn, .int .i64 under, .int .u64 (parent : Int), .int .i64 client, .int .i64 session, .int .i64 request, .int .i64 oper, .string body] 31)).alloc (.cells #[.int .i64 0, .int .i64 0, .int .i64 0, .int .i64 0, .int .i64 0, .string ⟨#[]⟩] 33)).heap.size = w.heap.size + 2) := hid (by simp)
 have HG := hid (h.below HB0.out)
 have HC := hid HG.out.row
 have C3 := hid hc3
 have C4 := hid hc4
 have HZ := hid asize
 have HH := hid h
 have HLT := hid (show w.heap.size ∉ fp from fun q => by have := h.lt _ q; omega)
 have HLT1 := hid (show (w.heap.size + 1) ∉ fp from fun q => by have := h.lt _ q; omega)
 clear h hc3 hc4
 go_enter Tryz.func30, Tryz.ntmps30
 go_wp2_with fail
 try simp only [Act.put]
 refine wp_region_held_drew (S := fun W => Row W p 70 C ∧ Row W w.heap.size 31 (#[.int .i64 view, .int .i64 opn, .int .i64 under, .int .u64 (parent : Int), .int .i64 client, .int .i64 session, .int .i64 request, .int .i64 oper, .string body] : Array Value).toList) (by kernel_rfl) ⟨HC.out, HE.out⟩ (fun hH => ?_)
 refine tk_ (i := 0) (v := .pointer (some ⟨p, 0, none⟩)) rfl (Or.inl ⟨by kernel_rfl, fun w' hw' => by clear hw'; go_simp⟩) hH ?_
 simp only [Act.put]
 refine tk_ (i := 1) (v := .pointer (some ⟨p, 0, none⟩)) rfl (Or.inl ⟨by kernel_rfl, fun w' hw' => by clear hw'; go_simp⟩) hH ?_
 simp only [Act.put]
 refine tk_ (i := 2) (v := .pointer (some ⟨p, 3, none⟩)) rfl (Or.inl ⟨by kernel_rfl, fun w' hw' => by clear hw'; go_simp⟩) hH ?_
 simp only [Act.put]
 refine tk_ (i := 3) (v := .pointer (some ⟨ps, 0, none⟩)) rfl (Or.inl ⟨by kernel_rfl, fun w' hw' => by have h := hw'.1.at_ 3 _ C3.out; clear hw'; go_simp⟩) hH ?_
 simp only [Act.put]
 refine tk_ (i := 4) (v := .pointer (some ⟨w.heap.size, 4, none⟩)) rfl (Or.inl ⟨by kernel_rfl, fun w' hw' => by clear hw'; go_simp⟩) hH ?_
 simp only [Act.put]
 refine tk_ (i := 5) (v := .int .i64 client) rfl (Or.inl ⟨by kernel_rfl, fun w' hw' => by have h := hw'.2.at_ 4 _ rfl; clear hw'; go_simp⟩) hH ?_
 simp only [Act.put]
 refine tk_ (i := 6) (v := .pointer (some ⟨w.heap.size, 5, none⟩)) rfl (Or.inl ⟨by kernel_rfl, fun w' hw' => by clear hw'; go_simp⟩) hH ?_
 simp only [Act.put]
 refine tk_ (i := 7) (v := .int .i64 session) rfl (Or.inl ⟨by kernel_rfl, fun w' hw' => by have h := hw'.2.at_ 5 _ rfl; clear hw'; go_simp⟩) hH ?_
 simp only [Act.put]
 refine tk_ (i := 8) (v := .pointer (some ⟨w.heap.size, 6, none⟩)) rfl (Or.inl ⟨by kernel_rfl, fun w' hw' => by clear hw'; go_simp⟩) hH ?_
 simp only [Act.put]
 refine tk_ (i := 9) (v := .int .i64 request) rfl (Or.inl ⟨by kernel_rfl, fun w' hw' => by have h := hw'.2.at_ 6 _ rfl; clear hw'; go_simp⟩) hH ?_
 simp only [Act.put]
 replace HG := hid (HG.out.below (below_drewN (Below.refl _ _) 1))
 refine rd1 (i := 10) (by kernel_rfl) rfl (fun K hK => ?_)
 rw [if_pos (by kernel_rfl)]
 go_simp
 go_at_call 37
 refine (HV.out _ _ HG.out).mono ?_
 rintro e w2 ⟨rfl, hb2⟩
 have HB2 := hid ((below_drewN HB0.out 1).trans (Below.mono hb2 (below_drewN HB0.out 1).size))
 have HGW := hid ((Gmw.start HG.out).below hb2)
 have HE2 := hid (HE.out.drew.below hb2 HE.out.lt)
 have HA2 := hid (HA.out.drew.below hb2 HA.out.lt)
 clear hb2
 go_wp2_with fail
 refine hK.out _ _ (⟨HGW.out.row, HE2.out⟩) (fun hH => ?_)
 clear hK K
 try simp only [Act.put]
 refine wpAnyH_done (by kernel_rfl) ?_ _
 try simp only [Act.put]
 have e4 := HE2.out.at_ 4 _ rfl
 go_wp2_with (first
  | (go_at_call 34; obtain ⟨fq, hq, -⟩ := HGW.out; refine (HN.out _ fq hq).mono ?_; rintro e w3 ⟨rfl, hb3⟩; have HG3 := hid (HGW.out.below hb3); have HA3 := hid (HA2.out.below hb3 HA2.out.lt); clear hb3 hq)
  | (refine wpl_store_st rfl (.tmp 4) (.tmp 47) rfl HZ.out (w.heap.size + 1) an0.cells.toList (#[.int .i64 1, .int .i64 xc, .int .i64 xs, .int .i64 xr, .int .i64 xo, .string xt] : Array Value).toList rfl rfl HA3.out ?_ (hid rfl) (hid rfl) (hid rfl); intro w5 hr5 hg5))
 refine bodyPost_ret (v := .agg #[.int .i64 1, .int .i64 xc, .int .i64 xs, .int .i64 xr, .int .i64 xo, .string xt])
  (results_cell_row rfl _ _ (w.heap.size + 1) 33 _ (0, 0) _ rfl hr5.arr' Tryz.underlying33 rfl HZ.out) rfl ⟨rfl, Gmw.leave HH.out (below_drewN HB0.out 1) HG3.out hg5 (by omega) (by have := HSZ.out; show _ < (World.drewN _ _).heap.size; simp)⟩
theorem req_gone (view opn under : Int) (parent : Nat) (client session request oper : Int) (body : ByteArray) (p ps pb : Nat) (C : List Value) (M : Mw) (fp : List Nat) (w : World) (h : Gm KP.1 KP.2.1 KP.2.2 p ps pb C M fp w) (hc3 : C[3]? = some (.pointer (some ⟨ps, 0, none⟩))) (hc4 : C[4]? = some (.pointer (some ⟨pb, 0, none⟩)))
  (HV : Hid (∀ (W : World) fq, Gm KP.1 KP.2.1 KP.2.2 p ps pb C M fq W → Calls Tryz.prog 37 #[.pointer (some ⟨ps, 0, none⟩), .int .i64 client, .int .i64 session, .int .i64 request] W (VE W (.int .i64 5)))) :
  Calls Tryz.prog 30 #[.pointer (some ⟨p, 0, none⟩), .agg #[.int .i64 view, .int .i64 opn, .int .i64 under, .int .u64 (parent : Int), .int .i64 client, .int .i64 session, .int .i64 request, .int .i64 oper, .string body]] w fun e w' => e = .returned (.agg #[.int .i64 2, .int .i64 client, .int .i64 session, .int .i64 request, .int .i64 opn, .string ⟨#[]⟩]) ∧ Gmw KP.1 KP.2.1 KP.2.2 p ps pb w fp C M w' := by
 have HB0 : Hid (Below w.heap.size w ((w.alloc (.cells #[.int .i64 view, .int .i64 opn, .int .i64 under, .int .u64 (parent : Int), .int .i64 client, .int .i64 session, .int .i64 request, .int .i64 oper, .string body] 31)).alloc (.cells #[.int .i64 0, .int .i64 0, .int .i64 0, .int .i64 0, .int .i64 0, .string ⟨#[]⟩] 33))) := hid (((Below.refl w.heap.size w).alloc (Nat.le_refl _) _).alloc (by simp) _)
 have HE : Hid (Row ((w.alloc (.cells #[.int .i64 view, .int .i64 opn, .int .i64 under, .int .u64 (parent : Int), .int .i64 client, .int .i64 session, .int .i64 request, .int .i64 oper, .string body] 31)).alloc (.cells #[.int .i64 0, .int .i64 0, .int .i64 0, .int .i64 0, .int .i64 0, .string ⟨#[]⟩] 33)) w.heap.size 31 (#[.int .i64 view, .int .i64 opn, .int .i64 under, .int .u64 (parent : Int), .int .i64 client, .int .i64 session, .int .i64 request, .int .i64 oper, .string body] : Array Value).toList) := hid ((Row.new _ _ _).alloc _)
 have HA : Hid (Row ((w.alloc (.cells #[.int .i64 view, .int .i64 opn, .int .i64 under, .int .u64 (parent : Int), .int .i64 client, .int .i64 session, .int .i64 request, .int .i64 oper, .string body] 31)).alloc (.cells #[.int .i64 0, .int .i64 0, .int .i64 0, .int .i64 0, .int .i64 0, .string ⟨#[]⟩] 33)) (w.heap.size + 1) 33 (#[.int .i64 0, .int .i64 0, .int .i64 0, .int .i64 0, .int .i64 0, .string ⟨#[]⟩] : Array Value).toList) := hid (by
  have := Row.new (w.alloc (.cells #[.int .i64 view, .int .i64 opn, .int .i64 under, .int .u64 (parent : Int), .int .i64 client, .int .i64 session, .int .i64 request, .int .i64 oper, .string body] 31)) 33 #[.int .i64 0, .int .i64 0, .int .i64 0, .int .i64 0, .int .i64 0, .string ⟨#[]⟩]
  simpa using this)
 have HSZ : Hid (((w.alloc (.cells #[.int .i64 view, .int .i64 opn, .int .i64 under, .int .u64 (parent : Int), .int .i64 client, .int .i64 session, .int .i64 request, .int .i64 oper, .string body] 31)).alloc (.cells #[.int .i64 0, .int .i64 0, .int .i64 0, .int .i64 0, .int .i64 0, .string ⟨#[]⟩] 33)).heap.size = w.heap.size + 2) := hid (by simp)
 have HG := hid (h.below HB0.out)
 have HC := hid HG.out.row
 have C3 := hid hc3
 have C4 := hid hc4
 have HZ := hid asize
 have HH := hid h
 have HLT := hid (show w.heap.size ∉ fp from fun q => by have := h.lt _ q; omega)
 have HLT1 := hid (show (w.heap.size + 1) ∉ fp from fun q => by have := h.lt _ q; omega)
 clear h hc3 hc4
 go_enter Tryz.func30, Tryz.ntmps30
 go_wp2_with fail
 try simp only [Act.put]
 refine wp_region_held_drew (S := fun W => Row W p 70 C ∧ Row W w.heap.size 31 (#[.int .i64 view, .int .i64 opn, .int .i64 under, .int .u64 (parent : Int), .int .i64 client, .int .i64 session, .int .i64 request, .int .i64 oper, .string body] : Array Value).toList) (by kernel_rfl) ⟨HC.out, HE.out⟩ (fun hH => ?_)
 refine tk_ (i := 0) (v := .pointer (some ⟨p, 0, none⟩)) rfl (Or.inl ⟨by kernel_rfl, fun w' hw' => by clear hw'; go_simp⟩) hH ?_
 simp only [Act.put]
 refine tk_ (i := 1) (v := .pointer (some ⟨p, 0, none⟩)) rfl (Or.inl ⟨by kernel_rfl, fun w' hw' => by clear hw'; go_simp⟩) hH ?_
 simp only [Act.put]
 refine tk_ (i := 2) (v := .pointer (some ⟨p, 3, none⟩)) rfl (Or.inl ⟨by kernel_rfl, fun w' hw' => by clear hw'; go_simp⟩) hH ?_
 simp only [Act.put]
 refine tk_ (i := 3) (v := .pointer (some ⟨ps, 0, none⟩)) rfl (Or.inl ⟨by kernel_rfl, fun w' hw' => by have h := hw'.1.at_ 3 _ C3.out; clear hw'; go_simp⟩) hH ?_
 simp only [Act.put]
 refine tk_ (i := 4) (v := .pointer (some ⟨w.heap.size, 4, none⟩)) rfl (Or.inl ⟨by kernel_rfl, fun w' hw' => by clear hw'; go_simp⟩) hH ?_
 simp only [Act.put]
 refine tk_ (i := 5) (v := .int .i64 client) rfl (Or.inl ⟨by kernel_rfl, fun w' hw' => by have h := hw'.2.at_ 4 _ rfl; clear hw'; go_simp⟩) hH ?_
 simp only [Act.put]
 refine tk_ (i := 6) (v := .pointer (some ⟨w.heap.size, 5, none⟩)) rfl (Or.inl ⟨by kernel_rfl, fun w' hw' => by clear hw'; go_simp⟩) hH ?_
 simp only [Act.put]
 refine tk_ (i := 7) (v := .int .i64 session) rfl (Or.inl ⟨by kernel_rfl, fun w' hw' => by have h := hw'.2.at_ 5 _ rfl; clear hw'; go_simp⟩) hH ?_
 simp only [Act.put]
 refine tk_ (i := 8) (v := .pointer (some ⟨w.heap.size, 6, none⟩)) rfl (Or.inl ⟨by kernel_rfl, fun w' hw' => by clear hw'; go_simp⟩) hH ?_
 simp only [Act.put]
 refine tk_ (i := 9) (v := .int .i64 request) rfl (Or.inl ⟨by kernel_rfl, fun w' hw' => by have h := hw'.2.at_ 6 _ rfl; clear hw'; go_simp⟩) hH ?_
 simp only [Act.put]
 replace HG := hid (HG.out.below (below_drewN (Below.refl _ _) 1))
 refine rd1 (i := 10) (by kernel_rfl) rfl (fun K hK => ?_)
 rw [if_pos (by kernel_rfl)]
 go_simp
 go_at_call 37
 refine (HV.out _ _ HG.out).mono ?_
 rintro e w2 ⟨rfl, hb2⟩
 have HB2 := hid ((below_drewN HB0.out 1).trans (Below.mono hb2 (below_drewN HB0.out 1).size))
 have HGW := hid ((Gmw.start HG.out).below hb2)
 have HE2 := hid (HE.out.drew.below hb2 HE.out.lt)
 have HA2 := hid (HA.out.drew.below hb2 HA.out.lt)
 clear hb2
 go_wp2_with fail
 refine hK.out _ _ (⟨HGW.out.row, HE2.out⟩) (fun hH => ?_)
 clear hK K
 try simp only [Act.put]
 refine wpAnyH_done (by kernel_rfl) ?_ _
 try simp only [Act.put]
 have e4 := HE2.out.at_ 4 _ rfl
 have e5 := HE2.out.at_ 5 _ rfl
 have e6 := HE2.out.at_ 6 _ rfl
 have e1 := HE2.out.at_ 1 _ rfl
 go_wp2_with (first
  | (refine wpl_store_st rfl (.tmp 4) (.tmp 58) rfl HZ.out (w.heap.size + 1) an0.cells.toList (#[.int .i64 2, .int .i64 client, .int .i64 session, .int .i64 request, .int .i64 opn, .string ⟨#[]⟩] : Array Value).toList rfl rfl HA2.out ?_ (hid rfl) (hid rfl) (hid rfl); intro w5 hr5 hg5))
 refine bodyPost_ret (v := .agg #[.int .i64 2, .int .i64 client, .int .i64 session, .int .i64 request, .int .i64 opn, .string ⟨#[]⟩])
  (results_cell_row rfl _ _ (w.heap.size + 1) 33 _ (0, 0) _ rfl hr5.arr' Tryz.underlying33 rfl HZ.out) rfl ⟨rfl, Gmw.leave HH.out (below_drewN HB0.out 1) HGW.out hg5 (by omega) (by have := HSZ.out; show _ < (World.drewN _ _).heap.size; simp)⟩
theorem req_else (view opn under : Int) (parent : Nat) (client session request oper : Int) (body : ByteArray) (p ps pb : Nat) (C : List Value) (M : Mw) (fp : List Nat) (w : World) (h : Gm KP.1 KP.2.1 KP.2.2 p ps pb C M fp w) (hc3 : C[3]? = some (.pointer (some ⟨ps, 0, none⟩))) (hc4 : C[4]? = some (.pointer (some ⟨pb, 0, none⟩))) (v : Int) (h1 : (v == 1) = false) (h2 : (v == 2) = false) (h5 : (v == 5) = false)
  (HV : Hid (∀ (W : World) fq, Gm KP.1 KP.2.1 KP.2.2 p ps pb C M fq W → Calls Tryz.prog 37 #[.pointer (some ⟨ps, 0, none⟩), .int .i64 client, .int .i64 session, .int .i64 request] W (VE W (.int .i64 v)))) :
  Calls Tryz.prog 30 #[.pointer (some ⟨p, 0, none⟩), .agg #[.int .i64 view, .int .i64 opn, .int .i64 under, .int .u64 (parent : Int), .int .i64 client, .int .i64 session, .int .i64 request, .int .i64 oper, .string body]] w fun e w' => e = .returned (.agg #[.int .i64 0, .int .i64 0, .int .i64 0, .int .i64 0, .int .i64 0, .string ⟨#[]⟩]) ∧ Gmw KP.1 KP.2.1 KP.2.2 p ps pb w fp C M w' := by
 have HB0 : Hid (Below w.heap.size w ((w.alloc (.cells #[.int .i64 view, .int .i64 opn, .int .i64 under, .int .u64 (parent : Int), .int .i64 client, .int .i64 session, .int .i64 request, .int .i64 oper, .string body] 31)).alloc (.cells #[.int .i64 0, .int .i64 0, .int .i64 0, .int .i64 0, .int .i64 0, .string ⟨#[]⟩] 33))) := hid (((Below.refl w.heap.size w).alloc (Nat.le_refl _) _).alloc (by simp) _)
 have HE : Hid (Row ((w.alloc (.cells #[.int .i64 view, .int .i64 opn, .int .i64 under, .int .u64 (parent : Int), .int .i64 client, .int .i64 session, .int .i64 request, .int .i64 oper, .string body] 31)).alloc (.cells #[.int .i64 0, .int .i64 0, .int .i64 0, .int .i64 0, .int .i64 0, .string ⟨#[]⟩] 33)) w.heap.size 31 (#[.int .i64 view, .int .i64 opn, .int .i64 under, .int .u64 (parent : Int), .int .i64 client, .int .i64 session, .int .i64 request, .int .i64 oper, .string body] : Array Value).toList) := hid ((Row.new _ _ _).alloc _)
 have HA : Hid (Row ((w.alloc (.cells #[.int .i64 view, .int .i64 opn, .int .i64 under, .int .u64 (parent : Int), .int .i64 client, .int .i64 session, .int .i64 request, .int .i64 oper, .string body] 31)).alloc (.cells #[.int .i64 0, .int .i64 0, .int .i64 0, .int .i64 0, .int .i64 0, .string ⟨#[]⟩] 33)) (w.heap.size + 1) 33 (#[.int .i64 0, .int .i64 0, .int .i64 0, .int .i64 0, .int .i64 0, .string ⟨#[]⟩] : Array Value).toList) := hid (by
  have := Row.new (w.alloc (.cells #[.int .i64 view, .int .i64 opn, .int .i64 under, .int .u64 (parent : Int), .int .i64 client, .int .i64 session, .int .i64 request, .int .i64 oper, .string body] 31)) 33 #[.int .i64 0, .int .i64 0, .int .i64 0, .int .i64 0, .int .i64 0, .string ⟨#[]⟩]
  simpa using this)
 have HSZ : Hid (((w.alloc (.cells #[.int .i64 view, .int .i64 opn, .int .i64 under, .int .u64 (parent : Int), .int .i64 client, .int .i64 session, .int .i64 request, .int .i64 oper, .string body] 31)).alloc (.cells #[.int .i64 0, .int .i64 0, .int .i64 0, .int .i64 0, .int .i64 0, .string ⟨#[]⟩] 33)).heap.size = w.heap.size + 2) := hid (by simp)
 have HG := hid (h.below HB0.out)
 have HC := hid HG.out.row
 have C3 := hid hc3
 have C4 := hid hc4
 have HZ := hid asize
 have HH := hid h
 have HLT := hid (show w.heap.size ∉ fp from fun q => by have := h.lt _ q; omega)
 have HLT1 := hid (show (w.heap.size + 1) ∉ fp from fun q => by have := h.lt _ q; omega)
 clear h hc3 hc4
 go_enter Tryz.func30, Tryz.ntmps30
 go_wp2_with fail
 try simp only [Act.put]
 refine wp_region_held_drew (S := fun W => Row W p 70 C ∧ Row W w.heap.size 31 (#[.int .i64 view, .int .i64 opn, .int .i64 under, .int .u64 (parent : Int), .int .i64 client, .int .i64 session, .int .i64 request, .int .i64 oper, .string body] : Array Value).toList) (by kernel_rfl) ⟨HC.out, HE.out⟩ (fun hH => ?_)
 refine tk_ (i := 0) (v := .pointer (some ⟨p, 0, none⟩)) rfl (Or.inl ⟨by kernel_rfl, fun w' hw' => by clear hw'; go_simp⟩) hH ?_
 simp only [Act.put]
 refine tk_ (i := 1) (v := .pointer (some ⟨p, 0, none⟩)) rfl (Or.inl ⟨by kernel_rfl, fun w' hw' => by clear hw'; go_simp⟩) hH ?_
 simp only [Act.put]
 refine tk_ (i := 2) (v := .pointer (some ⟨p, 3, none⟩)) rfl (Or.inl ⟨by kernel_rfl, fun w' hw' => by clear hw'; go_simp⟩) hH ?_
 simp only [Act.put]
 refine tk_ (i := 3) (v := .pointer (some ⟨ps, 0, none⟩)) rfl (Or.inl ⟨by kernel_rfl, fun w' hw' => by have h := hw'.1.at_ 3 _ C3.out; clear hw'; go_simp⟩) hH ?_
 simp only [Act.put]
 refine tk_ (i := 4) (v := .pointer (some ⟨w.heap.size, 4, none⟩)) rfl (Or.inl ⟨by kernel_rfl, fun w' hw' => by clear hw'; go_simp⟩) hH ?_
 simp only [Act.put]
 refine tk_ (i := 5) (v := .int .i64 client) rfl (Or.inl ⟨by kernel_rfl, fun w' hw' => by have h := hw'.2.at_ 4 _ rfl; clear hw'; go_simp⟩) hH ?_
 simp only [Act.put]
 refine tk_ (i := 6) (v := .pointer (some ⟨w.heap.size, 5, none⟩)) rfl (Or.inl ⟨by kernel_rfl, fun w' hw' => by clear hw'; go_simp⟩) hH ?_
 simp only [Act.put]
 refine tk_ (i := 7) (v := .int .i64 session) rfl (Or.inl ⟨by kernel_rfl, fun w' hw' => by have h := hw'.2.at_ 5 _ rfl; clear hw'; go_simp⟩) hH ?_
 simp only [Act.put]
 refine tk_ (i := 8) (v := .pointer (some ⟨w.heap.size, 6, none⟩)) rfl (Or.inl ⟨by kernel_rfl, fun w' hw' => by clear hw'; go_simp⟩) hH ?_
 simp only [Act.put]
 refine tk_ (i := 9) (v := .int .i64 request) rfl (Or.inl ⟨by kernel_rfl, fun w' hw' => by have h := hw'.2.at_ 6 _ rfl; clear hw'; go_simp⟩) hH ?_
 simp only [Act.put]
 replace HG := hid (HG.out.below (below_drewN (Below.refl _ _) 1))
 refine rd1 (i := 10) (by kernel_rfl) rfl (fun K hK => ?_)
 rw [if_pos (by kernel_rfl)]
 go_simp
 go_at_call 37
 refine (HV.out _ _ HG.out).mono ?_
 rintro e w2 ⟨rfl, hb2⟩
 have HB2 := hid ((below_drewN HB0.out 1).trans (Below.mono hb2 (below_drewN HB0.out 1).size))
 have HGW := hid ((Gmw.start HG.out).below hb2)
 have HE2 := hid (HE.out.drew.below hb2 HE.out.lt)
 have HA2 := hid (HA.out.drew.below hb2 HA.out.lt)
 clear hb2
 go_wp2_with fail
 refine hK.out _ _ (⟨HGW.out.row, HE2.out⟩) (fun hH => ?_)
 clear hK K
 try simp only [Act.put]
 refine wpAnyH_done (by kernel_rfl) ?_ _
 try simp only [Act.put]
 go_wp2_with (first
  | (refine wpl_store_st rfl (.tmp 4) (.tmp 59) rfl HZ.out (w.heap.size + 1) an0.cells.toList (#[.int .i64 0, .int .i64 0, .int .i64 0, .int .i64 0, .int .i64 0, .string ⟨#[]⟩] : Array Value).toList rfl rfl HA2.out ?_ (hid rfl) (hid rfl) (hid rfl); intro w5 hr5 hg5))
 refine bodyPost_ret (v := .agg #[.int .i64 0, .int .i64 0, .int .i64 0, .int .i64 0, .int .i64 0, .string ⟨#[]⟩])
  (results_cell_row rfl _ _ (w.heap.size + 1) 33 _ (0, 0) _ rfl hr5.arr' Tryz.underlying33 rfl HZ.out) rfl ⟨rfl, Gmw.leave HH.out (below_drewN HB0.out 1) HGW.out hg5 (by omega) (by have := HSZ.out; show _ < (World.drewN _ _).heap.size; simp)⟩
theorem req_fresh (view opn under : Int) (parent : Nat) (client session request oper : Int) (body : ByteArray) (p ps pb : Nat) (C : List Value) (M : Mw) (fp : List Nat) (w : World) (h : Gm KP.1 KP.2.1 KP.2.2 p ps pb C M fp w) (hc3 : C[3]? = some (.pointer (some ⟨ps, 0, none⟩))) (hc4 : C[4]? = some (.pointer (some ⟨pb, 0, none⟩))) (M1 M2 : Mw) (ans : ByteArray) (ne : Int) (xc xs xr xo : Int) (xt : ByteArray)
  (HV : Hid (∀ (W : World) fq, Gm KP.1 KP.2.1 KP.2.2 p ps pb C M fq W → Calls Tryz.prog 37 #[.pointer (some ⟨ps, 0, none⟩), .int .i64 client, .int .i64 session, .int .i64 request] W (VE W (.int .i64 1))))
  (HD : Hid (∀ (W : World) fq, Gm KP.1 KP.2.1 KP.2.2 p ps pb C M fq W → Calls Tryz.prog 55 #[.pointer (some ⟨pb, 0, none⟩), .int .i64 oper, .string body] W fun e w' => e = .returned (.string ans) ∧ Gmw KP.1 KP.2.1 KP.2.2 p ps pb W fq C M1 w'))
  (HT : Hid (∀ (W : World) fq, Gm KP.1 KP.2.1 KP.2.2 p ps pb C M1 fq W → Calls Tryz.prog 54 #[.pointer (some ⟨ps, 0, none⟩), .int .i64 client, .int .i64 request, .int .i64 opn, .string ans] W fun e w' => e = .returned (.int .i64 ne) ∧ Gmw KP.1 KP.2.1 KP.2.2 p ps pb W fq C M2 w'))
  (HN : Hid (∀ (W : World) fq, Gm KP.1 KP.2.1 KP.2.2 p ps pb C M2 fq W → Calls Tryz.prog 34 #[.pointer (some ⟨p, 0, none⟩), .int .i64 client] W (VE W (.agg #[.int .i64 1, .int .i64 xc, .int .i64 xs, .int .i64 xr, .int .i64 xo, .string xt])))) :
  Calls Tryz.prog 30 #[.pointer (some ⟨p, 0, none⟩), .agg #[.int .i64 view, .int .i64 opn, .int .i64 under, .int .u64 (parent : Int), .int .i64 client, .int .i64 session, .int .i64 request, .int .i64 oper, .string body]] w fun e w' => e = .returned (.agg #[.int .i64 1, .int .i64 xc, .int .i64 xs, .int .i64 xr, .int .i64 xo, .string xt]) ∧ Gmw KP.1 KP.2.1 KP.2.2 p ps pb w fp C M2 w' := by
 have HB0 : Hid (Below w.heap.size w ((w.alloc (.cells #[.int .i64 view, .int .i64 opn, .int .i64 under, .int .u64 (parent : Int), .int .i64 client, .int .i64 session, .int .i64 request, .int .i64 oper, .string body] 31)).alloc (.cells #[.int .i64 0, .int .i64 0, .int .i64 0, .int .i64 0, .int .i64 0, .string ⟨#[]⟩] 33))) := hid (((Below.refl w.heap.size w).alloc (Nat.le_refl _) _).alloc (by simp) _)
 have HE : Hid (Row ((w.alloc (.cells #[.int .i64 view, .int .i64 opn, .int .i64 under, .int .u64 (parent : Int), .int .i64 client, .int .i64 session, .int .i64 request, .int .i64 oper, .string body] 31)).alloc (.cells #[.int .i64 0, .int .i64 0, .int .i64 0, .int .i64 0, .int .i64 0, .string ⟨#[]⟩] 33)) w.heap.size 31 (#[.int .i64 view, .int .i64 opn, .int .i64 under, .int .u64 (parent : Int), .int .i64 client, .int .i64 session, .int .i64 request, .int .i64 oper, .string body] : Array Value).toList) := hid ((Row.new _ _ _).alloc _)
 have HA : Hid (Row ((w.alloc (.cells #[.int .i64 view, .int .i64 opn, .int .i64 under, .int .u64 (parent : Int), .int .i64 client, .int .i64 session, .int .i64 request, .int .i64 oper, .string body] 31)).alloc (.cells #[.int .i64 0, .int .i64 0, .int .i64 0, .int .i64 0, .int .i64 0, .string ⟨#[]⟩] 33)) (w.heap.size + 1) 33 (#[.int .i64 0, .int .i64 0, .int .i64 0, .int .i64 0, .int .i64 0, .string ⟨#[]⟩] : Array Value).toList) := hid (by
  have := Row.new (w.alloc (.cells #[.int .i64 view, .int .i64 opn, .int .i64 under, .int .u64 (parent : Int), .int .i64 client, .int .i64 session, .int .i64 request, .int .i64 oper, .string body] 31)) 33 #[.int .i64 0, .int .i64 0, .int .i64 0, .int .i64 0, .int .i64 0, .string ⟨#[]⟩]
  simpa using this)
 have HSZ : Hid (((w.alloc (.cells #[.int .i64 view, .int .i64 opn, .int .i64 under, .int .u64 (parent : Int), .int .i64 client, .int .i64 session, .int .i64 request, .int .i64 oper, .string body] 31)).alloc (.cells #[.int .i64 0, .int .i64 0, .int .i64 0, .int .i64 0, .int .i64 0, .string ⟨#[]⟩] 33)).heap.size = w.heap.size + 2) := hid (by simp)
 have HG := hid (h.below HB0.out)
 have HC := hid HG.out.row
 have C3 := hid hc3
 have C4 := hid hc4
 have HZ := hid asize
 have HH := hid h
 have HLT := hid (show w.heap.size ∉ fp from fun q => by have := h.lt _ q; omega)
 have HLT1 := hid (show (w.heap.size + 1) ∉ fp from fun q => by have := h.lt _ q; omega)
 clear h hc3 hc4
 go_enter Tryz.func30, Tryz.ntmps30
 go_wp2_with fail
 try simp only [Act.put]
 refine wp_region_held_drew (S := fun W => Row W p 70 C ∧ Row W w.heap.size 31 (#[.int .i64 view, .int .i64 opn, .int .i64 under, .int .u64 (parent : Int), .int .i64 client, .int .i64 session, .int .i64 request, .int .i64 oper, .string body] : Array Value).toList) (by kernel_rfl) ⟨HC.out, HE.out⟩ (fun hH => ?_)
 refine tk_ (i := 0) (v := .pointer (some ⟨p, 0, none⟩)) rfl (Or.inl ⟨by kernel_rfl, fun w' hw' => by clear hw'; go_simp⟩) hH ?_
 simp only [Act.put]
 refine tk_ (i := 1) (v := .pointer (some ⟨p, 0, none⟩)) rfl (Or.inl ⟨by kernel_rfl, fun w' hw' => by clear hw'; go_simp⟩) hH ?_
 simp only [Act.put]
 refine tk_ (i := 2) (v := .pointer (some ⟨p, 3, none⟩)) rfl (Or.inl ⟨by kernel_rfl, fun w' hw' => by clear hw'; go_simp⟩) hH ?_
 simp only [Act.put]
 refine tk_ (i := 3) (v := .pointer (some ⟨ps, 0, none⟩)) rfl (Or.inl ⟨by kernel_rfl, fun w' hw' => by have h := hw'.1.at_ 3 _ C3.out; clear hw'; go_simp⟩) hH ?_
 simp only [Act.put]
 refine tk_ (i := 4) (v := .pointer (some ⟨w.heap.size, 4, none⟩)) rfl (Or.inl ⟨by kernel_rfl, fun w' hw' => by clear hw'; go_simp⟩) hH ?_
 simp only [Act.put]
 refine tk_ (i := 5) (v := .int .i64 client) rfl (Or.inl ⟨by kernel_rfl, fun w' hw' => by have h := hw'.2.at_ 4 _ rfl; clear hw'; go_simp⟩) hH ?_
 simp only [Act.put]
 refine tk_ (i := 6) (v := .pointer (some ⟨w.heap.size, 5, none⟩)) rfl (Or.inl ⟨by kernel_rfl, fun w' hw' => by clear hw'; go_simp⟩) hH ?_
 simp only [Act.put]
 refine tk_ (i := 7) (v := .int .i64 session) rfl (Or.inl ⟨by kernel_rfl, fun w' hw' => by have h := hw'.2.at_ 5 _ rfl; clear hw'; go_simp⟩) hH ?_
 simp only [Act.put]
 refine tk_ (i := 8) (v := .pointer (some ⟨w.heap.size, 6, none⟩)) rfl (Or.inl ⟨by kernel_rfl, fun w' hw' => by clear hw'; go_simp⟩) hH ?_
 simp only [Act.put]
 refine tk_ (i := 9) (v := .int .i64 request) rfl (Or.inl ⟨by kernel_rfl, fun w' hw' => by have h := hw'.2.at_ 6 _ rfl; clear hw'; go_simp⟩) hH ?_
 simp only [Act.put]
 replace HG := hid (HG.out.below (below_drewN (Below.refl _ _) 1))
 refine rd1 (i := 10) (by kernel_rfl) rfl (fun K hK => ?_)
 rw [if_pos (by kernel_rfl)]
 go_simp
 go_at_call 37
 refine (HV.out _ _ HG.out).mono ?_
 rintro e w2 ⟨rfl, hb2⟩
 have HB2 := hid ((below_drewN HB0.out 1).trans (Below.mono hb2 (below_drewN HB0.out 1).size))
 have HGW := hid ((Gmw.start HG.out).below hb2)
 have HE2 := hid (HE.out.drew.below hb2 HE.out.lt)
 have HA2 := hid (HA.out.drew.below hb2 HA.out.lt)
 clear hb2
 go_wp2_with fail
 refine hK.out _ _ (⟨HGW.out.row, HE2.out⟩) (fun hH => ?_)
 clear hK K
 try simp only [Act.put]
 refine wpAnyH_done (by kernel_rfl) ?_ _
 try simp only [Act.put]
 go_wp2_with fail
 try simp only [Act.put]
 refine wp_region_held_drew (S := fun W => Row W p 70 C ∧ Row W w.heap.size 31 (#[.int .i64 view, .int .i64 opn, .int .i64 under, .int .u64 (parent : Int), .int .i64 client, .int .i64 session, .int .i64 request, .int .i64 oper, .string body] : Array Value).toList) (by kernel_rfl) ⟨HGW.out.row.drew, HE2.out.drew⟩ (fun hH => ?_)
 refine tk_ (i := 0) (v := .pointer (some ⟨p, 0, none⟩)) rfl (Or.inl ⟨by kernel_rfl, fun w' hw' => by clear hw'; go_simp⟩) hH ?_
 simp only [Act.put]
 refine tk_ (i := 1) (v := .pointer (some ⟨p, 0, none⟩)) rfl (Or.inl ⟨by kernel_rfl, fun w' hw' => by clear hw'; go_simp⟩) hH ?_
 simp only [Act.put]
 refine tk_ (i := 2) (v := .pointer (some ⟨p, 3, none⟩)) rfl (Or.inl ⟨by kernel_rfl, fun w' hw' => by clear hw'; go_simp⟩) hH ?_
 simp only [Act.put]
 refine tk_ (i := 3) (v := .pointer (some ⟨ps, 0, none⟩)) rfl (Or.inl ⟨by kernel_rfl, fun w' hw' => by have h := hw'.1.at_ 3 _ C3.out; clear hw'; go_simp⟩) hH ?_
 simp only [Act.put]
 refine tk_ (i := 4) (v := .pointer (some ⟨w.heap.size, 4, none⟩)) rfl (Or.inl ⟨by kernel_rfl, fun w' hw' => by clear hw'; go_simp⟩) hH ?_
 simp only [Act.put]
 refine tk_ (i := 5) (v := .int .i64 client) rfl (Or.inl ⟨by kernel_rfl, fun w' hw' => by have h := hw'.2.at_ 4 _ rfl; clear hw'; go_simp⟩) hH ?_
 simp only [Act.put]
 refine tk_ (i := 6) (v := .pointer (some ⟨w.heap.size, 6, none⟩)) rfl (Or.inl ⟨by kernel_rfl, fun w' hw' => by clear hw'; go_simp⟩) hH ?_
 simp only [Act.put]
 refine tk_ (i := 7) (v := .int .i64 request) rfl (Or.inl ⟨by kernel_rfl, fun w' hw' => by have h := hw'.2.at_ 6 _ rfl; clear hw'; go_simp⟩) hH ?_
 simp only [Act.put]
 refine tk_ (i := 8) (v := .pointer (some ⟨w.heap.size, 1, none⟩)) rfl (Or.inl ⟨by kernel_rfl, fun w' hw' => by clear hw'; go_simp⟩) hH ?_
 simp only [Act.put]
 refine tk_ (i := 9) (v := .int .i64 opn) rfl (Or.inl ⟨by kernel_rfl, fun w' hw' => by have h := hw'.2.at_ 1 _ rfl; clear hw'; go_simp⟩) hH ?_
 simp only [Act.put]
 refine tk_ (i := 10) (v := .pointer (some ⟨p, 0, none⟩)) rfl (Or.inl ⟨by kernel_rfl, fun w' hw' => by clear hw'; go_simp⟩) hH ?_
 simp only [Act.put]
 refine tk_ (i := 11) (v := .pointer (some ⟨p, 0, none⟩)) rfl (Or.inl ⟨by kernel_rfl, fun w' hw' => by clear hw'; go_simp⟩) hH ?_
 simp only [Act.put]
 refine tk_ (i := 12) (v := .pointer (some ⟨p, 4, none⟩)) rfl (Or.inl ⟨by kernel_rfl, fun w' hw' => by clear hw'; go_simp⟩) hH ?_
 simp only [Act.put]
 refine tk_ (i := 13) (v := .pointer (some ⟨pb, 0, none⟩)) rfl (Or.inl ⟨by kernel_rfl, fun w' hw' => by have h := hw'.1.at_ 4 _ C4.out; clear hw'; go_simp⟩) hH ?_
 simp only [Act.put]
 refine tk_ (i := 14) (v := .pointer (some ⟨w.heap.size, 7, none⟩)) rfl (Or.inl ⟨by kernel_rfl, fun w' hw' => by clear hw'; go_simp⟩) hH ?_
 simp only [Act.put]
 refine tk_ (i := 15) (v := .int .i64 oper) rfl (Or.inl ⟨by kernel_rfl, fun w' hw' => by have h := hw'.2.at_ 7 _ rfl; clear hw'; go_simp⟩) hH ?_
 simp only [Act.put]
 refine tk_ (i := 16) (v := .pointer (some ⟨w.heap.size, 8, none⟩)) rfl (Or.inl ⟨by kernel_rfl, fun w' hw' => by clear hw'; go_simp⟩) hH ?_
 simp only [Act.put]
 refine tk_ (i := 17) (v := .string body) rfl (Or.inl ⟨by kernel_rfl, fun w' hw' => by have h := hw'.2.at_ 8 _ rfl; clear hw'; go_simp⟩) hH ?_
 simp only [Act.put]
 replace HGW := hid (HGW.out.below (below_drewN (Below.refl _ _) 1))
 refine rd1 (i := 18) (by kernel_rfl) rfl (fun K hK => ?_)
 rw [if_pos (by kernel_rfl)]
 go_simp
 go_at_call 55
 refine (HGW.out.callG (fun fq hk => HD.out _ fq hk)).mono ?_
 rintro e w6 ⟨rfl, hgw⟩
 replace HGW := hid hgw
 replace HE2 := hid (hgw.frame.row HE.out.drew HLT.out)
 replace HA2 := hid (hgw.frame.row HA.out.drew HLT1.out)
 clear hgw
 go_wp2_with fail
 refine hK.out _ _ (⟨HGW.out.row, HE2.out⟩) (fun hH => ?_)
 clear hK K
 try simp only [Act.put]
 refine rd1 (i := 19) (by kernel_rfl) rfl (fun K hK => ?_)
 rw [if_pos (by kernel_rfl)]
 go_simp
 go_at_call 54
 refine (HGW.out.callG (fun fq hk => HT.out _ fq hk)).mono ?_
 rintro e w7 ⟨rfl, hgw⟩
 replace HGW := hid hgw
 replace HE2 := hid (hgw.frame.row HE.out.drew HLT.out)
 replace HA2 := hid (hgw.frame.row HA.out.drew HLT1.out)
 clear hgw
 go_wp2_with fail
 refine hK.out _ _ (⟨HGW.out.row, HE2.out⟩) (fun hH => ?_)
 clear hK K
 try simp only [Act.put]
 refine wpAnyH_done (by kernel_rfl) ?_ _
 try simp only [Act.put]
 have e4 := HE2.out.at_ 4 _ rfl
 go_wp2_with (first
  | (go_at_call 34; obtain ⟨fq, hq, -⟩ := HGW.out; refine (HN.out _ fq hq).mono ?_; rintro e w3 ⟨rfl, hb3⟩; have HG3 := hid (HGW.out.below hb3); have HA3 := hid (HA2.out.below hb3 HA2.out.lt); clear hb3 hq)
  | (refine wpl_store_st rfl (.tmp 4) (.tmp 41) rfl HZ.out (w.heap.size + 1) an0.cells.toList (#[.int .i64 1, .int .i64 xc, .int .i64 xs, .int .i64 xr, .int .i64 xo, .string xt] : Array Value).toList rfl rfl HA3.out ?_ (hid rfl) (hid rfl) (hid rfl); intro w5 hr5 hg5))
 refine bodyPost_ret (v := .agg #[.int .i64 1, .int .i64 xc, .int .i64 xs, .int .i64 xr, .int .i64 xo, .string xt])
  (results_cell_row rfl _ _ (w.heap.size + 1) 33 _ (0, 0) _ rfl hr5.arr' Tryz.underlying33 rfl HZ.out) rfl ⟨rfl, Gmw.leave HH.out (below_drewN HB0.out 1) HG3.out hg5 (by omega) (by have := HSZ.out; show _ < (World.drewN _ _).heap.size; simp)⟩
/-! ### register and request, in plain words -/
theorem mreg_any (e : En) (m : Mk) (p ps pb : Nat) (M : Mw) (fp : List Nat) (w : World) (hr : Rt e) (h1 : e.oper = 1) (h : Gm KP.1 KP.2.1 KP.2.2 p ps pb (mcs m ps pb) M fp w) :
  Calls Tryz.prog 29 #[.pointer (some ⟨p, 0, none⟩), e.val] w fun x w' => x = .returned (M.does e.client e.session e.request e.oper e.opn e.body).2.val ∧ Gmw KP.1 KP.2.1 KP.2.2 p ps pb w fp (mcs m ps pb) (M.does e.client e.session e.request e.oper e.opn e.body).1 w' := by
 obtain ⟨view, opn_, under, parent, client, session, request, oper, body⟩ := e
 simp only at h1
 obtain ⟨⟨r1, r2⟩, ⟨r3, r4⟩, _⟩ := id hr
 simp only at r1 r2 r3 r4
 have HO := fun W fq (hk : Gm KP.1 KP.2.1 KP.2.2 p ps pb (mcs m ps pb) M fq W) => (Gmw.start hk).call_s (fun fs hs => opn_any ps fs M.T client opn_ W hs)
 have HN := fun W fq (hk : Gm KP.1 KP.2.1 KP.2.2 p ps pb (mcs m ps pb) ⟨opn M.T client opn_, M.B⟩ fq W) => mnoted_any p ⟨m, ⟨opn M.T client opn_, M.B⟩⟩ fq client W ⟨ps, pb, hk⟩
 unfold Ma.told at HN
 unfold Mw.does
 rw [if_pos h1]
 by_cases h2 : pl M.T client < M.T.length
 ·
  rw [if_pos h2]
  have ho : opn M.T client opn_ = M.T := by
   unfold opn
   rw [if_neg (fun q => (opnE_zero q).2.2 h2)]
  simp only [ho] at HO HN
  rw [look_here h2] at HN
  by_cases h3 : (M.his client).r = 0
  ·
   rw [if_pos h3]
   exact reg_told view opn_ under parent client session request oper body p ps pb _ M M fp w h rfl rfl _ _ _ _ _ _ _ (by show ((M.his client).r == 0) = true; rw [h3]; rfl) (hid HO) (hid HN)
  ·
   rw [if_neg h3]
   exact reg_none view opn_ under parent client session request oper body p ps pb _ M M fp w h rfl rfl _ _ _ _ _ _ _ (by show ((M.his client).r == 0) = false; exact beq_eq_false_iff_ne.2 h3) (hid HO) (hid HN)
 ·
  rw [if_neg h2]
  have he := opn_new h2 (show Fit1 client from ⟨r3, r4⟩) (show Fit1 opn_ from ⟨r1, r2⟩)
  rw [look_opn he] at HN
  exact reg_told view opn_ under parent client session request oper body p ps pb _ M _ fp w h rfl rfl _ _ _ _ _ _ _ rfl (hid HO) (hid HN)
theorem mreq_any (e : En) (m : Mk) (p ps pb : Nat) (M : Mw) (fp : List Nat) (w : World) (hr : Rt e) (h1 : e.oper ≠ 1) (h : Gm KP.1 KP.2.1 KP.2.2 p ps pb (mcs m ps pb) M fp w) :
  Calls Tryz.prog 30 #[.pointer (some ⟨p, 0, none⟩), e.val] w fun x w' => x = .returned (M.does e.client e.session e.request e.oper e.opn e.body).2.val ∧ Gmw KP.1 KP.2.1 KP.2.2 p ps pb w fp (mcs m ps pb) (M.does e.client e.session e.request e.oper e.opn e.body).1 w' := by
 obtain ⟨view, opn_, under, parent, client, session, request, oper, body⟩ := e
 simp only at h1
 obtain ⟨⟨r1, r2⟩, ⟨r3, r4⟩, _, _, _, ⟨r5, r6⟩, _, _, r7⟩ := id hr
 simp only at r1 r2 r3 r4 r5 r6 r7
 have HV := fun W fq (hk : Gm KP.1 KP.2.1 KP.2.2 p ps pb (mcs m ps pb) M fq W) => hk.s.elim fun fs hs => ver_any ps fs M.T client session request W hs
 have HN := fun (T : List Ss) (B : Lg) W fq (hk : Gm KP.1 KP.2.1 KP.2.2 p ps pb (mcs m ps pb) ⟨T, B⟩ fq W) => mnoted_any p ⟨m, ⟨T, B⟩⟩ fq client W ⟨ps, pb, hk⟩
 unfold Ma.told at HN
 unfold Mw.does
 rw [if_neg h1]
 by_cases v5 : ver M.T client session request = 5
 ·
  rw [if_pos v5]
  rw [v5] at HV
  exact req_gone view opn_ under parent client session request oper body p ps pb _ M fp w h rfl rfl (hid HV)
 rw [if_neg v5]
 by_cases v1 : ver M.T client session request = 1
 ·
  rw [if_pos v1]
  rw [v1] at HV
  have hz := note_fresh (M := M) (op := oper) (t := body) (o := opn_) v1 ⟨r5, r6⟩ ⟨by omega, r2⟩
  obtain ⟨p1, p2, p3⟩ := ver_fresh_iff.1 v1
  have hN := HN (note M.T client request opn_ (M.ans oper body)) (M.B.doo oper (sb body)).1
  rw [look_note hz] at hN
  have hc := his_here (M := M) p1
  have hN' : ∀ W fq, Gm KP.1 KP.2.1 KP.2.2 p ps pb (mcs m ps pb) ⟨note M.T client request opn_ (M.ans oper body), (M.B.doo oper (sb body)).1⟩ fq W → Calls Tryz.prog 34 #[.pointer (some ⟨p, 0, none⟩), .int .i64 client] W (VE W (.agg #[.int .i64 1, .int .i64 client, .int .i64 session, .int .i64 request, .int .i64 opn_, .string (M.ans oper body)])) := fun W fq hk => by
   have q := hN W fq hk
   have e1 : (noted (at_8 M.T (pl M.T client)) request opn_ (M.ans oper body)) = ⟨client, session, request, opn_, M.ans oper body⟩ := by
    show (⟨(M.his client).c, (at_8 M.T (pl M.T client)).s, request, opn_, M.ans oper body⟩ : Ss) = _
    rw [hc, p2]
   rw [e1] at q
   exact q
  exact req_fresh view opn_ under parent client session request oper body p ps pb _ M fp w h rfl rfl ⟨M.T, (M.B.doo oper (sb body)).1⟩ _ (M.ans oper body) 0 _ _ _ _ _ (hid HV)
   (hid fun W fq hk => (Gmw.start hk).call_b (fun fb hb => do_any pb fb M.B body W (by omega) hb oper))
   (hid fun W fq hk => (Gmw.start hk).call_s (fun fs hs => by
    have q := not_any ps fs M.T client request opn_ (M.ans oper body) W hs
    rw [hz] at q
    exact q)) (hid hN')
 rw [if_neg v1]
 by_cases v2 : ver M.T client session request = 2
 ·
  rw [if_pos v2]
  rw [v2] at HV
  have p1 := (ver_here (T := M.T) (c := client) (s := session) (r := request) (by rw [v2]; decide)).1
  have hN := HN M.T M.B
  rw [look_here p1] at hN
  exact req_again view opn_ under parent client session request oper body p ps pb _ M fp w h rfl rfl _ _ _ _ _ (hid HV) (hid hN)
 ·
  rw [if_neg v2]
  exact req_else view opn_ under parent client session request oper body p ps pb _ M fp w h rfl rfl _ (beq_eq_false_iff_ne.2 v1) (beq_eq_false_iff_ne.2 v2) (beq_eq_false_iff_ne.2 v5) (hid HV)
/-! ### Apply -/
theorem app_form (view opn under : Int) (parent : Nat) (client session request oper : Int) (body : ByteArray) (p ps pb : Nat) (mo mv : Int) (ms : Nat) (M : Mw) (fp : List Nat) (w : World) (hf : Fd w) (h : Gm KP.1 KP.2.1 KP.2.2 p ps pb [.int .i64 mo, .int .i64 mv, .int .u64 (ms : Int), .pointer (some ⟨ps, 0, none⟩), .pointer (some ⟨pb, 0, none⟩)] M fp w)
  (HR : Hid (∀ W : World, Calls Tryz.prog 25 #[.agg #[.int .i64 view, .int .i64 opn, .int .i64 under, .int .u64 (parent : Int), .int .i64 client, .int .i64 session, .int .i64 request, .int .i64 oper, .string body]] W (VE W (.bool false)))) :
  Calls Tryz.prog 8 #[.pointer (some ⟨p, 0, none⟩), .agg #[.int .i64 view, .int .i64 opn, .int .i64 under, .int .u64 (parent : Int), .int .i64 client, .int .i64 session, .int .i64 request, .int .i64 oper, .string body]] w fun e w' => e = .returned (.tuple #[.agg #[.int .i64 0, .int .i64 0, .int .i64 0, .int .i64 0, .int .i64 0, .string ⟨#[]⟩], .int .i64 4]) ∧ Gmw KP.1 KP.2.1 KP.2.2 p ps pb w fp [.int .i64 mo, .int .i64 mv, .int .u64 (ms : Int), .pointer (some ⟨ps, 0, none⟩), .pointer (some ⟨pb, 0, none⟩)] M w' := by
 have HB0 : Hid (Below w.heap.size w ((w.alloc (.cells #[.int .i64 view, .int .i64 opn, .int .i64 under, .int .u64 (parent : Int), .int .i64 client, .int .i64 session, .int .i64 request, .int .i64 oper, .string body] 31)).alloc (.cells #[.int .i64 0, .int .i64 0, .int .i64 0, .int .i64 0, .int .i64 0, .string ⟨#[]⟩] 33))) := hid (((Below.refl w.heap.size w).alloc (Nat.le_refl _) _).alloc (by simp) _)
 have HE : Hid (Row ((w.alloc (.cells #[.int .i64 view, .int .i64 opn, .int .i64 under, .int .u64 (parent : Int), .int .i64 client, .int .i64 session, .int .i64 request, .int .i64 oper, .string body] 31)).alloc (.cells #[.int .i64 0, .int .i64 0, .int .i64 0, .int .i64 0, .int .i64 0, .string ⟨#[]⟩] 33)) w.heap.size 31 (#[.int .i64 view, .int .i64 opn, .int .i64 under, .int .u64 (parent : Int), .int .i64 client, .int .i64 session, .int .i64 request, .int .i64 oper, .string body] : Array Value).toList) := hid ((Row.new _ _ _).alloc _)
 have HA : Hid (Row ((w.alloc (.cells #[.int .i64 view, .int .i64 opn, .int .i64 under, .int .u64 (parent : Int), .int .i64 client, .int .i64 session, .int .i64 request, .int .i64 oper, .string body] 31)).alloc (.cells #[.int .i64 0, .int .i64 0, .int .i64 0, .int .i64 0, .int .i64 0, .string ⟨#[]⟩] 33)) (w.heap.size + 1) 33 (#[.int .i64 0, .int .i64 0, .int .i64 0, .int .i64 0, .int .i64 0, .string ⟨#[]⟩] : Array Value).toList) := hid (by
  have := Row.new (w.alloc (.cells #[.int .i64 view, .int .i64 opn, .int .i64 under, .int .u64 (parent : Int), .int .i64 client, .int .i64 session, .int .i64 request, .int .i64 oper, .string body] 31)) 33 #[.int .i64 0, .int .i64 0, .int .i64 0, .int .i64 0, .int .i64 0, .string ⟨#[]⟩]
  simpa using this)
 have HSZ : Hid (((w.alloc (.cells #[.int .i64 view, .int .i64 opn, .int .i64 under, .int .u64 (parent : Int), .int .i64 client, .int .i64 session, .int .i64 request, .int .i64 oper, .string body] 31)).alloc (.cells #[.int .i64 0, .int .i64 0, .int .i64 0, .int .i64 0, .int .i64 0, .string ⟨#[]⟩] 33)).heap.size = w.heap.size + 2) := hid (by simp)
 have HG := hid (h.below HB0.out)
 have HCC := hid HG.out.row
 have HZ := hid asize
 have HH := hid h
 have HLT := hid (show w.heap.size ∉ fp from fun q => by have := h.lt _ q; omega)
 have HLT1 := hid (show (w.heap.size + 1) ∉ fp from fun q => by have := h.lt _ q; omega)
 have HZE := hid esize
 have HZM := hid msize
 clear h
 have HF := hid hf
 clear hf
 have HGW := hid (Gmw.start HG.out)
 go_enter Tryz.func8, Tryz.ntmps8
 go_wp2_with (first
  | (refine wpList_load_row rfl 31 (.tmp 3) rfl w.heap.size rfl 31 #[.int .i64 view, .int .i64 opn, .int .i64 under, .int .u64 (parent : Int), .int .i64 client, .int .i64 session, .int .i64 request, .int .i64 oper, .string body] (0, 0) _ (Row.arr (cs := #[.int .i64 view, .int .i64 opn, .int .i64 under, .int .u64 (parent : Int), .int .i64 client, .int .i64 session, .int .i64 request, .int .i64 oper, .string body]) (HGW.out.frame.row HE.out HLT.out)) Tryz.underlying31 rfl HZE.out ?_)
  | (go_at_call 25; refine (HR.out _).mono ?_; rintro e w1 ⟨rfl, hb1⟩; replace HGW := hid (HGW.out.below hb1); have HB1 := hid (HB0.out.trans (hb1.mono HB0.out.size)); clear hb1)
  | (refine wpl_store_st rfl (.tmp 4) (.tmp 12) rfl HZ.out (w.heap.size + 1) an0.cells.toList an0.cells.toList rfl rfl (HGW.out.frame.row HA.out HLT1.out) ?_ (hid rfl) (hid rfl) (hid rfl); intro w5 hr5 hg5))
 refine bodyPost_ret (v := .tuple #[.agg #[.int .i64 0, .int .i64 0, .int .i64 0, .int .i64 0, .int .i64 0, .string ⟨#[]⟩], .int .i64 4])
  (results_cell1 rfl _ _ (w.heap.size + 1) 33 _ (0, 0) _ (.int .i64 4) rfl rfl hr5.arr' Tryz.underlying33 rfl HZ.out) rfl ⟨rfl, Gmw.leave HH.out HB0.out HGW.out hg5 (by omega) (by have := HSZ.out; omega)⟩
theorem app_order (view opn under : Int) (parent : Nat) (client session request oper : Int) (body : ByteArray) (p ps pb : Nat) (mo mv : Int) (ms : Nat) (M : Mw) (fp : List Nat) (w : World) (hf : Fd w) (h : Gm KP.1 KP.2.1 KP.2.2 p ps pb [.int .i64 mo, .int .i64 mv, .int .u64 (ms : Int), .pointer (some ⟨ps, 0, none⟩), .pointer (some ⟨pb, 0, none⟩)] M fp w)
  (HR : Hid (∀ W : World, Calls Tryz.prog 25 #[.agg #[.int .i64 view, .int .i64 opn, .int .i64 under, .int .u64 (parent : Int), .int .i64 client, .int .i64 session, .int .i64 request, .int .i64 oper, .string body]] W (VE W (.bool true)))) (HFo : Hid (∀ W : World, Calls Tryz.prog 28 #[.agg #[.int .i64 mo, .int .i64 mv, .int .u64 (ms : Int)], .agg #[.int .i64 view, .int .i64 opn, .int .i64 under, .int .u64 (parent : Int), .int .i64 client, .int .i64 session, .int .i64 request, .int .i64 oper, .string body]] W (VE W (.bool false)))) :
  Calls Tryz.prog 8 #[.pointer (some ⟨p, 0, none⟩), .agg #[.int .i64 view, .int .i64 opn, .int .i64 under, .int .u64 (parent : Int), .int .i64 client, .int .i64 session, .int .i64 request, .int .i64 oper, .string body]] w fun e w' => e = .returned (.tuple #[.agg #[.int .i64 0, .int .i64 0, .int .i64 0, .int .i64 0, .int .i64 0, .string ⟨#[]⟩], .int .i64 12]) ∧ Gmw KP.1 KP.2.1 KP.2.2 p ps pb w fp [.int .i64 mo, .int .i64 mv, .int .u64 (ms : Int), .pointer (some ⟨ps, 0, none⟩), .pointer (some ⟨pb, 0, none⟩)] M w' := by
 have HB0 : Hid (Below w.heap.size w ((w.alloc (.cells #[.int .i64 view, .int .i64 opn, .int .i64 under, .int .u64 (parent : Int), .int .i64 client, .int .i64 session, .int .i64 request, .int .i64 oper, .string body] 31)).alloc (.cells #[.int .i64 0, .int .i64 0, .int .i64 0, .int .i64 0, .int .i64 0, .string ⟨#[]⟩] 33))) := hid (((Below.refl w.heap.size w).alloc (Nat.le_refl _) _).alloc (by simp) _)
 have HE : Hid (Row ((w.alloc (.cells #[.int .i64 view, .int .i64 opn, .int .i64 under, .int .u64 (parent : Int), .int .i64 client, .int .i64 session, .int .i64 request, .int .i64 oper, .string body] 31)).alloc (.cells #[.int .i64 0, .int .i64 0, .int .i64 0, .int .i64 0, .int .i64 0, .string ⟨#[]⟩] 33)) w.heap.size 31 (#[.int .i64 view, .int .i64 opn, .int .i64 under, .int .u64 (parent : Int), .int .i64 client, .int .i64 session, .int .i64 request, .int .i64 oper, .string body] : Array Value).toList) := hid ((Row.new _ _ _).alloc _)
 have HA : Hid (Row ((w.alloc (.cells #[.int .i64 view, .int .i64 opn, .int .i64 under, .int .u64 (parent : Int), .int .i64 client, .int .i64 session, .int .i64 request, .int .i64 oper, .string body] 31)).alloc (.cells #[.int .i64 0, .int .i64 0, .int .i64 0, .int .i64 0, .int .i64 0, .string ⟨#[]⟩] 33)) (w.heap.size + 1) 33 (#[.int .i64 0, .int .i64 0, .int .i64 0, .int .i64 0, .int .i64 0, .string ⟨#[]⟩] : Array Value).toList) := hid (by
  have := Row.new (w.alloc (.cells #[.int .i64 view, .int .i64 opn, .int .i64 under, .int .u64 (parent : Int), .int .i64 client, .int .i64 session, .int .i64 request, .int .i64 oper, .string body] 31)) 33 #[.int .i64 0, .int .i64 0, .int .i64 0, .int .i64 0, .int .i64 0, .string ⟨#[]⟩]
  simpa using this)
 have HSZ : Hid (((w.alloc (.cells #[.int .i64 view, .int .i64 opn, .int .i64 under, .int .u64 (parent : Int), .int .i64 client, .int .i64 session, .int .i64 request, .int .i64 oper, .string body] 31)).alloc (.cells #[.int .i64 0, .int .i64 0, .int .i64 0, .int .i64 0, .int .i64 0, .string ⟨#[]⟩] 33)).heap.size = w.heap.size + 2) := hid (by simp)
 have HG := hid (h.below HB0.out)
 have HCC := hid HG.out.row
 have HZ := hid asize
 have HH := hid h
 have HLT := hid (show w.heap.size ∉ fp from fun q => by have := h.lt _ q; omega)
 have HLT1 := hid (show (w.heap.size + 1) ∉ fp from fun q => by have := h.lt _ q; omega)
 have HZE := hid esize
 have HZM := hid msize
 clear h
 have HF := hid hf
 clear hf
 have HGW := hid (Gmw.start HG.out)
 go_enter Tryz.func8, Tryz.ntmps8
 go_wp2_with (first
  | (refine wpList_load_row rfl 31 (.tmp 3) rfl w.heap.size rfl 31 #[.int .i64 view, .int .i64 opn, .int .i64 under, .int .u64 (parent : Int), .int .i64 client, .int .i64 session, .int .i64 request, .int .i64 oper, .string body] (0, 0) _ (Row.arr (cs := #[.int .i64 view, .int .i64 opn, .int .i64 under, .int .u64 (parent : Int), .int .i64 client, .int .i64 session, .int .i64 request, .int .i64 oper, .string body]) (HGW.out.frame.row HE.out HLT.out)) Tryz.underlying31 rfl HZE.out ?_)
  | (go_at_call 25; refine (HR.out _).mono ?_; rintro e w1 ⟨rfl, hb1⟩; replace HGW := hid (HGW.out.below hb1); have HB1 := hid (HB0.out.trans (hb1.mono HB0.out.size)); clear hb1))
 try simp only [Act.put]
 refine wp_region_held_drew (S := fun W => Row W p 70 [.int .i64 mo, .int .i64 mv, .int .u64 (ms : Int), .pointer (some ⟨ps, 0, none⟩), .pointer (some ⟨pb, 0, none⟩)] ∧ Row W w.heap.size 31 (#[.int .i64 view, .int .i64 opn, .int .i64 under, .int .u64 (parent : Int), .int .i64 client, .int .i64 session, .int .i64 request, .int .i64 oper, .string body] : Array Value).toList) (by kernel_rfl) ⟨HGW.out.row.drew, (HGW.out.frame.row HE.out HLT.out).drew⟩ (fun hH => ?_)
 refine tk_ (i := 0) (v := .pointer (some ⟨p, 0, none⟩)) rfl (Or.inl ⟨by kernel_rfl, fun w' hw' => by clear hw'; go_simp⟩) hH ?_
 simp only [Act.put]
 refine tk_ (i := 1) (v := .pointer (some ⟨p, 0, none⟩)) rfl (Or.inl ⟨by kernel_rfl, fun w' hw' => by clear hw'; go_simp⟩) hH ?_
 simp only [Act.put]
 refine tk_ (i := 2) (v := .pointer (some ⟨p, 0, none⟩)) rfl (Or.inl ⟨by kernel_rfl, fun w' hw' => by clear hw'; go_simp⟩) hH ?_
 simp only [Act.put]
 refine tk_ (i := 3) (v := .agg #[.int .i64 mo, .int .i64 mv, .int .u64 (ms : Int)]) rfl ?_ hH ?_
 ·
  refine yieldsIf_load_mid ?_ 41 (.tmp 15) ?_ p 0 ?_ [.int .i64 mo, .int .i64 mv, .int .u64 (ms : Int)] _ (fun W hW => Row.pre (xs := [.int .i64 mo, .int .i64 mv, .int .u64 (ms : Int)]) (ys := [.pointer (some ⟨ps, 0, none⟩), .pointer (some ⟨pb, 0, none⟩)]) hW.1) Tryz.underlying41 rfl HZM.out
  all_goals kernel_rfl
 simp only [Act.put]
 refine tk_ (i := 4) (v := .agg #[.int .i64 view, .int .i64 opn, .int .i64 under, .int .u64 (parent : Int), .int .i64 client, .int .i64 session, .int .i64 request, .int .i64 oper, .string body]) rfl ?_ hH ?_
 ·
  refine yieldsIf_load_mid ?_ 31 (.tmp 3) ?_ w.heap.size 0 ?_ (Array.toList #[.int .i64 view, .int .i64 opn, .int .i64 under, .int .u64 (parent : Int), .int .i64 client, .int .i64 session, .int .i64 request, .int .i64 oper, .string body]) _ (fun W hW => Row.range hW.2) Tryz.underlying31 rfl HZE.out
  all_goals kernel_rfl
 simp only [Act.put]
 replace HGW := hid (HGW.out.below (below_drewN (Below.refl _ _) 1))
 have HB1d := hid (below_drewN HB1.out 1)
 refine rd1 (i := 5) (by kernel_rfl) rfl (fun K hK => ?_)
 rw [if_pos (by kernel_rfl)]
 go_simp
 go_at_call 28
 refine (HFo.out _).mono ?_
 rintro e w2 ⟨rfl, hb2⟩
 replace HGW := hid (HGW.out.below hb2)
 have HB2 := hid (HB1d.out.trans (Below.mono hb2 HB1d.out.size))
 clear hb2
 go_wp2_with fail
 refine hK.out _ _ (⟨HGW.out.row, HGW.out.frame.row HE.out HLT.out⟩) (fun hH => ?_)
 clear hK K
 try simp only [Act.put]
 refine tk_ (i := 6) (v := .bool true) rfl (Or.inl ⟨by kernel_rfl, fun w' hw' => by clear hw'; go_simp⟩) hH ?_
 simp only [Act.put]
 refine wpAnyH_done (by kernel_rfl) ?_ _
 try simp only [Act.put]
 go_wp2_with (first
  | (refine wpl_store_st rfl (.tmp 4) (.tmp 20) rfl HZ.out (w.heap.size + 1) an0.cells.toList an0.cells.toList rfl rfl (HGW.out.frame.row HA.out HLT1.out) ?_ (hid rfl) (hid rfl) (hid rfl); intro w5 hr5 hg5))
 refine bodyPost_ret (v := .tuple #[.agg #[.int .i64 0, .int .i64 0, .int .i64 0, .int .i64 0, .int .i64 0, .string ⟨#[]⟩], .int .i64 12])
  (results_cell1 rfl _ _ (w.heap.size + 1) 33 _ (0, 0) _ (.int .i64 12) rfl rfl hr5.arr' Tryz.underlying33 rfl HZ.out) rfl ⟨rfl, Gmw.leave HH.out HB0.out HGW.out hg5 (by omega) (by have := HSZ.out; omega)⟩
theorem app_reg (view opn under : Int) (parent : Nat) (client session request oper : Int) (body : ByteArray) (p ps pb : Nat) (mo mv : Int) (ms : Nat) (M : Mw) (fp : List Nat) (w : World) (hf : Fd w) (h : Gm KP.1 KP.2.1 KP.2.2 p ps pb [.int .i64 mo, .int .i64 mv, .int .u64 (ms : Int), .pointer (some ⟨ps, 0, none⟩), .pointer (some ⟨pb, 0, none⟩)] M fp w) (M' : Mw) (no nv : Int) (ns : Nat) (A : Array Value) (ha6 : A.size = 6) (ha1 : A.all (·.oneCell') = true) (hop : (oper == 1) = true)
  (HR : Hid (∀ W : World, Calls Tryz.prog 25 #[.agg #[.int .i64 view, .int .i64 opn, .int .i64 under, .int .u64 (parent : Int), .int .i64 client, .int .i64 session, .int .i64 request, .int .i64 oper, .string body]] W (VE W (.bool true)))) (HFo : Hid (∀ W : World, Calls Tryz.prog 28 #[.agg #[.int .i64 mo, .int .i64 mv, .int .u64 (ms : Int)], .agg #[.int .i64 view, .int .i64 opn, .int .i64 under, .int .u64 (parent : Int), .int .i64 client, .int .i64 session, .int .i64 request, .int .i64 oper, .string body]] W (VE W (.bool true))))
  (HM : Hid (∀ W : World, Fd W → Calls Tryz.prog 24 #[.agg #[.int .i64 view, .int .i64 opn, .int .i64 under, .int .u64 (parent : Int), .int .i64 client, .int .i64 session, .int .i64 request, .int .i64 oper, .string body]] W (VE W (.agg #[.int .i64 no, .int .i64 nv, .int .u64 (ns : Int)]))))
  (HC : Hid (∀ (W : World) fq, Gm KP.1 KP.2.1 KP.2.2 p ps pb [.int .i64 no, .int .i64 nv, .int .u64 (ns : Int), .pointer (some ⟨ps, 0, none⟩), .pointer (some ⟨pb, 0, none⟩)] M fq W → Calls Tryz.prog 29 #[.pointer (some ⟨p, 0, none⟩), .agg #[.int .i64 view, .int .i64 opn, .int .i64 under, .int .u64 (parent : Int), .int .i64 client, .int .i64 session, .int .i64 request, .int .i64 oper, .string body]] W fun e w' => e = .returned (.agg A) ∧ Gmw KP.1 KP.2.1 KP.2.2 p ps pb W fq [.int .i64 no, .int .i64 nv, .int .u64 (ns : Int), .pointer (some ⟨ps, 0, none⟩), .pointer (some ⟨pb, 0, none⟩)] M' w')) :
  Calls Tryz.prog 8 #[.pointer (some ⟨p, 0, none⟩), .agg #[.int .i64 view, .int .i64 opn, .int .i64 under, .int .u64 (parent : Int), .int .i64 client, .int .i64 session, .int .i64 request, .int .i64 oper, .string body]] w fun e w' => e = .returned (.tuple #[.agg A, .int .i64 0]) ∧ Gmw KP.1 KP.2.1 KP.2.2 p ps pb w fp [.int .i64 no, .int .i64 nv, .int .u64 (ns : Int), .pointer (some ⟨ps, 0, none⟩), .pointer (some ⟨pb, 0, none⟩)] M' w' := by
 have HB0 : Hid (Below w.heap.size w ((w.alloc (.cells #[.int .i64 view, .int .i64 opn, .int .i64 under, .int .u64 (parent : Int), .int .i64 client, .int .i64 session, .int .i64 request, .int .i64 oper, .string body] 31)).alloc (.cells #[.int .i64 0, .int .i64 0, .int .i64 0, .int .i64 0, .int .i64 0, .string ⟨#[]⟩] 33))) := hid (((Below.refl w.heap.size w).alloc (Nat.le_refl _) _).alloc (by simp) _)
 have HE : Hid (Row ((w.alloc (.cells #[.int .i64 view, .int .i64 opn, .int .i64 under, .int .u64 (parent : Int), .int .i64 client, .int .i64 session, .int .i64 request, .int .i64 oper, .string body] 31)).alloc (.cells #[.int .i64 0, .int .i64 0, .int .i64 0, .int .i64 0, .int .i64 0, .string ⟨#[]⟩] 33)) w.heap.size 31 (#[.int .i64 view, .int .i64 opn, .int .i64 under, .int .u64 (parent : Int), .int .i64 client, .int .i64 session, .int .i64 request, .int .i64 oper, .string body] : Array Value).toList) := hid ((Row.new _ _ _).alloc _)
 have HA : Hid (Row ((w.alloc (.cells #[.int .i64 view, .int .i64 opn, .int .i64 under, .int .u64 (parent : Int), .int .i64 client, .int .i64 session, .int .i64 request, .int .i64 oper, .string body] 31)).alloc (.cells #[.int .i64 0, .int .i64 0, .int .i64 0, .int .i64 0, .int .i64 0, .string ⟨#[]⟩] 33)) (w.heap.size + 1) 33 (#[.int .i64 0, .int .i64 0, .int .i64 0, .int .i64 0, .int .i64 0, .string ⟨#[]⟩] : Array Value).toList) := hid (by
  have := Row.new (w.alloc (.cells #[.int .i64 view, .int .i64 opn, .int .i64 under, .int .u64 (parent : Int), .int .i64 client, .int .i64 session, .int .i64 request, .int .i64 oper, .string body] 31)) 33 #[.int .i64 0, .int .i64 0, .int .i64 0, .int .i64 0, .int .i64 0, .string ⟨#[]⟩]
  simpa using this)
 have HSZ : Hid (((w.alloc (.cells #[.int .i64 view, .int .i64 opn, .int .i64 under, .int .u64 (parent : Int), .int .i64 client, .int .i64 session, .int .i64 request, .int .i64 oper, .string body] 31)).alloc (.cells #[.int .i64 0, .int .i64 0, .int .i64 0, .int .i64 0, .int .i64 0, .string ⟨#[]⟩] 33)).heap.size = w.heap.size + 2) := hid (by simp)
 have HG := hid (h.below HB0.out)
 have HCC := hid HG.out.row
 have HZ := hid asize
 have HH := hid h
 have HLT := hid (show w.heap.size ∉ fp from fun q => by have := h.lt _ q; omega)
 have HLT1 := hid (show (w.heap.size + 1) ∉ fp from fun q => by have := h.lt _ q; omega)
 have HZE := hid esize
 have HZM := hid msize
 clear h
 have HF := hid hf
 clear hf
 have HGW := hid (Gmw.start HG.out)
 have HA6 := hid ha6
 have HA1 := hid ha1
 clear ha6 ha1
 go_enter Tryz.func8, Tryz.ntmps8
 go_wp2_with (first
  | (refine wpList_load_row rfl 31 (.tmp 3) rfl w.heap.size rfl 31 #[.int .i64 view, .int .i64 opn, .int .i64 under, .int .u64 (parent : Int), .int .i64 client, .int .i64 session, .int .i64 request, .int .i64 oper, .string body] (0, 0) _ (Row.arr (cs := #[.int .i64 view, .int .i64 opn, .int .i64 under, .int .u64 (parent : Int), .int .i64 client, .int .i64 session, .int .i64 request, .int .i64 oper, .string body]) (HGW.out.frame.row HE.out HLT.out)) Tryz.underlying31 rfl HZE.out ?_)
  | (go_at_call 25; refine (HR.out _).mono ?_; rintro e w1 ⟨rfl, hb1⟩; replace HGW := hid (HGW.out.below hb1); have HB1 := hid (HB0.out.trans (hb1.mono HB0.out.size)); clear hb1))
 try simp only [Act.put]
 refine wp_region_held_drew (S := fun W => Row W p 70 [.int .i64 mo, .int .i64 mv, .int .u64 (ms : Int), .pointer (some ⟨ps, 0, none⟩), .pointer (some ⟨pb, 0, none⟩)] ∧ Row W w.heap.size 31 (#[.int .i64 view, .int .i64 opn, .int .i64 under, .int .u64 (parent : Int), .int .i64 client, .int .i64 session, .int .i64 request, .int .i64 oper, .string body] : Array Value).toList) (by kernel_rfl) ⟨HGW.out.row.drew, (HGW.out.frame.row HE.out HLT.out).drew⟩ (fun hH => ?_)
 refine tk_ (i := 0) (v := .pointer (some ⟨p, 0, none⟩)) rfl (Or.inl ⟨by kernel_rfl, fun w' hw' => by clear hw'; go_simp⟩) hH ?_
 simp only [Act.put]
 refine tk_ (i := 1) (v := .pointer (some ⟨p, 0, none⟩)) rfl (Or.inl ⟨by kernel_rfl, fun w' hw' => by clear hw'; go_simp⟩) hH ?_
 simp only [Act.put]
 refine tk_ (i := 2) (v := .pointer (some ⟨p, 0, none⟩)) rfl (Or.inl ⟨by kernel_rfl, fun w' hw' => by clear hw'; go_simp⟩) hH ?_
 simp only [Act.put]
 refine tk_ (i := 3) (v := .agg #[.int .i64 mo, .int .i64 mv, .int .u64 (ms : Int)]) rfl ?_ hH ?_
 ·
  refine yieldsIf_load_mid ?_ 41 (.tmp 15) ?_ p 0 ?_ [.int .i64 mo, .int .i64 mv, .int .u64 (ms : Int)] _ (fun W hW => Row.pre (xs := [.int .i64 mo, .int .i64 mv, .int .u64 (ms : Int)]) (ys := [.pointer (some ⟨ps, 0, none⟩), .pointer (some ⟨pb, 0, none⟩)]) hW.1) Tryz.underlying41 rfl HZM.out
  all_goals kernel_rfl
 simp only [Act.put]
 refine tk_ (i := 4) (v := .agg #[.int .i64 view, .int .i64 opn, .int .i64 under, .int .u64 (parent : Int), .int .i64 client, .int .i64 session, .int .i64 request, .int .i64 oper, .string body]) rfl ?_ hH ?_
 ·
  refine yieldsIf_load_mid ?_ 31 (.tmp 3) ?_ w.heap.size 0 ?_ (Array.toList #[.int .i64 view, .int .i64 opn, .int .i64 under, .int .u64 (parent : Int), .int .i64 client, .int .i64 session, .int .i64 request, .int .i64 oper, .string body]) _ (fun W hW => Row.range hW.2) Tryz.underlying31 rfl HZE.out
  all_goals kernel_rfl
 simp only [Act.put]
 replace HGW := hid (HGW.out.below (below_drewN (Below.refl _ _) 1))
 have HB1d := hid (below_drewN HB1.out 1)
 refine rd1 (i := 5) (by kernel_rfl) rfl (fun K hK => ?_)
 rw [if_pos (by kernel_rfl)]
 go_simp
 go_at_call 28
 refine (HFo.out _).mono ?_
 rintro e w2 ⟨rfl, hb2⟩
 replace HGW := hid (HGW.out.below hb2)
 have HB2 := hid (HB1d.out.trans (Below.mono hb2 HB1d.out.size))
 clear hb2
 go_wp2_with fail
 refine hK.out _ _ (⟨HGW.out.row, HGW.out.frame.row HE.out HLT.out⟩) (fun hH => ?_)
 clear hK K
 try simp only [Act.put]
 refine tk_ (i := 6) (v := .bool false) rfl (Or.inl ⟨by kernel_rfl, fun w' hw' => by clear hw'; go_simp⟩) hH ?_
 simp only [Act.put]
 refine wpAnyH_done (by kernel_rfl) ?_ _
 try simp only [Act.put]
 have HE7 : Hid (∀ W : World, Row W w.heap.size 31 (#[.int .i64 view, .int .i64 opn, .int .i64 under, .int .u64 (parent : Int), .int .i64 client, .int .i64 session, .int .i64 request, .int .i64 oper, .string body] : Array Value).toList → W.cell? ⟨w.heap.size, 7, none⟩ = some (.int .i64 oper)) := hid (fun W hW => hW.at_ 7 _ rfl)
 go_wp2_with (first
  | (refine wpList_load_row rfl 31 (.tmp 3) rfl w.heap.size rfl 31 #[.int .i64 view, .int .i64 opn, .int .i64 under, .int .u64 (parent : Int), .int .i64 client, .int .i64 session, .int .i64 request, .int .i64 oper, .string body] (0, 0) _ (Row.arr (cs := #[.int .i64 view, .int .i64 opn, .int .i64 under, .int .u64 (parent : Int), .int .i64 client, .int .i64 session, .int .i64 request, .int .i64 oper, .string body]) (HGW.out.frame.row HE.out HLT.out)) Tryz.underlying31 rfl HZE.out ?_)
  | (go_at_call 24; refine (HM.out _ (HF.out.below HB2.out HF.out.1)).mono ?_; rintro e w3 ⟨rfl, hb3⟩; replace HGW := hid (HGW.out.below hb3); clear hb3)
  | (refine wpl_store_pre rfl (.tmp 25) (.tmp 23) rfl HZM.out p [.int .i64 mo, .int .i64 mv, .int .u64 (ms : Int)] [.int .i64 no, .int .i64 nv, .int .u64 (ns : Int)] [.pointer (some ⟨ps, 0, none⟩), .pointer (some ⟨pb, 0, none⟩)] rfl rfl HGW.out.row ?_ (hid rfl) (hid rfl) (hid rfl); intro w4 hr4 hg4; replace HGW := hid (HGW.out.turn hr4 hg4); have e7 := HE7.out _ (HGW.out.frame.row HE.out HLT.out); clear hr4 hg4)
  | (go_at_call 29; refine (HGW.out.callG (fun fq hk => HC.out _ fq hk)).mono ?_; rintro e w6 ⟨rfl, hgw⟩; replace HGW := hid hgw; clear hgw)
  | (refine wpl_store_st9 rfl (.tmp 4) (.tmp 31) rfl HZ.out (w.heap.size + 1) an0.cells A rfl rfl (HGW.out.frame.row HA.out HLT1.out) ?_ (hid rfl) (hid HA6.out) (hid HA1.out); intro w5 hr5 hg5))
 refine bodyPost_ret (v := .tuple #[.agg A, .int .i64 0])
  (results_cell1 rfl _ _ (w.heap.size + 1) 33 A (0, 0) _ (.int .i64 0) rfl rfl hr5.arr Tryz.underlying33 rfl (by rw [HA6.out]; exact HZ.out)) rfl ⟨rfl, Gmw.leave HH.out HB0.out HGW.out hg5 (by omega) (by have := HSZ.out; omega)⟩
theorem app_req (view opn under : Int) (parent : Nat) (client session request oper : Int) (body : ByteArray) (p ps pb : Nat) (mo mv : Int) (ms : Nat) (M : Mw) (fp : List Nat) (w : World) (hf : Fd w) (h : Gm KP.1 KP.2.1 KP.2.2 p ps pb [.int .i64 mo, .int .i64 mv, .int .u64 (ms : Int), .pointer (some ⟨ps, 0, none⟩), .pointer (some ⟨pb, 0, none⟩)] M fp w) (M' : Mw) (no nv : Int) (ns : Nat) (A : Array Value) (ha6 : A.size = 6) (ha1 : A.all (·.oneCell') = true) (hop : (oper == 1) = false)
  (HR : Hid (∀ W : World, Calls Tryz.prog 25 #[.agg #[.int .i64 view, .int .i64 opn, .int .i64 under, .int .u64 (parent : Int), .int .i64 client, .int .i64 session, .int .i64 request, .int .i64 oper, .string body]] W (VE W (.bool true)))) (HFo : Hid (∀ W : World, Calls Tryz.prog 28 #[.agg #[.int .i64 mo, .int .i64 mv, .int .u64 (ms : Int)], .agg #[.int .i64 view, .int .i64 opn, .int .i64 under, .int .u64 (parent : Int), .int .i64 client, .int .i64 session, .int .i64 request, .int .i64 oper, .string body]] W (VE W (.bool true))))
  (HM : Hid (∀ W : World, Fd W → Calls Tryz.prog 24 #[.agg #[.int .i64 view, .int .i64 opn, .int .i64 under, .int .u64 (parent : Int), .int .i64 client, .int .i64 session, .int .i64 request, .int .i64 oper, .string body]] W (VE W (.agg #[.int .i64 no, .int .i64 nv, .int .u64 (ns : Int)]))))
  (HC : Hid (∀ (W : World) fq, Gm KP.1 KP.2.1 KP.2.2 p ps pb [.int .i64 no, .int .i64 nv, .int .u64 (ns : Int), .pointer (some ⟨ps, 0, none⟩), .pointer (some ⟨pb, 0, none⟩)] M fq W → Calls Tryz.prog 30 #[.pointer (some ⟨p, 0, none⟩), .agg #[.int .i64 view, .int .i64 opn, .int .i64 under, .int .u64 (parent : Int), .int .i64 client, .int .i64 session, .int .i64 request, .int .i64 oper, .string body]] W fun e w' => e = .returned (.agg A) ∧ Gmw KP.1 KP.2.1 KP.2.2 p ps pb W fq [.int .i64 no, .int .i64 nv, .int .u64 (ns : Int), .pointer (some ⟨ps, 0, none⟩), .pointer (some ⟨pb, 0, none⟩)] M' w')) :
  Calls Tryz.prog 8 #[.pointer (some ⟨p, 0, none⟩), .agg #[.int .i64 view, .int .i64 opn, .int .i64 under, .int .u64 (parent : Int), .int .i64 client, .int .i64 session, .int .i64 request, .int .i64 oper, .string body]] w fun e w' => e = .returned (.tuple #[.agg A, .int .i64 0]) ∧ Gmw KP.1 KP.2.1 KP.2.2 p ps pb w fp [.int .i64 no, .int .i64 nv, .int .u64 (ns : Int), .pointer (some ⟨ps, 0, none⟩), .pointer (some ⟨pb, 0, none⟩)] M' w' := by
 have HB0 : Hid (Below w.heap.size w ((w.alloc (.cells #[.int .i64 view, .int .i64 opn, .int .i64 under, .int .u64 (parent : Int), .int .i64 client, .int .i64 session, .int .i64 request, .int .i64 oper, .string body] 31)).alloc (.cells #[.int .i64 0, .int .i64 0, .int .i64 0, .int .i64 0, .int .i64 0, .string ⟨#[]⟩] 33))) := hid (((Below.refl w.heap.size w).alloc (Nat.le_refl _) _).alloc (by simp) _)
 have HE : Hid (Row ((w.alloc (.cells #[.int .i64 view, .int .i64 opn, .int .i64 under, .int .u64 (parent : Int), .int .i64 client, .int .i64 session, .int .i64 request, .int .i64 oper, .string body] 31)).alloc (.cells #[.int .i64 0, .int .i64 0, .int .i64 0, .int .i64 0, .int .i64 0, .string ⟨#[]⟩] 33)) w.heap.size 31 (#[.int .i64 view, .int .i64 opn, .int .i64 under, .int .u64 (parent : Int), .int .i64 client, .int .i64 session, .int .i64 request, .int .i64 oper, .string body] : Array Value).toList) := hid ((Row.new _ _ _).alloc _)
 have HA : Hid (Row ((w.alloc (.cells #[.int .i64 view, .int .i64 opn, .int .i64 under, .int .u64 (parent : Int), .int .i64 client, .int .i64 session, .int .i64 request, .int .i64 oper, .string body] 31)).alloc (.cells #[.int .i64 0, .int .i64 0, .int .i64 0, .int .i64 0, .int .i64 0, .string ⟨#[]⟩] 33)) (w.heap.size + 1) 33 (#[.int .i64 0, .int .i64 0, .int .i64 0, .int .i64 0, .int .i64 0, .string ⟨#[]⟩] : Array Value).toList) := hid (by
  have := Row.new (w.alloc (.cells #[.int .i64 view, .int .i64 opn, .int .i64 under, .int .u64 (parent : Int), .int .i64 client, .int .i64 session, .int .i64 request, .int .i64 oper, .string body] 31)) 33 #[.int .i64 0, .int .i64 0, .int .i64 0, .int .i64 0, .int .i64 0, .string ⟨#[]⟩]
  simpa using this)
 have HSZ : Hid (((w.alloc (.cells #[.int .i64 view, .int .i64 opn, .int .i64 under, .int .u64 (parent : Int), .int .i64 client, .int .i64 session, .int .i64 request, .int .i64 oper, .string body] 31)).alloc (.cells #[.int .i64 0, .int .i64 0, .int .i64 0, .int .i64 0, .int .i64 0, .string ⟨#[]⟩] 33)).heap.size = w.heap.size + 2) := hid (by simp)
 have HG := hid (h.below HB0.out)
 have HCC := hid HG.out.row
 have HZ := hid asize
 have HH := hid h
 have HLT := hid (show w.heap.size ∉ fp from fun q => by have := h.lt _ q; omega)
 have HLT1 := hid (show (w.heap.size + 1) ∉ fp from fun q => by have := h.lt _ q; omega)
 have HZE := hid esize
 have HZM := hid msize
 clear h
 have HF := hid hf
 clear hf
 have HGW := hid (Gmw.start HG.out)
 have HA6 := hid ha6
 have HA1 := hid ha1
 clear ha6 ha1
 go_enter Tryz.func8, Tryz.ntmps8
 go_wp2_with (first
  | (refine wpList_load_row rfl 31 (.tmp 3) rfl w.heap.size rfl 31 #[.int .i64 view, .int .i64 opn, .int .i64 under, .int .u64 (parent : Int), .int .i64 client, .int .i64 session, .int .i64 request, .int .i64 oper, .string body] (0, 0) _ (Row.arr (cs := #[.int .i64 view, .int .i64 opn, .int .i64 under, .int .u64 (parent : Int), .int .i64 client, .int .i64 session, .int .i64 request, .int .i64 oper, .string body]) (HGW.out.frame.row HE.out HLT.out)) Tryz.underlying31 rfl HZE.out ?_)
  | (go_at_call 25; refine (HR.out _).mono ?_; rintro e w1 ⟨rfl, hb1⟩; replace HGW := hid (HGW.out.below hb1); have HB1 := hid (HB0.out.trans (hb1.mono HB0.out.size)); clear hb1))
 try simp only [Act.put]
 refine wp_region_held_drew (S := fun W => Row W p 70 [.int .i64 mo, .int .i64 mv, .int .u64 (ms : Int), .pointer (some ⟨ps, 0, none⟩), .pointer (some ⟨pb, 0, none⟩)] ∧ Row W w.heap.size 31 (#[.int .i64 view, .int .i64 opn, .int .i64 under, .int .u64 (parent : Int), .int .i64 client, .int .i64 session, .int .i64 request, .int .i64 oper, .string body] : Array Value).toList) (by kernel_rfl) ⟨HGW.out.row.drew, (HGW.out.frame.row HE.out HLT.out).drew⟩ (fun hH => ?_)
 refine tk_ (i := 0) (v := .pointer (some ⟨p, 0, none⟩)) rfl (Or.inl ⟨by kernel_rfl, fun w' hw' => by clear hw'; go_simp⟩) hH ?_
 simp only [Act.put]
 refine tk_ (i := 1) (v := .pointer (some ⟨p, 0, none⟩)) rfl (Or.inl ⟨by kernel_rfl, fun w' hw' => by clear hw'; go_simp⟩) hH ?_
 simp only [Act.put]
 refine tk_ (i := 2) (v := .pointer (some ⟨p, 0, none⟩)) rfl (Or.inl ⟨by kernel_rfl, fun w' hw' => by clear hw'; go_simp⟩) hH ?_
 simp only [Act.put]
 refine tk_ (i := 3) (v := .agg #[.int .i64 mo, .int .i64 mv, .int .u64 (ms : Int)]) rfl ?_ hH ?_
 ·
  refine yieldsIf_load_mid ?_ 41 (.tmp 15) ?_ p 0 ?_ [.int .i64 mo, .int .i64 mv, .int .u64 (ms : Int)] _ (fun W hW => Row.pre (xs := [.int .i64 mo, .int .i64 mv, .int .u64 (ms : Int)]) (ys := [.pointer (some ⟨ps, 0, none⟩), .pointer (some ⟨pb, 0, none⟩)]) hW.1) Tryz.underlying41 rfl HZM.out
  all_goals kernel_rfl
 simp only [Act.put]
 refine tk_ (i := 4) (v := .agg #[.int .i64 view, .int .i64 opn, .int .i64 under, .int .u64 (parent : Int), .int .i64 client, .int .i64 session, .int .i64 request, .int .i64 oper, .string body]) rfl ?_ hH ?_
 ·
  refine yieldsIf_load_mid ?_ 31 (.tmp 3) ?_ w.heap.size 0 ?_ (Array.toList #[.int .i64 view, .int .i64 opn, .int .i64 under, .int .u64 (parent : Int), .int .i64 client, .int .i64 session, .int .i64 request, .int .i64 oper, .string body]) _ (fun W hW => Row.range hW.2) Tryz.underlying31 rfl HZE.out
  all_goals kernel_rfl
 simp only [Act.put]
 replace HGW := hid (HGW.out.below (below_drewN (Below.refl _ _) 1))
 have HB1d := hid (below_drewN HB1.out 1)
 refine rd1 (i := 5) (by kernel_rfl) rfl (fun K hK => ?_)
 rw [if_pos (by kernel_rfl)]
 go_simp
 go_at_call 28
 refine (HFo.out _).mono ?_
 rintro e w2 ⟨rfl, hb2⟩
 replace HGW := hid (HGW.out.below hb2)
 have HB2 := hid (HB1d.out.trans (Below.mono hb2 HB1d.out.size))
 clear hb2
 go_wp2_with fail
 refine hK.out _ _ (⟨HGW.out.row, HGW.out.frame.row HE.out HLT.out⟩) (fun hH => ?_)
 clear hK K
 try simp only [Act.put]
 refine tk_ (i := 6) (v := .bool false) rfl (Or.inl ⟨by kernel_rfl, fun w' hw' => by clear hw'; go_simp⟩) hH ?_
 simp only [Act.put]
 refine wpAnyH_done (by kernel_rfl) ?_ _
 try simp only [Act.put]
 have HE7 : Hid (∀ W : World, Row W w.heap.size 31 (#[.int .i64 view, .int .i64 opn, .int .i64 under, .int .u64 (parent : Int), .int .i64 client, .int .i64 session, .int .i64 request, .int .i64 oper, .string body] : Array Value).toList → W.cell? ⟨w.heap.size, 7, none⟩ = some (.int .i64 oper)) := hid (fun W hW => hW.at_ 7 _ rfl)
 go_wp2_with (first
  | (refine wpList_load_row rfl 31 (.tmp 3) rfl w.heap.size rfl 31 #[.int .i64 view, .int .i64 opn, .int .i64 under, .int .u64 (parent : Int), .int .i64 client, .int .i64 session, .int .i64 request, .int .i64 oper, .string body] (0, 0) _ (Row.arr (cs := #[.int .i64 view, .int .i64 opn, .int .i64 under, .int .u64 (parent : Int), .int .i64 client, .int .i64 session, .int .i64 request, .int .i64 oper, .string body]) (HGW.out.frame.row HE.out HLT.out)) Tryz.underlying31 rfl HZE.out ?_)
  | (go_at_call 24; refine (HM.out _ (HF.out.below HB2.out HF.out.1)).mono ?_; rintro e w3 ⟨rfl, hb3⟩; replace HGW := hid (HGW.out.below hb3); clear hb3)
  | (refine wpl_store_pre rfl (.tmp 25) (.tmp 23) rfl HZM.out p [.int .i64 mo, .int .i64 mv, .int .u64 (ms : Int)] [.int .i64 no, .int .i64 nv, .int .u64 (ns : Int)] [.pointer (some ⟨ps, 0, none⟩), .pointer (some ⟨pb, 0, none⟩)] rfl rfl HGW.out.row ?_ (hid rfl) (hid rfl) (hid rfl); intro w4 hr4 hg4; replace HGW := hid (HGW.out.turn hr4 hg4); have e7 := HE7.out _ (HGW.out.frame.row HE.out HLT.out); clear hr4 hg4)
  | (go_at_call 30; refine (HGW.out.callG (fun fq hk => HC.out _ fq hk)).mono ?_; rintro e w6 ⟨rfl, hgw⟩; replace HGW := hid hgw; clear hgw)
  | (refine wpl_store_st9 rfl (.tmp 4) (.tmp 34) rfl HZ.out (w.heap.size + 1) an0.cells A rfl rfl (HGW.out.frame.row HA.out HLT1.out) ?_ (hid rfl) (hid HA6.out) (hid HA1.out); intro w5 hr5 hg5))
 refine bodyPost_ret (v := .tuple #[.agg A, .int .i64 0])
  (results_cell1 rfl _ _ (w.heap.size + 1) 33 A (0, 0) _ (.int .i64 0) rfl rfl hr5.arr Tryz.underlying33 rfl (by rw [HA6.out]; exact HZ.out)) rfl ⟨rfl, Gmw.leave HH.out HB0.out HGW.out hg5 (by omega) (by have := HSZ.out; omega)⟩
theorem mapp_any (p : Nat) (S : Ma) (fp : List Nat) (e : En) (w : World) (he : e.fits) (hf : Fd w) (h : Hm KP p S fp w) :
  Calls Tryz.prog 8 #[.pointer (some ⟨p, 0, none⟩), e.val] w fun x w' => x = .returned (.tuple #[(S.appA e).val, .int .i64 (S.appE e)]) ∧ Hmw KP p w fp (S.app e) w' := by
 obtain ⟨ps, pb, h⟩ := h
 have HR := hid (fun W => eright_any e W)
 have HFo := hid (fun W => efol_any S.m e W)
 have HM := hid (fun W hW => emark_any e he W hW)
 unfold Ma.appA Ma.app
 by_cases hr : Rt e
 ·
  rw [decide_eq_true hr] at HR
  by_cases hfo : Fol S.m e
  ·
   rw [decide_eq_true hfo] at HFo
   rw [appE_ok hfo, if_pos rfl, if_pos rfl]
   by_cases h1 : e.oper = 1
   ·
    have HC := hid (fun W fq hk => mreg_any e (markE e) p ps pb S.w fq W hr h1 hk)
    unfold Ma.ans Ma.run
    obtain ⟨R, hR⟩ : ∃ R, R = S.w.does e.client e.session e.request e.oper e.opn e.body := ⟨_, rfl⟩
    rw [← hR] at HC ⊢
    generalize markE e = g at *
    clear hR
    obtain ⟨⟨mo, mv, ms⟩, M⟩ := S
    obtain ⟨go, gv, gs⟩ := g
    obtain ⟨view, opn_, under, parent, client, session, request, oper, body⟩ := e
    refine (app_reg view opn_ under parent client session request oper body p ps pb mo mv ms M fp w hf h R.1 go gv gs R.2.cells rfl R.2.one (by simp only at h1; rw [h1]; rfl) HR HFo HM HC).mono fun x w' hh => ⟨hh.1, Hmw.of (ps := ps) (pb := pb) hh.2⟩
   ·
    have HC := hid (fun W fq hk => mreq_any e (markE e) p ps pb S.w fq W hr h1 hk)
    unfold Ma.ans Ma.run
    obtain ⟨R, hR⟩ : ∃ R, R = S.w.does e.client e.session e.request e.oper e.opn e.body := ⟨_, rfl⟩
    rw [← hR] at HC ⊢
    generalize markE e = g at *
    clear hR
    obtain ⟨⟨mo, mv, ms⟩, M⟩ := S
    obtain ⟨go, gv, gs⟩ := g
    obtain ⟨view, opn_, under, parent, client, session, request, oper, body⟩ := e
    refine (app_req view opn_ under parent client session request oper body p ps pb mo mv ms M fp w hf h R.1 go gv gs R.2.cells rfl R.2.one (beq_eq_false_iff_ne.2 h1) HR HFo HM HC).mono fun x w' hh => ⟨hh.1, Hmw.of (ps := ps) (pb := pb) hh.2⟩
  ·
   rw [decide_eq_false hfo] at HFo
   rw [appE_order hr hfo, if_neg (by decide), if_neg (by decide)]
   obtain ⟨⟨mo, mv, ms⟩, M⟩ := S
   obtain ⟨view, opn_, under, parent, client, session, request, oper, body⟩ := e
   exact (app_order view opn_ under parent client session request oper body p ps pb mo mv ms M fp w hf h HR HFo).mono fun x w' hh => ⟨hh.1, Hmw.of (ps := ps) (pb := pb) hh.2⟩
 ·
  rw [decide_eq_false hr] at HR
  rw [appE_form hr, if_neg (by decide), if_neg (by decide)]
  obtain ⟨⟨mo, mv, ms⟩, M⟩ := S
  obtain ⟨view, opn_, under, parent, client, session, request, oper, body⟩ := e
  exact (app_form view opn_ under parent client session request oper body p ps pb mo mv ms M fp w hf h HR).mono fun x w' hh => ⟨hh.1, Hmw.of (ps := ps) (pb := pb) hh.2⟩
end Go.Proofs.YtgednnjmcjhfmaaGreatDoor
