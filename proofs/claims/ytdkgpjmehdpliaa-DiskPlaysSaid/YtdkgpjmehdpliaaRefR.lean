/-
  The answer's own disk: Fuse, Cut, Read.
-/
import Derived.Test.YtdkgpjmehdpliaaRefW
namespace Go.Proofs.Ytdkgpjmehdpliaa
open Go.RowKit

theorem rput_left {w : World} {q gl gm cl cm : Nat} {vw : Value} {S : Sp} (h : HasR w q gl gm cl cm vw S) (l0 : Int) (l : Nat) (hl : l ≤ 9223372036854775807) :
    (HasR (w.setCell ⟨q, 4, none⟩ (.int .i64 (l : Int))) q gl gm cl cm vw { S with left := l } ∧ Fr w (w.setCell ⟨q, 4, none⟩ (.int .i64 (l : Int))) [q]) ∧
    (HasR ((w.setCell ⟨q, 4, none⟩ (.int .i64 l0)).setCell ⟨q, 4, none⟩ (.int .i64 (l : Int))) q gl gm cl cm vw { S with left := l } ∧ Fr w ((w.setCell ⟨q, 4, none⟩ (.int .i64 l0)).setCell ⟨q, 4, none⟩ (.int .i64 (l : Int))) [q]) := by
  have hf : Fr w (w.setCell ⟨q, 4, none⟩ (.int .i64 (l : Int))) [q] := (Fr.refl w [q]).setCell (p := ⟨q, 4, none⟩) (by simp) _
  have hf2 : Fr w ((w.setCell ⟨q, 4, none⟩ (.int .i64 l0)).setCell ⟨q, 4, none⟩ (.int .i64 (l : Int))) [q] := ((Fr.refl w [q]).setCell (p := ⟨q, 4, none⟩) (by simp) _).setCell (p := ⟨q, 4, none⟩) (by simp) _
  refine ⟨⟨h.put (o2 := S.on) (c := S.count) hf (h.disk.set_ 4 _) hl h.wf.less, hf⟩, ⟨h.put (o2 := S.on) (c := S.count) hf2 ?_ hl h.wf.less, hf2⟩⟩
  have := (h.disk.set_ 4 (.int .i64 l0)).set_ 4 (.int .i64 (l : Int))
  exact this

theorem rfuse_any (q gl gm cl cm : Nat) (vw : Value) (S : Sp) (n : Int) (w : World) (h : HasR w q gl gm cl cm vw S) (hn : n ≤ 9223372036854775807) :
    Calls Try.prog 34 #[dptr q, .int .i64 n] w (RE w q gl gm cl cm vw (S.fuse n)) := by
  have c3 := h.c3
  have c4 := h.c4
  have f4 := h.f 4
  cases ho : S.on with
  | false =>
    rw [ho] at c3
    have e : S.fuse n = (S, 6) := by unfold Sp.fuse; rw [if_pos ho]
    rw [e]
    have HH := hid h
    clear e ho
    unfold dptr
    go_enter Try.func34, Try.ntmps34
    go_wp2_with fail
    go_ret
    exact RE.same HH.out
  | true =>
    rw [ho] at c3
    have e : S.fuse n = ({ S with left := n.toNat }, 0) := by unfold Sp.fuse; rw [if_neg (by simp [ho])]
    rw [e]
    have HH := hid h
    clear e
    have HO := hid ho
    clear ho
    unfold dptr
    by_cases h1 : n < 1
    · have HE := hid (rput_left HH.out n 0 (by omega)).2
      have e : n.toNat = 0 := by omega
      rw [e]
      clear e
      go_enter Try.func34, Try.ntmps34
      go_wp2_with fail
      go_ret
      exact RE.one HE.out.1 HE.out.2
    · have HE := hid (rput_left HH.out n n.toNat (by omega)).1
      have e : ((n.toNat : Nat) : Int) = n := by omega
      rw [e] at HE
      clear e
      have hd : decide (n < 1) = false := by simp; omega
      go_enter Try.func34, Try.ntmps34
      go_wp2_with fail
      go_ret
      exact RE.one HE.out.1 HE.out.2

theorem rcut_any (q gl gm cl cm : Nat) (vw : Value) (S : Sp) (w : World) (h : HasR w q gl gm cl cm vw S) :
    Calls Try.prog 35 #[dptr q] w (RE w q gl gm cl cm vw S.cut) := by
  have c3 := h.c3
  have c4 := h.c4
  have f3 := h.f 3
  have f4 := h.f 4
  cases ho : S.on with
  | false =>
    rw [ho] at c3
    have e : S.cut = (S, 6) := by unfold Sp.cut; rw [if_pos ho]
    rw [e]
    have HH := hid h
    clear e ho
    unfold dptr
    go_enter Try.func35, Try.ntmps35
    go_wp2_with fail
    go_ret
    exact RE.same HH.out
  | true =>
    rw [ho] at c3
    rw [Sp.cut_ok ho]
    have hf : Fr w ((w.setCell ⟨q, 3, none⟩ (.bool true)).setCell ⟨q, 4, none⟩ (.int .i64 0)) [q] := ((Fr.refl w [q]).setCell (p := ⟨q, 3, none⟩) (by simp) _).setCell (p := ⟨q, 4, none⟩) (by simp) _
    have HE := hid (show HasR ((w.setCell ⟨q, 3, none⟩ (.bool true)).setCell ⟨q, 4, none⟩ (.int .i64 0)) q gl gm cl cm vw { S with on := false, left := 0 } ∧ Fr w ((w.setCell ⟨q, 3, none⟩ (.bool true)).setCell ⟨q, 4, none⟩ (.int .i64 0)) [q] from
      ⟨h.put (o2 := false) (l := 0) (c := S.count) hf ((h.disk.set_ 3 _).set_ 4 _) (by omega) h.wf.less, hf⟩)
    clear hf ho
    unfold dptr
    go_enter Try.func35, Try.ntmps35
    go_wp2_with fail
    go_ret
    exact RE.one HE.out.1 HE.out.2

theorem lastw_next (way : List Wr) (i : Nat) (d : List UInt8) (j : Nat) (hj : j < way.length) : lastw (way.take (j + 1)) i d = if way[j].place = i then way[j].bytes else lastw (way.take j) i d := by
  rw [List.take_succ_eq_append_getElem hj, lastw_snoc]

set_option maxRecDepth 10000 in
set_option maxHeartbeats 400000 in
theorem rread_on (q gl gm cl cm : Nat) (vw : Value) (S : Sp) (k : Nat) (w : World) (h : HasR w q gl gm cl cm vw S) (hk : k < S.secs.length) (ho : S.on = true) (hc : S.count ≤ 1048576) :
    Calls Try.prog 18 #[dptr q, .int .i64 (k : Int)] w fun e w' => TN (lastw S.way k S.secs[k].lasts, 0) e ∧ w = w' := by
  have c0 := h.c0
  have c2 := h.c2
  have c3 := h.c3
  have lc := h.lc k hk
  have hway := h.wf.less
  rw [ho] at c3
  obtain ⟨A, c, hv⟩ := vw_shape h.wy
  rw [hv] at c2
  have HV := hid hv
  have hki : (k : Int) < (S.secs.length : Int) := by omega
  have HIS := ris_any k q gl gm cl cm vw S w h
  rw [show decide (S.is k) = true from decide_eq_true ⟨by omega, by omega⟩] at HIS
  have HI := hid HIS
  have HH := hid h
  clear hv HIS ho h
  unfold dptr str at *
  go_enter Try.func18, Try.ntmps18
  go_wp2_with (go_at_call 20; refine HI.out.mono ?_; rintro e w1 ⟨rfl, rfl⟩)
  go_loop [6, 7] (fun s j => ∃ jj : Nat, jj ≤ S.way.length ∧ j = .int .i64 jj ∧ s = .string ⟨(lastw (S.way.take jj) k S.secs[k].lasts).toArray⟩) (fun _ j => S.way.length - (intOf j).toNat)
  case atStart => exact ⟨0, by omega, rfl, by simp [lastw]⟩
  case round =>
    obtain ⟨j, hj, rfl, rfl⟩ := hrel
    by_cases hlt : j < S.way.length
    · obtain ⟨g, c', hv'⟩ := HH.out.wyShape (by omega)
      obtain ⟨w1, w2⟩ := HH.out.wc j hlt g c' hv'
      have hva := HV.out
      rw [hv'] at hva
      cases hva
      have hji : (j : Int) < (S.way.length : Int) := by omega
      have HN := hid (lastw_next S.way k S.secs[k].lasts j hlt)
      unfold str at w2
      clear hv'
      by_cases hp : S.way[j].place = k
      · have HN2 := HN.out
        rw [if_pos hp] at HN2
        have HN3 := hid HN2
        have hpb : (((S.way[j].place : Nat) : Int) == (k : Int)) = true := by simp [hp]
        clear HN2 hp HN
        go_wp2_with fail
        go_round
        case rel => exact ⟨j + 1, by omega, by go_num, by rw [HN3.out]⟩
        case measure => simp [intOf]; omega
      · have HN2 := HN.out
        rw [if_neg hp] at HN2
        have HN3 := hid HN2
        have hpb : (((S.way[j].place : Nat) : Int) == (k : Int)) = false := by simp; omega
        clear HN2 hp HN
        go_wp2_with fail
        go_round
        case rel => exact ⟨j + 1, by omega, by go_num, by rw [HN3.out]⟩
        case measure => simp [intOf]; omega
    · obtain rfl : j = S.way.length := by omega
      go_wp2_with fail
      go_ret2
      exact ⟨rfl, rfl⟩
theorem rread_any (q gl gm cl cm : Nat) (vw : Value) (S : Sp) (i : Int) (w : World) (h : HasR w q gl gm cl cm vw S) (hc : S.count ≤ 1048576) :
    Calls Try.prog 18 #[dptr q, .int .i64 i] w fun e w' => TN (S.read i) e ∧ w = w' := by
  by_cases hi : S.is i
  · obtain ⟨k, rfl⟩ := Int.eq_ofNat_of_zero_le hi.1
    have hk : k < S.secs.length := by have := hi.2; omega
    cases ho : S.on with
    | true =>
      have e : S.read k = (lastw S.way k S.secs[k].lasts, 0) := by
        rw [read_on hi ho]; simp [hk]
      rw [e]
      exact rread_on q gl gm cl cm vw S k w h hk ho hc
    | false =>
      have e : S.read k = ([], 6) := by unfold Sp.read; rw [if_neg (fun h => h hi), if_pos ho]
      rw [e]
      have c3 := h.c3
      rw [ho] at c3
      have HIS := ris_any k q gl gm cl cm vw S w h
      rw [decide_eq_true hi] at HIS
      have HI := hid HIS
      clear HIS ho e hi
      unfold dptr at *
      go_enter Try.func18, Try.ntmps18
      go_wp2_with (go_at_call 20; refine HI.out.mono ?_; rintro e w1 ⟨rfl, rfl⟩)
      go_ret2
      exact ⟨rfl, rfl⟩
  · rw [read_bad hi]
    have HIS := ris_any i q gl gm cl cm vw S w h
    rw [decide_eq_false hi] at HIS
    have HI := hid HIS
    clear HIS hi
    unfold dptr at *
    go_enter Try.func18, Try.ntmps18
    go_wp2_with (go_at_call 20; refine HI.out.mono ?_; rintro e w1 ⟨rfl, rfl⟩)
    go_ret2
    exact ⟨rfl, rfl⟩
end Go.Proofs.Ytdkgpjmehdpliaa
