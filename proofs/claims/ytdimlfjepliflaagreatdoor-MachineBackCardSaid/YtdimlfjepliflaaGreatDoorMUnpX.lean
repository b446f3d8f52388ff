/-
  The walk of package machine's Unpack, over what Pack answers.
-/
import Derived.Test.YtdimlfjepliflaaGreatDoorMRdrX
import Derived.Test.YtdimlfjepliflaaGreatDoorD22
import Derived.Test.YtdimlfjepliflaaGreatDoorD16
import Derived.Test.YtdimlfjepliflaaGreatDoorLiftX
import Derived.Test.YtdimlfjepliflaaGreatDoorEvX
import Derived.Test.YtdimlfjepliflaaGreatDoorWholepX
import Derived.Test.YtdimlfjepliflaaGreatDoorLgX
import Derived.Test.YtdimlfjepliflaaGreatDoorHubX
import Derived.Test.YtdimlfjepliflaaGreatDoorSkX
import Derived.Test.YtdimlfjepliflaaGreatDoorSTtextX
import Derived.Test.YtdimlfjepliflaaGreatDoorTkallX
import Derived.Test.YtdimlfjepliflaaGreatDoorUnpkX
import Derived.Test.YtdimlfjepliflaaGreatDoorSTbX
import Derived.Test.YtdimlfjepliflaaGreatDoorSTkeX
import Derived.Test.YtdimlfjepliflaaGreatDoorSUnpX
import Derived.Test.YtdimlfjepliflaaGreatDoorEKdX
import Derived.Test.YtdimlfjepliflaaGreatDoorMMaX
import Derived.Test.YtdimlfjepliflaaGreatDoorMHmX
namespace Go.Proofs.YtdimlfjepliflaaGreatDoor
open Go.RowKit
set_option maxRecDepth 10000

set_option maxHeartbeats 4000000 in
theorem munpack_go (o v s : Nat) (T : List Ss) (B : Lg) (P Q L0 L1 L2 L3 L4 : List UInt8) (w : World)
    (ho : o ≤ 72057594037927935) (hv : v ≤ 72057594037927935)
    (HN1 : Hid (∀ p W, Rdr W p L0 → Calls Tryz.prog 58 #[.pointer (some ⟨p, 0, none⟩), .int .i64 8] W (RG p (.int .u64 (o : Int)) L1 W)))
    (HN2 : Hid (∀ p W, Rdr W p L1 → Calls Tryz.prog 58 #[.pointer (some ⟨p, 0, none⟩), .int .i64 8] W (RG p (.int .u64 (v : Int)) L2 W)))
    (HN3 : Hid (∀ p W, Rdr W p L2 → Calls Tryz.prog 58 #[.pointer (some ⟨p, 0, none⟩), .int .i64 8] W (RG p (.int .u64 (s : Int)) L3 W)))
    (HT1 : Hid (∀ p W, Rdr W p L3 → Calls Tryz.prog 60 #[.pointer (some ⟨p, 0, none⟩)] W (RG p (.string ⟨P.toArray⟩) L4 W)))
    (HT2 : Hid (∀ p W, Rdr W p L4 → Calls Tryz.prog 60 #[.pointer (some ⟨p, 0, none⟩)] W (RG p (.string ⟨Q.toArray⟩) [] W)))
    (HS : Hid (∀ W, Calls Tryz.prog 59 #[.string ⟨P.toArray⟩] W (NG8 121 W T (fun p => .tuple #[.pointer (some ⟨p, 0, none⟩), .int .i64 0]))))
    (HB : Hid (∀ W, Calls Tryz.prog 61 #[.string ⟨Q.toArray⟩] W (NG 123 W B (fun p => .tuple #[.pointer (some ⟨p, 0, none⟩), .int .i64 0])))) :
    Calls Tryz.prog 29 #[.string ⟨L0.toArray⟩] w (NH KP w ⟨⟨(o : Int), (v : Int), s⟩, ⟨T, B⟩⟩ (fun p => .tuple #[.pointer (some ⟨p, 0, none⟩), .int .i64 0])) := by
  have ho1 : wrap64 (o : Int) = (o : Int) := IntWalk.wrap64_in _ ⟨by omega, by omega⟩
  have hv1 : wrap64 (v : Int) = (v : Int) := IntWalk.wrap64_in _ ⟨by omega, by omega⟩
  have ho2 : ¬ (72057594037927935 : Int) < (o : Int) := by omega
  have hv2 : ¬ (72057594037927935 : Int) < (v : Int) := by omega
  have hmx : ¬ (72057594037927935 : Int) < max (o : Int) (v : Int) := by omega
  have hR0 : Rdr (w.alloc (.cells #[.string ⟨L0.toArray⟩, .bool false] 100)) w.heap.size L0 := Row.new w _ _
  have HR0 := hid hR0
  have HB0 := hid ((Below.refl w.heap.size w).alloc (Nat.le_refl _) (.cells #[.string ⟨L0.toArray⟩, .bool false] 100))
  clear ho hv hR0
  generalize (⟨L0.toArray⟩ : ByteArray) = x at *
  generalize (⟨P.toArray⟩ : ByteArray) = y at *
  generalize (⟨Q.toArray⟩ : ByteArray) = z at *
  go_enter Tryz.func29, Tryz.ntmps29
  go_wp2_with (first
    | (go_at_call 58; refine (HN1.out _ _ HR0.out).mono ?_; rintro e w1 ⟨rfl, hr1, hf1⟩; have HR1 := hid hr1; have HF1 := hid hf1; clear hr1 hf1 HN1)
    | (go_at_call 58; refine (HN2.out _ _ HR1.out).mono ?_; rintro e w2 ⟨rfl, hr2, hf2⟩; have HR2 := hid hr2; have HF2 := hid hf2; clear hr2 hf2 HN2)
    | (go_at_call 58; refine (HN3.out _ _ HR2.out).mono ?_; rintro e w3 ⟨rfl, hr3, hf3⟩; have HR3 := hid hr3; have HF3 := hid hf3; clear hr3 hf3 HN3)
    | (go_at_call 60; refine (HT1.out _ _ HR3.out).mono ?_; rintro e w4 ⟨rfl, hr4, hf4⟩; have HR4 := hid hr4; have HF4 := hid hf4; clear hr4 hf4 HT1)
    | (go_at_call 59; refine (HS.out _).mono ?_; rintro e w5 ⟨ps, fs, rfl, hk5, hn5, hx5⟩; have HK5 := hid hk5; have HN5 := hid hn5; have HX5 := hid hx5; have HR5 := hid (show Rdr w5 w.heap.size L4 from HR4.out.below hx5 HR4.out.lt); clear hk5 hn5 hx5)
    | (go_at_call 60; refine (HT2.out _ _ HR5.out).mono ?_; rintro e w6 ⟨rfl, hr6, hf6⟩; have HR6 := hid hr6; have HF6 := hid hf6; clear hr6 hf6 HT2)
    | (go_at_call 61; refine (HB.out _).mono ?_; rintro e w7 ⟨pb, fb, rfl, hk7, hn7, hx7⟩; have HK7 := hid hk7; have HN7 := hid hn7; have HX7 := hid hx7; have HR7 : Hid (Row w7 w.heap.size 100 [.string ⟨#[]⟩, .bool false]) := hid (HR6.out.below hx7 HR6.out.lt); have hc0 := HR7.out.at_ 0 _ rfl; have hc1 := HR7.out.at_ 1 _ rfl; clear hk7 hn7 hx7))
  go_ret2
  have hF3 : Fr (w.alloc (.cells #[.string x, .bool false] 100)) w4 [w.heap.size] := ((HF1.out.trans HF2.out (fun _ h _ => h)).trans HF3.out (fun _ h _ => h)).trans HF4.out (fun _ h _ => h)
  have hB4 : Below w.heap.size w w4 := HB0.out.trans (hF3.below (by simp) (by simp))
  have hB6 : Below w.heap.size w w6 := (hB4.trans (HX5.out.mono hB4.size)).trans (HF6.out.below (by simp) (by have := hB4.size; have := HX5.out.size; omega))
  have hB7 : Below w.heap.size w w7 := hB6.trans (HX7.out.mono hB6.size)
  have hlt := HR4.out.lt
  have hs5 := HX5.out.size
  have hs6 := HF6.out.size
  have hs7 := HX7.out.size
  have hne : ∀ b ∈ fs, b ∉ [w.heap.size] := fun b hb hn => by
    have := HN5.out b hb
    rw [List.mem_singleton.1 hn] at this
    omega
  have hk6 := (HK5.out.fr HF6.out hne).below HX7.out
  have hb8 := (Below.refl w7.heap.size w7).alloc (Nat.le_refl _) (.cells #[.int .i64 (o : Int), .int .i64 (v : Int), .int .u64 (s : Int), .pointer (some ⟨ps, 0, none⟩), .pointer (some ⟨pb, 0, none⟩)] 81)
  refine ⟨w7.heap.size, w7.heap.size :: (fs ++ fb), rfl, ⟨ps, pb, fs, fb, rfl, Row.new w7 _ _, hk6.below hb8, HK7.out.below hb8, fun h => ?_, fun h => ?_, fun b hb hn => ?_⟩, fun b hb => ?_, hB7.trans (hb8.mono hB7.size)⟩
  · have := HK5.out.lt _ h; omega
  · have := HK7.out.lt _ h; omega
  · have := HK5.out.lt _ hb
    have := HN7.out _ hn
    omega
  · have h4 := hB4.size
    rcases List.mem_cons.1 hb with rfl | hb
    · omega
    · rcases List.mem_append.1 hb with hb | hb
      · have := HN5.out _ hb; omega
      · have := HN7.out _ hb; omega
theorem munpack_yes (S : Ma) (hS : S.WF) (w : World) : Calls Tryz.prog 29 #[.string ⟨S.pack.toArray⟩] w (NH KP w S (fun p => .tuple #[.pointer (some ⟨p, 0, none⟩), .int .i64 0])) := by
  have hp1 := pack8_le hS.w.t
  have hp2 := pack_len S.w.B hS.w.b
  have h3 := hS.w.b.la
  have h4 := hS.w.b.lt
  obtain ⟨hu1, hu2⟩ := unpack_pack S.w.B hS.w.b
  obtain ⟨⟨o0, o1⟩, ⟨v0, v1⟩, s1⟩ := hS.m
  have hT := hS.w.t
  obtain ⟨⟨mo, mv, ms⟩, ⟨T, B⟩⟩ := S
  simp only at *
  obtain ⟨o, rfl⟩ := Int.eq_ofNat_of_zero_le o0
  obtain ⟨v, rfl⟩ := Int.eq_ofNat_of_zero_le v0
  have e : Ma.pack ⟨⟨(o : Int), (v : Int), ms⟩, ⟨T, B⟩⟩ = le o 8 ++ (le v 8 ++ (le ms 8 ++ (txt (pack T) ++ txt B.pack))) := by
    simp [Ma.pack, packM, List.append_assoc]
  rw [e]
  have t1 : (txt (pack T)).length = 2 + (pack T).length := by simp [txt, le_len]
  have t2 : (txt B.pack).length = 2 + B.pack.length := by simp [txt, le_len]
  refine munpack_go o v ms T B (pack T) B.pack _ _ _ _ (txt B.pack) w (by omega) (by omega) (hid fun p W h => rnum_any p 8 o _ W h (by omega) (by omega) ?_) (hid fun p W h => rnum_any p 8 v _ W h (by omega) (by omega) ?_) (hid fun p W h => rnum_any p 8 ms _ W h (by omega) (by omega) ?_)
    (hid fun p W h => rtext_any p (pack T) _ W h (by omega) ?_) (hid fun p W h => rtext_any p B.pack [] W (by rw [List.append_nil]; exact h) (by omega) ?_)
    (hid fun W => unpack_yes8 T hT _ (sb_mk _) W) (hid fun W => ?_)
  all_goals first
    | (simp only [List.length_append, le_len, t1, t2, List.length_nil]; omega)
    | skip
  have := unpack_yes ⟨B.pack.toArray⟩ W (by rw [← sb_len, sb_mk]; omega) (by rw [sb_mk]; exact hu1)
  rw [sb_mk, hu2] at this
  exact this
end Go.Proofs.YtdimlfjepliflaaGreatDoor
