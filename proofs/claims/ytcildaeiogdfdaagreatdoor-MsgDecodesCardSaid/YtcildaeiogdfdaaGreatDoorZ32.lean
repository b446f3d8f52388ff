/-
  The program's take: lists; any sign.
-/
import Derived.Test.YtcildaeiogdfdaaGreatDoorZ26
import Derived.Deep.AppendLies
namespace Go.Proofs.YtcildaeiogdfdaaGreatDoor
open Go.RowKit
set_option maxRecDepth 10000

def p0P : Pl := ⟨none, 0, none, 0⟩
theorem entsT_len (b : List UInt8) (p : Nat) : ∀ k, (entsT b p k).1.length = k
  | 0 => rfl
  | k + 1 => by simp [entsT, entsT_len b p k]
theorem itemsT_len (b : List UInt8) (p : Nat) : ∀ k, (itemsT b p k).1.length = k
  | 0 => rfl
  | k + 1 => by simp [itemsT, itemsT_len b p k]
theorem itemT_le (b : List UInt8) (p : Nat) (hp : p ≤ b.length) : (itemT b p).2 ≤ b.length := by
  have h := numT_le b p 1 hp
  unfold itemT
  split
  · exact entT_le _ _ h
  · split
    · exact numsT_le _ _ h 5
    · exact h
theorem entsT_le (b : List UInt8) (p : Nat) (hp : p ≤ b.length) : ∀ k, (entsT b p k).2 ≤ b.length
  | 0 => hp
  | k + 1 => entT_le _ _ (entsT_le b p hp k)
theorem itemsT_le (b : List UInt8) (p : Nat) (hp : p ≤ b.length) : ∀ k, (itemsT b p k).2 ≤ b.length
  | 0 => hp
  | k + 1 => itemT_le _ _ (itemsT_le b p hp k)
theorem own_nilQ (w : World) (B size : Nat) (e : TypeId) : w.ownsRow B e size (.slice none 0 0) 0 [] := ⟨by simp, .inl ⟨rfl, rfl⟩⟩
/-- the list has grown, the message says so -/
theorem RP.es {w0 : World} {gr gm D : Nat} {K : Nat → Option Obj} {A : Option Addr} {c : Nat} {b : List UInt8} {m : Ms} {A1 : Option Addr} {c1 : Nat} {p : Nat} {W W3 : World} {l : List En} {E : En} {g3 cap3 : Nat} (h : RP w0 gr gm D K A c b { m with es := l } ⟨A1, c1, none, 0⟩ p W) (hs : RS w0 gr gm D c b) (hx : m.xs = [])
    (hown : W3.ownsRow D 28 9 (.slice (some ⟨g3, 0, none⟩) (l.length + 1) cap3) (l.length + 1) (EnL l ++ E.cells.toList)) (hg : W.grownBy W3 (Value.slice A1 l.length c1).ownBlock) :
    RP w0 gr gm D K A c b { m with es := l ++ [E] } ⟨some ⟨g3, 0, none⟩, cap3, none, 0⟩ p (W3.setCell ⟨gm, 30, none⟩ (.slice (some ⟨g3, 0, none⟩) (l.length + 1) cap3)) ∧ W3.cell? ⟨gm, 30, none⟩ = some (.slice A1 l.length c1) ∧ W3.frozen? ⟨gm, 30, none⟩ = false := by
  have hD : D ≤ W.heap.size := h.size
  have hlD := hs.ltD
  have hb : Below D W W3 := (Below.refl _ _).grown hg hD (fun k hk => (h.mr.oa.lt k hk).1)
  have hlt := hs.lt
  have r3 := h.mr.row.below hb hlD
  have e1 : l.length + 1 = (l ++ [E]).length := by simp
  have e2 : EnL l ++ E.cells.toList = EnL (l ++ [E]) := by simp [EnL, rws]
  rw [e2] at hown
  refine ⟨⟨?_, ⟨?_, ?_, ?_⟩, ?_, ?_, ?_⟩, r3.cell 30, r3.frozen 30⟩
  · exact Rdr.other ⟨h.rd.row.below hb (by omega), h.rd.bytes.below hb (by omega)⟩ (grown_setP _ gm 30 _) hlt
  · have := r3.set_ 30 (.slice (some ⟨g3, 0, none⟩) (l.length + 1) cap3)
    rw [e1] at this ⊢
    exact this
  · show World.ownsRow _ _ _ _ (.slice (some ⟨g3, 0, none⟩) (l ++ [E]).length cap3) _ _
    rw [← e1]
    exact own_grownP hown (grown_setP _ gm 30 _) hlD
  · show World.ownsRow _ _ _ _ (.slice none m.xs.length 0) m.xs.length (ItL m.xs)
    rw [hx]
    exact own_nilQ _ _ _ _
  · have := hs.base
    exact (h.below.trans (hb.mono (by omega))).trans (below_grown (grown_setP W3 gm 30 _) (by omega) (by have := h.below.size; have := hb.size; omega))
  · exact Nat.le_trans (Nat.le_trans hD hb.size) (grown_setP W3 gm 30 _).size
  · exact fun k h1 h2 => (((grown_setP W3 gm 30 _).block k (by have := hb.size; omega) (by intro e; have := Option.some.inj e; omega)).trans (hb.block k h2)).trans (h.keep k h1 h2)
theorem RP.xs {w0 : World} {gr gm D : Nat} {K : Nat → Option Obj} {A : Option Addr} {c : Nat} {b : List UInt8} {m : Ms} {A1 : Option Addr} {c1 : Nat} {p : Nat} {W W3 : World} {l : List It} {E : It} {g3 cap3 : Nat} (h : RP w0 gr gm D K A c b { m with xs := l } ⟨none, 0, A1, c1⟩ p W) (hs : RS w0 gr gm D c b) (hx : m.es = [])
    (hown : W3.ownsRow D 62 15 (.slice (some ⟨g3, 0, none⟩) (l.length + 1) cap3) (l.length + 1) (ItL l ++ E.cells.toList)) (hg : W.grownBy W3 (Value.slice A1 l.length c1).ownBlock) :
    RP w0 gr gm D K A c b { m with xs := l ++ [E] } ⟨none, 0, some ⟨g3, 0, none⟩, cap3⟩ p (W3.setCell ⟨gm, 31, none⟩ (.slice (some ⟨g3, 0, none⟩) (l.length + 1) cap3)) ∧ W3.cell? ⟨gm, 31, none⟩ = some (.slice A1 l.length c1) ∧ W3.frozen? ⟨gm, 31, none⟩ = false := by
  have hD : D ≤ W.heap.size := h.size
  have hlD := hs.ltD
  have hb : Below D W W3 := (Below.refl _ _).grown hg hD (fun k hk => (h.mr.ob.lt k hk).1)
  have hlt := hs.lt
  have r3 := h.mr.row.below hb hlD
  have e1 : l.length + 1 = (l ++ [E]).length := by simp
  have e2 : ItL l ++ E.cells.toList = ItL (l ++ [E]) := by simp [ItL, rws]
  rw [e2] at hown
  refine ⟨⟨?_, ⟨?_, ?_, ?_⟩, ?_, ?_, ?_⟩, r3.cell 31, r3.frozen 31⟩
  · exact Rdr.other ⟨h.rd.row.below hb (by omega), h.rd.bytes.below hb (by omega)⟩ (grown_setP _ gm 31 _) hlt
  · have := r3.set_ 31 (.slice (some ⟨g3, 0, none⟩) (l.length + 1) cap3)
    rw [e1] at this ⊢
    exact this
  · show World.ownsRow _ _ _ _ (.slice none m.es.length 0) m.es.length (EnL m.es)
    rw [hx]
    exact own_nilQ _ _ _ _
  · show World.ownsRow _ _ _ _ (.slice (some ⟨g3, 0, none⟩) (l ++ [E]).length cap3) _ _
    rw [← e1]
    exact own_grownP hown (grown_setP _ gm 31 _) hlD
  · have := hs.base
    exact (h.below.trans (hb.mono (by omega))).trans (below_grown (grown_setP W3 gm 31 _) (by omega) (by have := h.below.size; have := hb.size; omega))
  · exact Nat.le_trans (Nat.le_trans hD hb.size) (grown_setP W3 gm 31 _).size
  · exact fun k h1 h2 => (((grown_setP W3 gm 31 _).block k (by have := hb.size; omega) (by intro e; have := Option.some.inj e; omega)).trans (hb.block k h2)).trans (h.keep k h1 h2)
set_option maxHeartbeats 2000000 in
theorem take_76 {w0 : World} {gr gm D : Nat} {K : Nat → Option Obj} {A : Option Addr} {c : Nat} {b : List UInt8} (m : Ms) (p : Nat) (w : World) (hs : RS w0 gr gm D c b) (h : RP w0 gr gm D K A c b m p0P p w) (hp : p ≤ b.length) (he : m.es = []) (hx : m.xs = []) :
    Calls Tryz.prog 12 #[.pointer (some ⟨gr, 0, none⟩), .pointer (some ⟨gm, 0, none⟩), .int .i32 76] w fun e w' => e = .returned (.tuple #[]) ∧ ∃ pl, RP w0 gr gm D K A c b (stepT b (m, p) 76).1 pl (stepT b (m, p) 76).2 w' := by
  have HS := hid hs
  have HX : Hid (m.xs = []) := hid hx
  obtain ⟨i0, hi, hz0, hz1, hz2⟩ := info_parts infoEn
  have hnews : ∀ (W : World) (E : En), ∀ j u, E.cells.toList[j]? = some u → (W.alloc (.cells E.cells.toList.toArray 28)).cell? ((⟨W.heap.size, 0, none⟩ : Addr).add j) = some u := fun W E => by
    have := World.news_of_block (heap_alloc_new W (.cells E.cells.toList.toArray 28))
    simpa using this
  have HN := hid (fun W hW => rnum_any gr A c b p 1 (.inl rfl) W hW hs.len hs.cap hp)
  have HQ := hid (numT_le b p 1 hp)
  have HB := hid (byteT_lt b p)
  have HE : Hid (∀ (q : Nat), ∀ W m pl, RP w0 gr gm D K A c b m pl q W → Calls Tryz.prog 30 #[.pointer (some ⟨gr, 0, none⟩)] W (RE gr A c b W (entT b q))) := hid fun q W m pl hW => rent_any gr A c b q W hW.rd hs.len hs.cap (hW.fdw hs) (Nat.le_trans hs.fd.1 hs.base)
  have HR : Hid (stepT b (m, p) 76 = ({ m with es := (entsT b (numT b p 1).2 (numT b p 1).1).1 }, (entsT b (numT b p 1).2 (numT b p 1).1).2)) := hid (by rw [step_76, he]; rfl)
  rw [HR.out]
  generalize numT b p 1 = r at *
  obtain ⟨n, q⟩ := r
  simp only at HQ HB
  have h0 : RP w0 gr gm D K A c b { m with es := [] } ⟨none, 0, none, 0⟩ p w := by
    have e : ({ m with es := [] } : Ms) = m := by rw [← he]
    rw [e]
    exact h
  have H0 := hid h0
  clear h h0 hs hp he hx HR
  go_enter Tryz.func12, Tryz.ntmps12
  go_wp2_with (go_at_call 29; refine (HN.out _ H0.out.rd).mono ?_; rintro e wn ⟨rfl, rd, hg⟩; have HA := hid (H0.out.call HS.out rd hg); clear rd hg)
  clear H0
  go_loopw [46] (fun i wr => ∃ (k : Nat) (A1 : Option Addr) (c1 : Nat), k ≤ n ∧ i = .int .u64 (k : Int) ∧ Hid (RP w0 gr gm D K A c b { m with es := (entsT b q k).1 } ⟨A1, c1, none, 0⟩ (entsT b q k).2 wr)) (fun i _ => n - (intOf i).toNat)
  case atStart => exact ⟨0, none, 0, by omega, rfl, HA⟩
  case round =>
    clear HA
    obtain ⟨k, A1, c1, hk, rfl, H0⟩ := hrel
    by_cases hlt : k < n
    · have hi1 : (k : Int) < (n : Int) := by omega
      have hi0 : (0 : Int) ≤ (k : Int) := by omega
      have HBn := HB.out
      have HD := hid H0.out.drew
      have HC := hid (HE.out (entsT b q k).2)
      have HNX : Hid (entsT b q (k + 1) = ((entsT b q k).1 ++ [(entT b (entsT b q k).2).1], (entT b (entsT b q k).2).2)) := hid rfl
      have HLN : (entsT b q k).1.length = k := entsT_len b q k
      generalize entsT b q k = r at *
      obtain ⟨L, y⟩ := r
      simp only at HNX HLN
      generalize entT b y = r2 at *
      obtain ⟨E, z⟩ := r2
      have hL : L.length ≤ 300 := by omega
      clear HLN H0
      go_wp2_with fail
      refine wp_region_held_drew (S := (fun _ => True)) (by kernel_rfl) (trivial) (fun hH => ?_)
      refine tk_ (i := 0) (v := .pointer (some ⟨gm, 0, none⟩)) rfl (Or.inl ⟨by rfl, fun w' hw' => by clear hw'; go_simp⟩) hH ?_
      simp only [Act.put, la1, la3, la4, la5, la6]
      refine tk_ (i := 1) (v := .pointer (some ⟨gm, 0, none⟩)) rfl (Or.inl ⟨by rfl, fun w' hw' => by clear hw'; go_simp⟩) hH ?_
      simp only [Act.put, la1, la2, la3, la4, la5, la6]
      refine tk_ (i := 2) (v := .pointer (some ⟨gm, 0, none⟩)) rfl (Or.inl ⟨by rfl, fun w' hw' => by clear hw'; go_simp⟩) hH ?_
      simp only [Act.put, la1, la2, la3, la4, la5, la6]
      refine tk_ (i := 3) (v := .pointer (some ⟨gm, 30, none⟩)) rfl (Or.inl ⟨by rfl, fun w' hw' => by clear hw'; go_simp⟩) hH ?_
      simp only [Act.put, la1, la2, la3, la4, la5, la6]
      refine tk_ (i := 5) (v := .pointer (some ⟨gr, 0, none⟩)) rfl (Or.inl ⟨by rfl, fun w' hw' => by clear hw'; go_simp⟩) hH ?_
      simp only [Act.put, la1, la2, la3, la4, la5, la6]
      refine wpAnyH_ready (rs := [4, 6]) (by kernel_rfl) (by simp) ?_
      refine AllReadyH.cons rfl (fun K hK => ?_) (AllReadyH.cons rfl (fun K hK => ?_) AllReadyH.nil)
      · have hce := HD.out.mr.row.cell 30
        have hce : World.cell? _ ⟨gm, 30, none⟩ = some (.slice A1 L.length c1) := hce
        go_simp
        refine hK.out _ _ trivial (fun hH => ?_)
        clear hK K
        try simp only [Act.put, la4, la5, la6]
        clear hce
        refine rd1 (i := 6) (by kernel_rfl) rfl (fun K hK => ?_)
        go_simp
        go_at_call 30
        refine (HC.out _ _ _ HD.out).mono ?_
        rintro e w1 ⟨rfl, rd, hg⟩
        go_wp2_with fail
        have H1 := hid (HD.out.call HS.out rd hg)
        clear rd hg
        refine hK.out _ _ trivial (fun hH => ?_)
        clear hK K
        try simp only [Act.put, la1, la2, la3, la4, la5, la6]
        refine rd1 (i := 7) (by kernel_rfl) rfl (fun K hK => ?_)
        rw [if_pos (by rfl)]
        refine wp_slice1M 29 28 (.tmp 54) rfl i0 _ 9 Tryz.underlying29 hi hz0 hz1 (by decide) (by decide) E.cells.toList rfl rfl ?_
        simp only [Act.put]
        have H2 := hid (H1.out.more ((Below.refl _ _).alloc (Nat.le_refl _) (.cells E.cells.toList.toArray 28)))
        refine hK.out _ _ trivial (fun hH => ?_)
        clear hK K
        try simp only [la1, la2, la3, la4, la5, la6]
        refine rd1 (i := 8) (by kernel_rfl) rfl (fun K hK => ?_)
        refine step_append_lies _ rfl (.tmp 52) (.tmp 55) 29 rfl D 28 i0 _ 9 80 Tryz.underlying29 hi hz0 hz1 hz2 rfl (by decide) (.slice A1 L.length c1) L.length _ rfl H2.out.mr.oa ⟨w1.heap.size, 0, none⟩ 1 1 E.cells.toList rfl rfl (hnews w1 E) (en_one E) (by decide) (le_maxLen (by omega)) (by omega) H2.out.size _ rfl ?_
        intro g3 cap3 w3 hown3 hg3 hor3 hlt3
        simp only [Act.put]
        obtain ⟨h3, hce, hfz⟩ := H2.out.es HS.out HX.out hown3 hg3
        have H3 := hid h3
        clear h3 hown3 hg3 hor3 hlt3
        refine hK.out _ _ trivial (fun hH => ?_)
        clear hK K
        try simp only [la1, la2, la3, la4, la5, la6]
        refine tk_ (i := 9) (v := .pointer (some ⟨gm, 0, none⟩)) rfl (Or.inl ⟨by rfl, fun w' hw' => by clear hw'; go_simp⟩) hH ?_
        simp only [Act.put, la1, la2, la3, la4, la5, la6]
        refine tk_ (i := 10) (v := .pointer (some ⟨gm, 30, none⟩)) rfl (Or.inl ⟨by rfl, fun w' hw' => by clear hw'; go_simp⟩) hH ?_
        simp only [Act.put, la1, la2, la3, la4, la5, la6]
        refine rd1 (i := 11) (by kernel_rfl) rfl (fun K hK => ?_)
        go_simp
        refine hK.out _ _ (trivial) (fun hH => ?_)
        clear hK K
        try simp only [Act.put, la1, la2, la3, la4, la5, la6]
        refine wpAnyH_done (by kernel_rfl) ?_ _
        try simp only [Act.put, la1, la2, la3, la4, la5, la6]
        clear hce hfz
        go_wp2_with fail
        go_roundw
        case rel => exact ⟨k + 1, _, _, by omega, by go_num, hid (by rw [HNX.out]; exact H3.out)⟩
        case measure => simp [intOf]; omega
      · go_simp
        go_at_call 30
        refine (HC.out _ _ _ HD.out).mono ?_
        rintro e w1 ⟨rfl, rd, hg⟩
        go_wp2_with fail
        have H1 := hid (HD.out.call HS.out rd hg)
        clear rd hg
        refine hK.out _ _ trivial (fun hH => ?_)
        clear hK K
        try simp only [Act.put, la1, la2, la3, la4, la5, la6]
        refine wpAnyH_ready (rs := [4, 7]) (by kernel_rfl) (by simp) ?_
        refine AllReadyH.cons rfl (fun K hK => ?_) (AllReadyH.cons rfl (fun K hK => ?_) AllReadyH.nil)
        · have hce := H1.out.mr.row.cell 30
          have hce : World.cell? _ ⟨gm, 30, none⟩ = some (.slice A1 L.length c1) := hce
          go_simp
          refine hK.out _ _ trivial (fun hH => ?_)
          clear hK K
          try simp only [Act.put, la4, la5, la6]
          clear hce
          refine rd1 (i := 7) (by kernel_rfl) rfl (fun K hK => ?_)
          rw [if_pos (by rfl)]
          refine wp_slice1M 29 28 (.tmp 54) rfl i0 _ 9 Tryz.underlying29 hi hz0 hz1 (by decide) (by decide) E.cells.toList rfl rfl ?_
          simp only [Act.put]
          have H2 := hid (H1.out.more ((Below.refl _ _).alloc (Nat.le_refl _) (.cells E.cells.toList.toArray 28)))
          refine hK.out _ _ trivial (fun hH => ?_)
          clear hK K
          try simp only [la1, la2, la3, la4, la5, la6]
          refine rd1 (i := 8) (by kernel_rfl) rfl (fun K hK => ?_)
          refine step_append_lies _ rfl (.tmp 52) (.tmp 55) 29 rfl D 28 i0 _ 9 80 Tryz.underlying29 hi hz0 hz1 hz2 rfl (by decide) (.slice A1 L.length c1) L.length _ rfl H2.out.mr.oa ⟨w1.heap.size, 0, none⟩ 1 1 E.cells.toList rfl rfl (hnews w1 E) (en_one E) (by decide) (le_maxLen (by omega)) (by omega) H2.out.size _ rfl ?_
          intro g3 cap3 w3 hown3 hg3 hor3 hlt3
          simp only [Act.put]
          obtain ⟨h3, hce, hfz⟩ := H2.out.es HS.out HX.out hown3 hg3
          have H3 := hid h3
          clear h3 hown3 hg3 hor3 hlt3
          refine hK.out _ _ trivial (fun hH => ?_)
          clear hK K
          try simp only [la1, la2, la3, la4, la5, la6]
          refine tk_ (i := 9) (v := .pointer (some ⟨gm, 0, none⟩)) rfl (Or.inl ⟨by rfl, fun w' hw' => by clear hw'; go_simp⟩) hH ?_
          simp only [Act.put, la1, la2, la3, la4, la5, la6]
          refine tk_ (i := 10) (v := .pointer (some ⟨gm, 30, none⟩)) rfl (Or.inl ⟨by rfl, fun w' hw' => by clear hw'; go_simp⟩) hH ?_
          simp only [Act.put, la1, la2, la3, la4, la5, la6]
          refine rd1 (i := 11) (by kernel_rfl) rfl (fun K hK => ?_)
          go_simp
          refine hK.out _ _ (trivial) (fun hH => ?_)
          clear hK K
          try simp only [Act.put, la1, la2, la3, la4, la5, la6]
          refine wpAnyH_done (by kernel_rfl) ?_ _
          try simp only [Act.put, la1, la2, la3, la4, la5, la6]
          clear hce hfz
          go_wp2_with fail
          go_roundw
          case rel => exact ⟨k + 1, _, _, by omega, by go_num, hid (by rw [HNX.out]; exact H3.out)⟩
          case measure => simp [intOf]; omega
        · rw [if_pos (by rfl)]
          refine wp_slice1M 29 28 (.tmp 54) rfl i0 _ 9 Tryz.underlying29 hi hz0 hz1 (by decide) (by decide) E.cells.toList rfl rfl ?_
          simp only [Act.put]
          have H2 := hid (H1.out.more ((Below.refl _ _).alloc (Nat.le_refl _) (.cells E.cells.toList.toArray 28)))
          refine hK.out _ _ trivial (fun hH => ?_)
          clear hK K
          try simp only [la1, la2, la3, la4, la5, la6]
          refine rd1 (i := 4) (by kernel_rfl) rfl (fun K hK => ?_)
          have hce := H2.out.mr.row.cell 30
          have hce : World.cell? _ ⟨gm, 30, none⟩ = some (.slice A1 L.length c1) := hce
          go_simp
          refine hK.out _ _ trivial (fun hH => ?_)
          clear hK K
          try simp only [Act.put, la4, la5, la6]
          clear hce
          refine rd1 (i := 8) (by kernel_rfl) rfl (fun K hK => ?_)
          refine step_append_lies _ rfl (.tmp 52) (.tmp 55) 29 rfl D 28 i0 _ 9 80 Tryz.underlying29 hi hz0 hz1 hz2 rfl (by decide) (.slice A1 L.length c1) L.length _ rfl H2.out.mr.oa ⟨w1.heap.size, 0, none⟩ 1 1 E.cells.toList rfl rfl (hnews w1 E) (en_one E) (by decide) (le_maxLen (by omega)) (by omega) H2.out.size _ rfl ?_
          intro g3 cap3 w3 hown3 hg3 hor3 hlt3
          simp only [Act.put]
          obtain ⟨h3, hce, hfz⟩ := H2.out.es HS.out HX.out hown3 hg3
          have H3 := hid h3
          clear h3 hown3 hg3 hor3 hlt3
          refine hK.out _ _ trivial (fun hH => ?_)
          clear hK K
          try simp only [la1, la2, la3, la4, la5, la6]
          refine tk_ (i := 9) (v := .pointer (some ⟨gm, 0, none⟩)) rfl (Or.inl ⟨by rfl, fun w' hw' => by clear hw'; go_simp⟩) hH ?_
          simp only [Act.put, la1, la2, la3, la4, la5, la6]
          refine tk_ (i := 10) (v := .pointer (some ⟨gm, 30, none⟩)) rfl (Or.inl ⟨by rfl, fun w' hw' => by clear hw'; go_simp⟩) hH ?_
          simp only [Act.put, la1, la2, la3, la4, la5, la6]
          refine rd1 (i := 11) (by kernel_rfl) rfl (fun K hK => ?_)
          go_simp
          refine hK.out _ _ (trivial) (fun hH => ?_)
          clear hK K
          try simp only [Act.put, la1, la2, la3, la4, la5, la6]
          refine wpAnyH_done (by kernel_rfl) ?_ _
          try simp only [Act.put, la1, la2, la3, la4, la5, la6]
          clear hce hfz
          go_wp2_with fail
          go_roundw
          case rel => exact ⟨k + 1, _, _, by omega, by go_num, hid (by rw [HNX.out]; exact H3.out)⟩
          case measure => simp [intOf]; omega
    · obtain rfl : k = n := by omega
      go_wp2_with fail
      go_end0
      exact ⟨rfl, _, H0.out⟩
set_option maxHeartbeats 2000000 in
theorem take_73 {w0 : World} {gr gm D : Nat} {K : Nat → Option Obj} {A : Option Addr} {c : Nat} {b : List UInt8} (m : Ms) (p : Nat) (w : World) (hs : RS w0 gr gm D c b) (h : RP w0 gr gm D K A c b m p0P p w) (hp : p ≤ b.length) (he : m.es = []) (hx : m.xs = []) :
    Calls Tryz.prog 12 #[.pointer (some ⟨gr, 0, none⟩), .pointer (some ⟨gm, 0, none⟩), .int .i32 73] w fun e w' => e = .returned (.tuple #[]) ∧ ∃ pl, RP w0 gr gm D K A c b (stepT b (m, p) 73).1 pl (stepT b (m, p) 73).2 w' := by
  have HS := hid hs
  have HX : Hid (m.es = []) := hid he
  obtain ⟨i0, hi, hz0, hz1, hz2⟩ := info_parts infoIt
  have hnews : ∀ (W : World) (E : It), ∀ j u, E.cells.toList[j]? = some u → (W.alloc (.cells E.cells.toList.toArray 62)).cell? ((⟨W.heap.size, 0, none⟩ : Addr).add j) = some u := fun W E => by
    have := World.news_of_block (heap_alloc_new W (.cells E.cells.toList.toArray 62))
    simpa using this
  have HP := hid hp
  have HE : Hid (∀ (q : Nat), q ≤ b.length → ∀ W m pl, RP w0 gr gm D K A c b m pl q W → Calls Tryz.prog 31 #[.pointer (some ⟨gr, 0, none⟩)] W (RI gr A c b W (itemT b q))) := hid fun q hq W m pl hW => ritem_any gr A c b q W hW.rd hs.len hs.cap hq (hW.fdw hs) (Nat.le_trans hs.fd.1 hs.base)
  have HR : Hid (stepT b (m, p) 73 = ({ m with xs := (itemsT b p 8).1 }, (itemsT b p 8).2)) := hid (by rw [step_73, hx]; rfl)
  rw [HR.out]
  have h0 : RP w0 gr gm D K A c b { m with xs := [] } ⟨none, 0, none, 0⟩ p w := by
    have e : ({ m with xs := [] } : Ms) = m := by rw [← hx]
    rw [e]
    exact h
  have HA := hid h0
  clear h h0 hs hp he hx HR
  go_enter Tryz.func12, Tryz.ntmps12
  go_wp2_with fail
  go_loopw [62] (fun i wr => ∃ (k : Nat) (A1 : Option Addr) (c1 : Nat), k ≤ 8 ∧ i = .int .i64 (k : Int) ∧ Hid (RP w0 gr gm D K A c b { m with xs := (itemsT b p k).1 } ⟨none, 0, A1, c1⟩ (itemsT b p k).2 wr)) (fun i _ => 8 - (intOf i).toNat)
  case atStart => exact ⟨0, none, 0, by omega, rfl, HA⟩
  case round =>
    clear HA
    obtain ⟨k, A1, c1, hk, rfl, H0⟩ := hrel
    by_cases hlt : k < 8
    · have hi1 : (k : Int) < 8 := by omega
      have hi0 : (0 : Int) ≤ (k : Int) := by omega
      have HD := hid H0.out.drew
      have HC := hid (HE.out (itemsT b p k).2 (itemsT_le b p HP.out k))
      have HNX : Hid (itemsT b p (k + 1) = ((itemsT b p k).1 ++ [(itemT b (itemsT b p k).2).1], (itemT b (itemsT b p k).2).2)) := hid rfl
      have HLN : (itemsT b p k).1.length = k := itemsT_len b p k
      generalize itemsT b p k = r at *
      obtain ⟨L, y⟩ := r
      simp only at HNX HLN
      generalize itemT b y = r2 at *
      obtain ⟨E, z⟩ := r2
      have hL : L.length ≤ 300 := by omega
      clear HLN H0
      go_wp2_with fail
      refine wp_region_held_drew (S := (fun _ => True)) (by kernel_rfl) (trivial) (fun hH => ?_)
      refine tk_ (i := 0) (v := .pointer (some ⟨gm, 0, none⟩)) rfl (Or.inl ⟨by rfl, fun w' hw' => by clear hw'; go_simp⟩) hH ?_
      simp only [Act.put, la1, la3, la4, la5, la6]
      refine tk_ (i := 1) (v := .pointer (some ⟨gm, 0, none⟩)) rfl (Or.inl ⟨by rfl, fun w' hw' => by clear hw'; go_simp⟩) hH ?_
      simp only [Act.put, la1, la2, la3, la4, la5, la6]
      refine tk_ (i := 2) (v := .pointer (some ⟨gm, 0, none⟩)) rfl (Or.inl ⟨by rfl, fun w' hw' => by clear hw'; go_simp⟩) hH ?_
      simp only [Act.put, la1, la2, la3, la4, la5, la6]
      refine tk_ (i := 3) (v := .pointer (some ⟨gm, 31, none⟩)) rfl (Or.inl ⟨by rfl, fun w' hw' => by clear hw'; go_simp⟩) hH ?_
      simp only [Act.put, la1, la2, la3, la4, la5, la6]
      refine tk_ (i := 5) (v := .pointer (some ⟨gr, 0, none⟩)) rfl (Or.inl ⟨by rfl, fun w' hw' => by clear hw'; go_simp⟩) hH ?_
      simp only [Act.put, la1, la2, la3, la4, la5, la6]
      refine wpAnyH_ready (rs := [4, 6]) (by kernel_rfl) (by simp) ?_
      refine AllReadyH.cons rfl (fun K hK => ?_) (AllReadyH.cons rfl (fun K hK => ?_) AllReadyH.nil)
      · have hce := HD.out.mr.row.cell 31
        have hce : World.cell? _ ⟨gm, 31, none⟩ = some (.slice A1 L.length c1) := hce
        go_simp
        refine hK.out _ _ trivial (fun hH => ?_)
        clear hK K
        try simp only [Act.put, la4, la5, la6]
        clear hce
        refine rd1 (i := 6) (by kernel_rfl) rfl (fun K hK => ?_)
        go_simp
        go_at_call 31
        refine (HC.out _ _ _ HD.out).mono ?_
        rintro e w1 ⟨rfl, rd, hg⟩
        go_wp2_with fail
        have H1 := hid (HD.out.call HS.out rd hg)
        clear rd hg
        refine hK.out _ _ trivial (fun hH => ?_)
        clear hK K
        try simp only [Act.put, la1, la2, la3, la4, la5, la6]
        refine rd1 (i := 7) (by kernel_rfl) rfl (fun K hK => ?_)
        rw [if_pos (by rfl)]
        refine wp_slice1M 30 62 (.tmp 70) rfl i0 _ 15 Tryz.underlying30 hi hz0 hz1 (by decide) (by decide) E.cells.toList rfl rfl ?_
        simp only [Act.put]
        have H2 := hid (H1.out.more ((Below.refl _ _).alloc (Nat.le_refl _) (.cells E.cells.toList.toArray 62)))
        refine hK.out _ _ trivial (fun hH => ?_)
        clear hK K
        try simp only [la1, la2, la3, la4, la5, la6]
        refine rd1 (i := 8) (by kernel_rfl) rfl (fun K hK => ?_)
        refine step_append_lies _ rfl (.tmp 68) (.tmp 71) 30 rfl D 62 i0 _ 15 128 Tryz.underlying30 hi hz0 hz1 hz2 rfl (by decide) (.slice A1 L.length c1) L.length _ rfl H2.out.mr.ob ⟨w1.heap.size, 0, none⟩ 1 1 E.cells.toList rfl rfl (hnews w1 E) (it_one E) (by decide) (le_maxLen (by omega)) (by omega) H2.out.size _ rfl ?_
        intro g3 cap3 w3 hown3 hg3 hor3 hlt3
        simp only [Act.put]
        obtain ⟨h3, hce, hfz⟩ := H2.out.xs HS.out HX.out hown3 hg3
        have H3 := hid h3
        clear h3 hown3 hg3 hor3 hlt3
        refine hK.out _ _ trivial (fun hH => ?_)
        clear hK K
        try simp only [la1, la2, la3, la4, la5, la6]
        refine tk_ (i := 9) (v := .pointer (some ⟨gm, 0, none⟩)) rfl (Or.inl ⟨by rfl, fun w' hw' => by clear hw'; go_simp⟩) hH ?_
        simp only [Act.put, la1, la2, la3, la4, la5, la6]
        refine tk_ (i := 10) (v := .pointer (some ⟨gm, 31, none⟩)) rfl (Or.inl ⟨by rfl, fun w' hw' => by clear hw'; go_simp⟩) hH ?_
        simp only [Act.put, la1, la2, la3, la4, la5, la6]
        refine rd1 (i := 11) (by kernel_rfl) rfl (fun K hK => ?_)
        go_simp
        refine hK.out _ _ (trivial) (fun hH => ?_)
        clear hK K
        try simp only [Act.put, la1, la2, la3, la4, la5, la6]
        refine wpAnyH_done (by kernel_rfl) ?_ _
        try simp only [Act.put, la1, la2, la3, la4, la5, la6]
        clear hce hfz
        go_wp2_with fail
        go_roundw
        case rel => exact ⟨k + 1, _, _, by omega, by go_num, hid (by rw [HNX.out]; exact H3.out)⟩
        case measure => simp [intOf]; omega
      · go_simp
        go_at_call 31
        refine (HC.out _ _ _ HD.out).mono ?_
        rintro e w1 ⟨rfl, rd, hg⟩
        go_wp2_with fail
        have H1 := hid (HD.out.call HS.out rd hg)
        clear rd hg
        refine hK.out _ _ trivial (fun hH => ?_)
        clear hK K
        try simp only [Act.put, la1, la2, la3, la4, la5, la6]
        refine wpAnyH_ready (rs := [4, 7]) (by kernel_rfl) (by simp) ?_
        refine AllReadyH.cons rfl (fun K hK => ?_) (AllReadyH.cons rfl (fun K hK => ?_) AllReadyH.nil)
        · have hce := H1.out.mr.row.cell 31
          have hce : World.cell? _ ⟨gm, 31, none⟩ = some (.slice A1 L.length c1) := hce
          go_simp
          refine hK.out _ _ trivial (fun hH => ?_)
          clear hK K
          try simp only [Act.put, la4, la5, la6]
          clear hce
          refine rd1 (i := 7) (by kernel_rfl) rfl (fun K hK => ?_)
          rw [if_pos (by rfl)]
          refine wp_slice1M 30 62 (.tmp 70) rfl i0 _ 15 Tryz.underlying30 hi hz0 hz1 (by decide) (by decide) E.cells.toList rfl rfl ?_
          simp only [Act.put]
          have H2 := hid (H1.out.more ((Below.refl _ _).alloc (Nat.le_refl _) (.cells E.cells.toList.toArray 62)))
          refine hK.out _ _ trivial (fun hH => ?_)
          clear hK K
          try simp only [la1, la2, la3, la4, la5, la6]
          refine rd1 (i := 8) (by kernel_rfl) rfl (fun K hK => ?_)
          refine step_append_lies _ rfl (.tmp 68) (.tmp 71) 30 rfl D 62 i0 _ 15 128 Tryz.underlying30 hi hz0 hz1 hz2 rfl (by decide) (.slice A1 L.length c1) L.length _ rfl H2.out.mr.ob ⟨w1.heap.size, 0, none⟩ 1 1 E.cells.toList rfl rfl (hnews w1 E) (it_one E) (by decide) (le_maxLen (by omega)) (by omega) H2.out.size _ rfl ?_
          intro g3 cap3 w3 hown3 hg3 hor3 hlt3
          simp only [Act.put]
          obtain ⟨h3, hce, hfz⟩ := H2.out.xs HS.out HX.out hown3 hg3
          have H3 := hid h3
          clear h3 hown3 hg3 hor3 hlt3
          refine hK.out _ _ trivial (fun hH => ?_)
          clear hK K
          try simp only [la1, la2, la3, la4, la5, la6]
          refine tk_ (i := 9) (v := .pointer (some ⟨gm, 0, none⟩)) rfl (Or.inl ⟨by rfl, fun w' hw' => by clear hw'; go_simp⟩) hH ?_
          simp only [Act.put, la1, la2, la3, la4, la5, la6]
          refine tk_ (i := 10) (v := .pointer (some ⟨gm, 31, none⟩)) rfl (Or.inl ⟨by rfl, fun w' hw' => by clear hw'; go_simp⟩) hH ?_
          simp only [Act.put, la1, la2, la3, la4, la5, la6]
          refine rd1 (i := 11) (by kernel_rfl) rfl (fun K hK => ?_)
          go_simp
          refine hK.out _ _ (trivial) (fun hH => ?_)
          clear hK K
          try simp only [Act.put, la1, la2, la3, la4, la5, la6]
          refine wpAnyH_done (by kernel_rfl) ?_ _
          try simp only [Act.put, la1, la2, la3, la4, la5, la6]
          clear hce hfz
          go_wp2_with fail
          go_roundw
          case rel => exact ⟨k + 1, _, _, by omega, by go_num, hid (by rw [HNX.out]; exact H3.out)⟩
          case measure => simp [intOf]; omega
        · rw [if_pos (by rfl)]
          refine wp_slice1M 30 62 (.tmp 70) rfl i0 _ 15 Tryz.underlying30 hi hz0 hz1 (by decide) (by decide) E.cells.toList rfl rfl ?_
          simp only [Act.put]
          have H2 := hid (H1.out.more ((Below.refl _ _).alloc (Nat.le_refl _) (.cells E.cells.toList.toArray 62)))
          refine hK.out _ _ trivial (fun hH => ?_)
          clear hK K
          try simp only [la1, la2, la3, la4, la5, la6]
          refine rd1 (i := 4) (by kernel_rfl) rfl (fun K hK => ?_)
          have hce := H2.out.mr.row.cell 31
          have hce : World.cell? _ ⟨gm, 31, none⟩ = some (.slice A1 L.length c1) := hce
          go_simp
          refine hK.out _ _ trivial (fun hH => ?_)
          clear hK K
          try simp only [Act.put, la4, la5, la6]
          clear hce
          refine rd1 (i := 8) (by kernel_rfl) rfl (fun K hK => ?_)
          refine step_append_lies _ rfl (.tmp 68) (.tmp 71) 30 rfl D 62 i0 _ 15 128 Tryz.underlying30 hi hz0 hz1 hz2 rfl (by decide) (.slice A1 L.length c1) L.length _ rfl H2.out.mr.ob ⟨w1.heap.size, 0, none⟩ 1 1 E.cells.toList rfl rfl (hnews w1 E) (it_one E) (by decide) (le_maxLen (by omega)) (by omega) H2.out.size _ rfl ?_
          intro g3 cap3 w3 hown3 hg3 hor3 hlt3
          simp only [Act.put]
          obtain ⟨h3, hce, hfz⟩ := H2.out.xs HS.out HX.out hown3 hg3
          have H3 := hid h3
          clear h3 hown3 hg3 hor3 hlt3
          refine hK.out _ _ trivial (fun hH => ?_)
          clear hK K
          try simp only [la1, la2, la3, la4, la5, la6]
          refine tk_ (i := 9) (v := .pointer (some ⟨gm, 0, none⟩)) rfl (Or.inl ⟨by rfl, fun w' hw' => by clear hw'; go_simp⟩) hH ?_
          simp only [Act.put, la1, la2, la3, la4, la5, la6]
          refine tk_ (i := 10) (v := .pointer (some ⟨gm, 31, none⟩)) rfl (Or.inl ⟨by rfl, fun w' hw' => by clear hw'; go_simp⟩) hH ?_
          simp only [Act.put, la1, la2, la3, la4, la5, la6]
          refine rd1 (i := 11) (by kernel_rfl) rfl (fun K hK => ?_)
          go_simp
          refine hK.out _ _ (trivial) (fun hH => ?_)
          clear hK K
          try simp only [Act.put, la1, la2, la3, la4, la5, la6]
          refine wpAnyH_done (by kernel_rfl) ?_ _
          try simp only [Act.put, la1, la2, la3, la4, la5, la6]
          clear hce hfz
          go_wp2_with fail
          go_roundw
          case rel => exact ⟨k + 1, _, _, by omega, by go_num, hid (by rw [HNX.out]; exact H3.out)⟩
          case measure => simp [intOf]; omega
    · obtain rfl : k = 8 := by omega
      go_wp2_with fail
      go_end0
      exact ⟨rfl, _, H0.out⟩
end Go.Proofs.YtcildaeiogdfdaaGreatDoor
