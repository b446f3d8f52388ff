/-
  The walk of package journal's lay.
-/
import Derived.Test.YtafbeepacncooaaDoorP03
namespace Go.Proofs.YtafbeepacncooaaDoor
open Go.RowKit
set_option maxRecDepth 10000

theorem layJ_snd {S : Sp} {x : Lay} : layL S [x] = layJ S x.1 x.2.1 := by
 rw [layL, layL]
 split
 ·
  rfl
 ·
  rename_i h
  exact Prod.ext rfl (by simpa using (Decidable.not_not.1 h).symm)
theorem layL_next {S : Sp} {a : List Lay} {x : Lay} (h : (layL S a).2 = 0) : layL S (a ++ [x]) = layJ (layL S a).1 x.1 x.2.1 := by
 rw [layL_app, if_neg (by simpa using h), layJ_snd]
theorem layL_stop {S : Sp} {a : List Lay} (b : List Lay) (h : (layL S a).2 ≠ 0) : layL S (a ++ b) = layL S a := by
 rw [layL_app, if_pos h]
theorem goes_count13 (S : Sp) : S.goes.1.count ≤ S.count + 1 := by
 unfold Sp.goes
 split
 ·
  simp
 ·
  split <;> simp
theorem write_count13 (S : Sp) (i : Int) (l : List UInt8) : (S.write i l).1.count ≤ S.count + 1 := by
 have := goes_count13 S
 unfold Sp.write
 split
 ·
  simp
 ·
  split <;> simpa using this
theorem flush_count13 (S : Sp) : S.flush.1.count ≤ S.count + 1 := by
 have := goes_count13 S
 unfold Sp.flush
 split <;> simpa using this
theorem layJ_count (S : Sp) (i : Int) (f : List UInt8 → List UInt8) : (layJ S i f).1.count ≤ S.count + 2 := by
 have h1 := write_count13 S i (f (S.read i).1)
 have h2 := flush_count13 (S.write i (f (S.read i).1)).1
 unfold layJ
 split
 ·
  simp
 ·
  split <;> omega
theorem layL_count : ∀ (L : List Lay) (S : Sp), (layL S L).1.count ≤ S.count + 2 * L.length
 | [], S => by simp [layL]
 | x :: r, S => by
  have h1 := layJ_count S x.1 x.2.1
  have h2 := layL_count r (layJ S x.1 x.2.1).1
  rw [layL]
  split
  ·
   simp; omega
  ·
   simp; omega
theorem read_len13 (S : Sp) (h : S.WF) (i : Int) : (S.read i).1.length ≤ 384 := by
 unfold Sp.read
 split
 ·
  simp
 ·
  split
  ·
   simp
  ·
   rename_i hi _
   have hi' : S.is i := Decidable.not_not.1 hi
   have hl : i.toNat < S.secs.length := by have := hi'.1; have := hi'.2; omega
   rw [List.getD_eq_getElem?_getD, List.getElem?_eq_getElem hl]
   rcases newest_get S.way i.toNat S.secs[i.toNat].lasts with ⟨_, h2, _⟩ | ⟨k, _, hk, _, h2⟩
   ·
    show (lastw S.way i.toNat S.secs[i.toNat].lasts).length ≤ 384
    rw [h2, h.len _ (List.getElem_mem hl)]
    exact Nat.le_refl _
   ·
    show (lastw S.way i.toNat S.secs[i.toNat].lasts).length ≤ 384
    rw [← h2, (h.way _ (List.getElem_mem hk)).2]
    exact Nat.le_refl _
/-- what stays in a region that draws its order -/
def SJ (w0 w1 : World) (jp p gs : Nat) (J : Jn) (G : List Nat) (W : World) : Prop := (∃ S, Jd w0 W jp p gs S J G) ∧ Ek w1 W G
theorem SJ.c0 {w0 w1 W : World} {jp p gs : Nat} {J : Jn} {G : List Nat} (h : SJ w0 w1 jp p gs J G W) : W.cell? ⟨jp, 0, none⟩ = some (.pointer (some ⟨p, 0, none⟩)) := h.1.elim fun _ k => k.c0
theorem SJ.row {w0 w1 W : World} {jp p gs : Nat} {J : Jn} {G : List Nat} (h : SJ w0 w1 jp p gs J G W) {g : Nat} {e : TypeId} {cs : List Value} (hr : Row w1 g e cs) (hg : g ∈ G) : Row W g e cs := h.2.row hr hg
theorem Jd.drew {w0 w : World} {jp p gs : Nat} {S : Sp} {J : Jn} {G : List Nat} (h : Jd w0 w jp p gs S J G) : Jd w0 w.drew jp p gs S J G := (h.new (w' := w.drew) ⟨rfl, rfl, rfl, Nat.le_refl _, fun _ _ => rfl⟩).1
theorem SJ.start {w0 w1 : World} {jp p gs : Nat} {S : Sp} {J : Jn} {G : List Nat} (h : Jd w0 w1 jp p gs S J G) : SJ w0 w1 jp p gs J G w1.drew := ⟨⟨S, h.drew⟩, fun _ _ => rfl⟩
theorem fv_one (x : Ly) : x.fv.oneCell' = true := by cases x <;> rfl
/-- the same, in whatever world has the closures' blocks -/
def LyFn (w : World) (G : List Nat) (F : FuncId) (C : Array Value) (f : List UInt8 → List UInt8) : Prop :=
 ∀ W, Ek w W G → Fd W → ∀ l : List UInt8, l.length ≤ 384 → Calls Tryd.prog F (#[.string ⟨l.toArray⟩] ++ C) W (SN13 W (f l) 0)
theorem sz_mk (l : List UInt8) : (⟨l.toArray⟩ : ByteArray).size = l.length := by rw [← sb_len, sb_mk]
theorem ly_calls {w : World} {G : List Nat} {x : Ly} (h : x.At w G) : ∃ F C, x.fv = .func (.func F) #[] C ∧ (C = #[] ∨ ∃ g, C = #[.pointer (some ⟨g, 0, none⟩)]) ∧ (∀ args W, Sem.run Tryd.prog (callFunc F args) W = .ok (.enter F args) W) ∧ LyFn w G F C x.lay.2.1 := by
 have hz : ∀ l : List UInt8, l.length ≤ 384 → (⟨l.toArray⟩ : ByteArray).size ≤ 1125899906842624 := fun l hl => by rw [sz_mk]; omega
 cases x with
 | v i => exact ⟨_, _, rfl, .inl rfl, fun _ _ => rfl, fun W _ _ l hl => by
   have := fv_calls ⟨l.toArray⟩ (hz l hl) W
   rw [sb_mk] at this
   exact this⟩
 | e y g => exact ⟨_, _, rfl, .inr ⟨g, rfl⟩, fun _ _ => rfl, fun W hk hf l hl => by
   obtain ⟨hg, hr, he, ht⟩ := h
   have := fe_calls y g ⟨l.toArray⟩ (hz l hl) W (hk.row hr hg) hf
   rw [sb_mk, show (prepS l y).2 = 0 by rw [prep_ok he ht]] at this
   exact this⟩
 | s y g => exact ⟨_, _, rfl, .inr ⟨g, rfl⟩, fun _ _ => rfl, fun W hk hf l hl => by
   obtain ⟨hg, hr, he, ht⟩ := h
   have := fs_calls y he g ⟨l.toArray⟩ (hz l hl) W (hk.row hr hg)
   rw [sb_mk, show (hdrS l y).2 = 0 by rw [hdr_ok ht]] at this
   exact this⟩
set_option maxHeartbeats 4000000 in
theorem lay_any13 {w0 w : World} {jp p gs : Nat} {S : Sp} {J : Jn} {G : List Nat} (h : Jd w0 w jp p gs S J G) (L : List Ly) (A : Option Addr) (c : Nat) (hl : LyAt w G A L) (hc : S.count + 2 * L.length ≤ 1048000) :
  Calls Tryd.prog 40 #[.pointer (some ⟨jp, 0, none⟩), .slice A L.length c] w (JC w0 w jp p gs (layL S (L.map Ly.lay)).1 J G (.int .i64 (layL S (L.map Ly.lay)).2)) := by
 have HZ := hid laySize
 have HLN : Hid (L.length ≤ 524000) := hid (by omega)
 have HCNT : Hid (∀ k, k ≤ L.length → (layL S ((L.take k).map Ly.lay)).1.count + 4 ≤ 1048100) := hid fun k hk => by
  have := layL_count ((L.take k).map Ly.lay) S
  rw [List.length_map, List.length_take] at this
  omega
 have HNX : Hid (∀ k (hk : k < L.length), (layL S ((L.take k).map Ly.lay)).2 = 0 → layL S ((L.take (k + 1)).map Ly.lay) = layJ (layL S ((L.take k).map Ly.lay)).1 L[k].lay.1 L[k].lay.2.1) := hid fun k hk h0 => by
  rw [List.take_succ_eq_append_getElem hk, List.map_append]
  exact layL_next h0
 have HST : Hid (∀ k, (layL S ((L.take k).map Ly.lay)).2 ≠ 0 → layL S (L.map Ly.lay) = layL S ((L.take k).map Ly.lay)) := hid fun k h0 => by
  have e : L.map Ly.lay = (L.take k).map Ly.lay ++ (L.drop k).map Ly.lay := by rw [← List.map_append, List.take_append_drop]
  rw [e]
  exact layL_stop _ h0
 have HEND : Hid (L.take L.length = L) := hid (List.take_length)
 have HL := hid hl
 have HH := hid h
 clear h hl hc
 go_enter Tryd.func40, Tryd.ntmps40
 go_wp2_with fail
 go_loopw [14] (fun i wr => ∃ k : Nat, k ≤ L.length ∧ i = .int .i64 k ∧ Hid ((layL S ((L.take k).map Ly.lay)).2 = 0) ∧ Jd w0 wr jp p gs (layL S ((L.take k).map Ly.lay)).1 J G ∧ Ek w wr G) (fun i _ => L.length - (intOf i).toNat)
 case atStart => exact ⟨0, by omega, rfl, hid rfl, HH.out, Ek.refl _ _⟩
 case round =>
  obtain ⟨k, hk, rfl, hst, hj, hek⟩ := hrel
  have HJ := hid hj
  have HEK := hid hek
  by_cases hlt : k < L.length
  ·
   have hb : (k : Int) < (L.length : Int) := by omega
   have hkm : (L.length : Int) ≤ 524000 := by have := HLN.out; omega
   have hcn := HCNT.out k hk
   have hnx := HNX.out k hlt hst.out
   have hst2 := HST.out (k + 1)
   rw [hnx] at hst2
   obtain ⟨hcl, hrow⟩ := HL.out.ek hek
   obtain ⟨g, o, rfl, hg, hcell⟩ := hrow (by intro e; rw [e] at hlt; simp at hlt)
   have hat := hcl _ (List.getElem_mem hlt)
   have hrg : wr.rangeAt g (o + k * 2) L[k].cells := fun j v hv => hcell k j v hlt hv
   have hone := fv_one L[k]
   obtain ⟨F, C, hfv, hC, heg, hfn⟩ := ly_calls hat
   have HEG := hid heg
   clear heg
   unfold Ly.cells at hrg
   rw [hfv] at hrg hone
   have HFN := hid hfn
   have HRG := hid hrg
   have HONE : Hid ((#[.int .i64 (L[k].lay.1 : Int), .func (.func F) #[] C] : Array Value).all (·.oneCell') = true) := hid (by simp [hone]; rfl)
   have HST2 := hid hst2
   have HNX2 := hid hnx
   clear HL hcl hrow hcell hat hrg hfv hone hfn hst2 hnx HNX HST
   have HRD : Hid (∀ W, Jd w0 W jp p gs (layL S ((L.take k).map Ly.lay)).1 J (wr.heap.size :: G) → Calls Tryd.prog 26 #[.pointer (some ⟨p, 0, none⟩), .int .i64 (L[k].lay.1 : Int)] W (JC w0 W jp p gs (layL S ((L.take k).map Ly.lay)).1 J (wr.heap.size :: G) (.tuple #[.string ⟨((layL S ((L.take k).map Ly.lay)).1.read (L[k].lay.1 : Int)).1.toArray⟩, .int .i64 ((layL S ((L.take k).map Ly.lay)).1.read (L[k].lay.1 : Int)).2]))) := hid fun W hW => hW.callD fun hD => dd_read hD (by omega) _ rfl
   have HRL : Hid (((layL S ((L.take k).map Ly.lay)).1.read (L[k].lay.1 : Int)).1.length ≤ 384) := hid (read_len13 _ HJ.out.wf _)
   have HGN : Hid (wr.heap.size ∉ G) := hid fun hn => Nat.lt_irrefl _ (HJ.out.lt _ hn)
   have H0N : Hid (w0.heap.size ≤ wr.heap.size) := hid HJ.out.size
   clear hj hek
   unfold layJ at HST2 HNX2
   generalize (layL S ((L.take k).map Ly.lay)).1 = S1 at *
   generalize L[k].lay.2.1 = f at *
   generalize (L[k].lay.1 : Int) = a at *
   generalize hR : S1.read a = R at *
   obtain ⟨old, x⟩ := R
   simp only at HST2 HNX2 HRD HRL
   generalize hbx : wr.heap.size = bx at *
   have HBX := hid hbx
   clear hR
   by_cases hx : x = 0
   ·
    subst hx
    rw [if_neg (by simp)] at HST2 HNX2
    have HWR : Hid (∀ W, Jd w0 W jp p gs S1 J (bx :: G) → Calls Tryd.prog 47 #[.pointer (some ⟨p, 0, none⟩), .int .i64 a, .string ⟨(f old).toArray⟩] W (JC w0 W jp p gs (S1.write a (f old)).1 J (bx :: G) (.int .i64 (S1.write a (f old)).2))) := hid fun W hW => hW.callD fun hD => dd_write hD (by omega) a _ (by rw [sb_mk])
    have hwc := write_count13 S1 a (f old)
    have HFL : Hid (∀ W, Jd w0 W jp p gs (S1.write a (f old)).1 J (bx :: G) → Calls Tryd.prog 49 #[.pointer (some ⟨p, 0, none⟩)] W (JC w0 W jp p gs (S1.write a (f old)).1.flush.1 J (bx :: G) (.int .i64 (S1.write a (f old)).1.flush.2))) := hid fun W hW => hW.callD fun hD => dd_flush hD (by omega) rfl
    clear hwc hcn
    generalize S1.write a (f old) = T at *
    obtain ⟨S2, y⟩ := T
    simp only at HST2 HNX2 HWR HFL
    by_cases hy : y = 0
    ·
     subst hy
     rw [if_neg (by simp)] at HST2 HNX2
     generalize S2.flush = U at *
     obtain ⟨S3, z⟩ := U
     simp only at HST2 HNX2 HFL
     by_cases hz : z = 0
     ·
      subst hz
      clear HST2
      rcases hC with rfl | ⟨gc, rfl⟩
      ·
       have HFN2 : Hid (∀ W, Ek wr W G → Fd W → ∀ l : List UInt8, l.length ≤ 384 → Calls Tryd.prog F #[.string ⟨l.toArray⟩] W (SN13 W (f l) 0)) := hid fun W h1 h2 l h3 => HFN.out W h1 h2 l h3
       go_wp2_with (first
        | (refine wpl_load_midw rfl 87 (.tmp 16) rfl g (o + k * 2) rfl [.int .i64 a, .func (.func F) #[] #[]] _ HRG.out Tryd.underlying87 rfl HZ.out ?_)
        | (refine wpl_store_st rfl (.tmp 6) (.tmp 17) rfl (n := 2) HZ.out bx #[.int .i64 0, .nilFunc] #[.int .i64 a, .func (.func F) #[] #[]] rfl rfl (by rw [← HBX.out]; exact Row.new _ _ _) ?_ (hid rfl) (hid rfl) HONE; intro w1 HR1 HB1; have hb1 : Below wr.heap.size wr w1 := (((Below.refl wr.heap.size wr).alloc (Nat.le_refl _) _).trans (below_grown HB1 (by rw [HBX.out]; exact Nat.le_refl _) (by simp))); have hlt1 : bx < w1.heap.size := HR1.lt; have H1 := hid (HJ.out.add hb1 (g := bx) (by rw [HBX.out]; exact Nat.le_refl _) hlt1); have E1 := hid (HJ.out.new hb1).2; have cj := H1.out.c0; have c10 : w1.cell? ⟨bx, 0, none⟩ = some (.int .i64 a) := HR1.at_ 0 _ rfl; have HR := hid HR1; clear hb1 HB1 HR1))
       try simp only [Act.put, U1,U2,U3,U4,U5,U6]
       refine wp_region_held_drew (S := SJ w0 w1 jp p gs J (bx :: G)) (by kernel_rfl) (SJ.start H1.out) (fun hH => ?_)
       refine tk_ (i := 0) (v := .pointer (some ⟨jp, 0, none⟩)) rfl (Or.inl ⟨by kernel_rfl, fun w' _ => by kernel_rfl⟩) hH ?_
       simp only [Act.put, U1, U3, U4, U5, U6]
       refine tk_ (i := 1) (v := .pointer (some ⟨jp, 0, none⟩)) rfl (Or.inl ⟨by rfl, fun w' hw' => by clear hw'; go_simp⟩) hH ?_
       simp only [Act.put, U1,U2,U3,U4,U5,U6]
       refine tk_ (i := 2) (v := .pointer (some ⟨jp, 0, none⟩)) rfl (Or.inl ⟨by rfl, fun w' hw' => by clear hw'; go_simp⟩) hH ?_
       simp only [Act.put, U1,U2,U3,U4,U5,U6]
       refine tk_ (i := 3) (v := .pointer (some ⟨p, 0, none⟩)) rfl (Or.inl ⟨by rfl, fun w' hw' => by have h := hw'.c0; go_simp⟩) hH ?_
       simp only [Act.put, U1,U2,U3,U4,U5,U6]
       refine tk_ (i := 4) (v := .pointer (some ⟨bx, 0, none⟩)) rfl (Or.inl ⟨by rfl, fun w' hw' => by clear hw'; go_simp⟩) hH ?_
       simp only [Act.put, U1,U2,U3,U4,U5,U6]
       refine tk_ (i := 5) (v := .int .i64 a) rfl (Or.inl ⟨by rfl, fun w' hw' => by have h := (hw'.row HR.out (by simp)).at_ 0 _ rfl; go_simp⟩) hH ?_
       simp only [Act.put, U1,U2,U3,U4,U5,U6]
       refine wpAnyH_ready (rs := [6]) (by kernel_rfl) (by simp) ?_
       refine AllReadyH.cons rfl (fun K hK => ?_) AllReadyH.nil
       go_simp
       go_at_call 26
       refine (HRD.out _ H1.out.drew).mono ?_
       rintro e w2 ⟨rfl, h2, k2⟩
       go_wp2_with fail
       refine hK.out _ _ (⟨⟨_, h2⟩, hH.2.trans k2⟩) (fun hH => ?_)
       clear hK K
       try simp only [Act.put, U1,U2,U3,U4,U5,U6]
       refine tk_ (i := 7) (v := .tuple #[.string ⟨old.toArray⟩, .int .i64 0]) rfl (Or.inl ⟨by kernel_rfl, fun w' _ => by kernel_rfl⟩) hH ?_
       simp only [Act.put, U1,U2,U3,U4,U5,U6]
       refine tk_ (i := 8) (v := .string ⟨old.toArray⟩) rfl (Or.inl ⟨by kernel_rfl, fun w' _ => by kernel_rfl⟩) hH ?_
       simp only [Act.put, U1,U2,U3,U4,U5,U6]
       refine tk_ (i := 9) (v := .int .i64 0) rfl (Or.inl ⟨by kernel_rfl, fun w' _ => by kernel_rfl⟩) hH ?_
       simp only [Act.put, U1,U2,U3,U4,U5,U6]
       refine tk_ (i := 10) (v := .string ⟨old.toArray⟩) rfl (Or.inl ⟨by kernel_rfl, fun w' _ => by kernel_rfl⟩) hH ?_
       simp only [Act.put, U1,U2,U3,U4,U5,U6]
       refine tk_ (i := 11) (v := .int .i64 0) rfl (Or.inl ⟨by kernel_rfl, fun w' _ => by kernel_rfl⟩) hH ?_
       simp only [Act.put, U1,U2,U3,U4,U5,U6]
       refine wpAnyH_done (by kernel_rfl) ?_ _
       try simp only [Act.put, U1,U2,U3,U4,U5,U6]
       have H2 := hid h2
       have E2 : Hid (Ek w1 w2 (bx :: G)) := hid hH.2
       have R2 := hid (E2.out.row HR.out (by simp))
       have c21 : w2.cell? ⟨bx, 1, none⟩ = some (.func (.func F) #[] #[]) := R2.out.at_ 1 _ rfl
       have heg := HEG.out
       clear h2 k2 hH
       go_wp2_with (first
        | (refine (HFN2.out w2 (E1.out.trans E2.out.tail) H2.out.fd old HRL.out).mono ?_; rintro e w3 ⟨rfl, hb3⟩; have H3 := hid (H2.out.new hb3).1; have E3 : Hid (Ek w1 w3 (bx :: G)) := hid (E2.out.trans (H2.out.new hb3).2); have R3 := hid (E3.out.row HR.out (by simp)); clear hb3))
       clear heg
       try simp only [Act.put, U1,U2,U3,U4,U5,U6]
       refine wp_region_held_drew (S := SJ w0 w3 jp p gs J (bx :: G)) (by kernel_rfl) (SJ.start H3.out) (fun hH => ?_)
       refine tk_ (i := 0) (v := .pointer (some ⟨jp, 0, none⟩)) rfl (Or.inl ⟨by kernel_rfl, fun w' _ => by kernel_rfl⟩) hH ?_
       simp only [Act.put, U1, U3, U4, U5, U6]
       refine tk_ (i := 1) (v := .pointer (some ⟨jp, 0, none⟩)) rfl (Or.inl ⟨by rfl, fun w' hw' => by clear hw'; go_simp⟩) hH ?_
       simp only [Act.put, U1,U2,U3,U4,U5,U6]
       refine tk_ (i := 2) (v := .pointer (some ⟨jp, 0, none⟩)) rfl (Or.inl ⟨by rfl, fun w' hw' => by clear hw'; go_simp⟩) hH ?_
       simp only [Act.put, U1,U2,U3,U4,U5,U6]
       refine tk_ (i := 3) (v := .pointer (some ⟨p, 0, none⟩)) rfl (Or.inl ⟨by rfl, fun w' hw' => by have h := hw'.c0; go_simp⟩) hH ?_
       simp only [Act.put, U1,U2,U3,U4,U5,U6]
       refine tk_ (i := 4) (v := .pointer (some ⟨bx, 0, none⟩)) rfl (Or.inl ⟨by rfl, fun w' hw' => by clear hw'; go_simp⟩) hH ?_
       simp only [Act.put, U1,U2,U3,U4,U5,U6]
       refine tk_ (i := 5) (v := .int .i64 a) rfl (Or.inl ⟨by rfl, fun w' hw' => by have h := (hw'.row R3.out (by simp)).at_ 0 _ rfl; go_simp⟩) hH ?_
       simp only [Act.put, U1,U2,U3,U4,U5,U6]
       refine tk_ (i := 6) (v := .string ⟨(f old).toArray⟩) rfl (Or.inl ⟨by kernel_rfl, fun w' _ => by kernel_rfl⟩) hH ?_
       simp only [Act.put, U1,U2,U3,U4,U5,U6]
       refine wpAnyH_ready (rs := [7]) (by kernel_rfl) (by simp) ?_
       refine AllReadyH.cons rfl (fun K hK => ?_) AllReadyH.nil
       go_simp
       go_at_call 47
       refine (HWR.out _ H3.out.drew).mono ?_
       rintro e w4 ⟨rfl, h4, k4⟩
       go_wp2_with fail
       refine hK.out _ _ (⟨⟨_, h4⟩, hH.2.trans k4⟩) (fun hH => ?_)
       clear hK K
       try simp only [Act.put, U1,U2,U3,U4,U5,U6]
       refine tk_ (i := 8) (v := .int .i64 0) rfl (Or.inl ⟨by kernel_rfl, fun w' _ => by kernel_rfl⟩) hH ?_
       simp only [Act.put, U1,U2,U3,U4,U5,U6]
       refine wpAnyH_done (by kernel_rfl) ?_ _
       try simp only [Act.put, U1,U2,U3,U4,U5,U6]
       have H4 := hid h4
       have E4 : Hid (Ek w1 w4 (bx :: G)) := hid (E3.out.trans hH.2)
       have cj4 := H4.out.c0
       clear h4 k4 hH
       go_wp2_with (first
        | (go_at_call 49; refine (HFL.out _ H4.out).mono ?_; rintro e w5 ⟨rfl, h5, k5⟩; have H5 := hid h5; have E5 : Hid (Ek w1 w5 (bx :: G)) := hid (E4.out.trans k5); clear h5 k5))
       go_roundw
       case rel => exact ⟨k + 1, by omega, by go_num, hid (by rw [HNX2.out]), by rw [HNX2.out]; exact H5.out.tail, HEK.out.trans (E1.out.trans E5.out.tail)⟩
       case measure => simp [intOf]; omega
      ·
       have HFN2 : Hid (∀ W, Ek wr W G → Fd W → ∀ l : List UInt8, l.length ≤ 384 → Calls Tryd.prog F #[.string ⟨l.toArray⟩, .pointer (some ⟨gc, 0, none⟩)] W (SN13 W (f l) 0)) := hid fun W h1 h2 l h3 => HFN.out W h1 h2 l h3
       go_wp2_with (first
        | (refine wpl_load_midw rfl 87 (.tmp 16) rfl g (o + k * 2) rfl [.int .i64 a, .func (.func F) #[] #[.pointer (some ⟨gc, 0, none⟩)]] _ HRG.out Tryd.underlying87 rfl HZ.out ?_)
        | (refine wpl_store_st rfl (.tmp 6) (.tmp 17) rfl (n := 2) HZ.out bx #[.int .i64 0, .nilFunc] #[.int .i64 a, .func (.func F) #[] #[.pointer (some ⟨gc, 0, none⟩)]] rfl rfl (by rw [← HBX.out]; exact Row.new _ _ _) ?_ (hid rfl) (hid rfl) HONE; intro w1 HR1 HB1; have hb1 : Below wr.heap.size wr w1 := (((Below.refl wr.heap.size wr).alloc (Nat.le_refl _) _).trans (below_grown HB1 (by rw [HBX.out]; exact Nat.le_refl _) (by simp))); have hlt1 : bx < w1.heap.size := HR1.lt; have H1 := hid (HJ.out.add hb1 (g := bx) (by rw [HBX.out]; exact Nat.le_refl _) hlt1); have E1 := hid (HJ.out.new hb1).2; have cj := H1.out.c0; have c10 : w1.cell? ⟨bx, 0, none⟩ = some (.int .i64 a) := HR1.at_ 0 _ rfl; have HR := hid HR1; clear hb1 HB1 HR1))
       try simp only [Act.put, U1,U2,U3,U4,U5,U6]
       refine wp_region_held_drew (S := SJ w0 w1 jp p gs J (bx :: G)) (by kernel_rfl) (SJ.start H1.out) (fun hH => ?_)
       refine tk_ (i := 0) (v := .pointer (some ⟨jp, 0, none⟩)) rfl (Or.inl ⟨by kernel_rfl, fun w' _ => by kernel_rfl⟩) hH ?_
       simp only [Act.put, U1, U3, U4, U5, U6]
       refine tk_ (i := 1) (v := .pointer (some ⟨jp, 0, none⟩)) rfl (Or.inl ⟨by rfl, fun w' hw' => by clear hw'; go_simp⟩) hH ?_
       simp only [Act.put, U1,U2,U3,U4,U5,U6]
       refine tk_ (i := 2) (v := .pointer (some ⟨jp, 0, none⟩)) rfl (Or.inl ⟨by rfl, fun w' hw' => by clear hw'; go_simp⟩) hH ?_
       simp only [Act.put, U1,U2,U3,U4,U5,U6]
       refine tk_ (i := 3) (v := .pointer (some ⟨p, 0, none⟩)) rfl (Or.inl ⟨by rfl, fun w' hw' => by have h := hw'.c0; go_simp⟩) hH ?_
       simp only [Act.put, U1,U2,U3,U4,U5,U6]
       refine tk_ (i := 4) (v := .pointer (some ⟨bx, 0, none⟩)) rfl (Or.inl ⟨by rfl, fun w' hw' => by clear hw'; go_simp⟩) hH ?_
       simp only [Act.put, U1,U2,U3,U4,U5,U6]
       refine tk_ (i := 5) (v := .int .i64 a) rfl (Or.inl ⟨by rfl, fun w' hw' => by have h := (hw'.row HR.out (by simp)).at_ 0 _ rfl; go_simp⟩) hH ?_
       simp only [Act.put, U1,U2,U3,U4,U5,U6]
       refine wpAnyH_ready (rs := [6]) (by kernel_rfl) (by simp) ?_
       refine AllReadyH.cons rfl (fun K hK => ?_) AllReadyH.nil
       go_simp
       go_at_call 26
       refine (HRD.out _ H1.out.drew).mono ?_
       rintro e w2 ⟨rfl, h2, k2⟩
       go_wp2_with fail
       refine hK.out _ _ (⟨⟨_, h2⟩, hH.2.trans k2⟩) (fun hH => ?_)
       clear hK K
       try simp only [Act.put, U1,U2,U3,U4,U5,U6]
       refine tk_ (i := 7) (v := .tuple #[.string ⟨old.toArray⟩, .int .i64 0]) rfl (Or.inl ⟨by kernel_rfl, fun w' _ => by kernel_rfl⟩) hH ?_
       simp only [Act.put, U1,U2,U3,U4,U5,U6]
       refine tk_ (i := 8) (v := .string ⟨old.toArray⟩) rfl (Or.inl ⟨by kernel_rfl, fun w' _ => by kernel_rfl⟩) hH ?_
       simp only [Act.put, U1,U2,U3,U4,U5,U6]
       refine tk_ (i := 9) (v := .int .i64 0) rfl (Or.inl ⟨by kernel_rfl, fun w' _ => by kernel_rfl⟩) hH ?_
       simp only [Act.put, U1,U2,U3,U4,U5,U6]
       refine tk_ (i := 10) (v := .string ⟨old.toArray⟩) rfl (Or.inl ⟨by kernel_rfl, fun w' _ => by kernel_rfl⟩) hH ?_
       simp only [Act.put, U1,U2,U3,U4,U5,U6]
       refine tk_ (i := 11) (v := .int .i64 0) rfl (Or.inl ⟨by kernel_rfl, fun w' _ => by kernel_rfl⟩) hH ?_
       simp only [Act.put, U1,U2,U3,U4,U5,U6]
       refine wpAnyH_done (by kernel_rfl) ?_ _
       try simp only [Act.put, U1,U2,U3,U4,U5,U6]
       have H2 := hid h2
       have E2 : Hid (Ek w1 w2 (bx :: G)) := hid hH.2
       have R2 := hid (E2.out.row HR.out (by simp))
       have c21 : w2.cell? ⟨bx, 1, none⟩ = some (.func (.func F) #[] #[.pointer (some ⟨gc, 0, none⟩)]) := R2.out.at_ 1 _ rfl
       have heg := HEG.out
       clear h2 k2 hH
       go_wp2_with (first
        | (refine (HFN2.out w2 (E1.out.trans E2.out.tail) H2.out.fd old HRL.out).mono ?_; rintro e w3 ⟨rfl, hb3⟩; have H3 := hid (H2.out.new hb3).1; have E3 : Hid (Ek w1 w3 (bx :: G)) := hid (E2.out.trans (H2.out.new hb3).2); have R3 := hid (E3.out.row HR.out (by simp)); clear hb3))
       clear heg
       try simp only [Act.put, U1,U2,U3,U4,U5,U6]
       refine wp_region_held_drew (S := SJ w0 w3 jp p gs J (bx :: G)) (by kernel_rfl) (SJ.start H3.out) (fun hH => ?_)
       refine tk_ (i := 0) (v := .pointer (some ⟨jp, 0, none⟩)) rfl (Or.inl ⟨by kernel_rfl, fun w' _ => by kernel_rfl⟩) hH ?_
       simp only [Act.put, U1, U3, U4, U5, U6]
       refine tk_ (i := 1) (v := .pointer (some ⟨jp, 0, none⟩)) rfl (Or.inl ⟨by rfl, fun w' hw' => by clear hw'; go_simp⟩) hH ?_
       simp only [Act.put, U1,U2,U3,U4,U5,U6]
       refine tk_ (i := 2) (v := .pointer (some ⟨jp, 0, none⟩)) rfl (Or.inl ⟨by rfl, fun w' hw' => by clear hw'; go_simp⟩) hH ?_
       simp only [Act.put, U1,U2,U3,U4,U5,U6]
       refine tk_ (i := 3) (v := .pointer (some ⟨p, 0, none⟩)) rfl (Or.inl ⟨by rfl, fun w' hw' => by have h := hw'.c0; go_simp⟩) hH ?_
       simp only [Act.put, U1,U2,U3,U4,U5,U6]
       refine tk_ (i := 4) (v := .pointer (some ⟨bx, 0, none⟩)) rfl (Or.inl ⟨by rfl, fun w' hw' => by clear hw'; go_simp⟩) hH ?_
       simp only [Act.put, U1,U2,U3,U4,U5,U6]
       refine tk_ (i := 5) (v := .int .i64 a) rfl (Or.inl ⟨by rfl, fun w' hw' => by have h := (hw'.row R3.out (by simp)).at_ 0 _ rfl; go_simp⟩) hH ?_
       simp only [Act.put, U1,U2,U3,U4,U5,U6]
       refine tk_ (i := 6) (v := .string ⟨(f old).toArray⟩) rfl (Or.inl ⟨by kernel_rfl, fun w' _ => by kernel_rfl⟩) hH ?_
       simp only [Act.put, U1,U2,U3,U4,U5,U6]
       refine wpAnyH_ready (rs := [7]) (by kernel_rfl) (by simp) ?_
       refine AllReadyH.cons rfl (fun K hK => ?_) AllReadyH.nil
       go_simp
       go_at_call 47
       refine (HWR.out _ H3.out.drew).mono ?_
       rintro e w4 ⟨rfl, h4, k4⟩
       go_wp2_with fail
       refine hK.out _ _ (⟨⟨_, h4⟩, hH.2.trans k4⟩) (fun hH => ?_)
       clear hK K
       try simp only [Act.put, U1,U2,U3,U4,U5,U6]
       refine tk_ (i := 8) (v := .int .i64 0) rfl (Or.inl ⟨by kernel_rfl, fun w' _ => by kernel_rfl⟩) hH ?_
       simp only [Act.put, U1,U2,U3,U4,U5,U6]
       refine wpAnyH_done (by kernel_rfl) ?_ _
       try simp only [Act.put, U1,U2,U3,U4,U5,U6]
       have H4 := hid h4
       have E4 : Hid (Ek w1 w4 (bx :: G)) := hid (E3.out.trans hH.2)
       have cj4 := H4.out.c0
       clear h4 k4 hH
       go_wp2_with (first
        | (go_at_call 49; refine (HFL.out _ H4.out).mono ?_; rintro e w5 ⟨rfl, h5, k5⟩; have H5 := hid h5; have E5 : Hid (Ek w1 w5 (bx :: G)) := hid (E4.out.trans k5); clear h5 k5))
       go_roundw
       case rel => exact ⟨k + 1, by omega, by go_num, hid (by rw [HNX2.out]), by rw [HNX2.out]; exact H5.out.tail, HEK.out.trans (E1.out.trans E5.out.tail)⟩
       case measure => simp [intOf]; omega
     ·
      have HS2 := hid (HST2.out hz)
      have HZ2 := hid (show (z != 0) = true by simpa using hz)
      clear HST2 HNX2 hz
      rcases hC with rfl | ⟨gc, rfl⟩
      ·
       have hz2 := HZ2.out
       have HFN2 : Hid (∀ W, Ek wr W G → Fd W → ∀ l : List UInt8, l.length ≤ 384 → Calls Tryd.prog F #[.string ⟨l.toArray⟩] W (SN13 W (f l) 0)) := hid fun W h1 h2 l h3 => HFN.out W h1 h2 l h3
       go_wp2_with (first
        | (refine wpl_load_midw rfl 87 (.tmp 16) rfl g (o + k * 2) rfl [.int .i64 a, .func (.func F) #[] #[]] _ HRG.out Tryd.underlying87 rfl HZ.out ?_)
        | (refine wpl_store_st rfl (.tmp 6) (.tmp 17) rfl (n := 2) HZ.out bx #[.int .i64 0, .nilFunc] #[.int .i64 a, .func (.func F) #[] #[]] rfl rfl (by rw [← HBX.out]; exact Row.new _ _ _) ?_ (hid rfl) (hid rfl) HONE; intro w1 HR1 HB1; have hb1 : Below wr.heap.size wr w1 := (((Below.refl wr.heap.size wr).alloc (Nat.le_refl _) _).trans (below_grown HB1 (by rw [HBX.out]; exact Nat.le_refl _) (by simp))); have hlt1 : bx < w1.heap.size := HR1.lt; have H1 := hid (HJ.out.add hb1 (g := bx) (by rw [HBX.out]; exact Nat.le_refl _) hlt1); have E1 := hid (HJ.out.new hb1).2; have cj := H1.out.c0; have c10 : w1.cell? ⟨bx, 0, none⟩ = some (.int .i64 a) := HR1.at_ 0 _ rfl; have HR := hid HR1; clear hb1 HB1 HR1))
       try simp only [Act.put, U1,U2,U3,U4,U5,U6]
       refine wp_region_held_drew (S := SJ w0 w1 jp p gs J (bx :: G)) (by kernel_rfl) (SJ.start H1.out) (fun hH => ?_)
       refine tk_ (i := 0) (v := .pointer (some ⟨jp, 0, none⟩)) rfl (Or.inl ⟨by kernel_rfl, fun w' _ => by kernel_rfl⟩) hH ?_
       simp only [Act.put, U1, U3, U4, U5, U6]
       refine tk_ (i := 1) (v := .pointer (some ⟨jp, 0, none⟩)) rfl (Or.inl ⟨by rfl, fun w' hw' => by clear hw'; go_simp⟩) hH ?_
       simp only [Act.put, U1,U2,U3,U4,U5,U6]
       refine tk_ (i := 2) (v := .pointer (some ⟨jp, 0, none⟩)) rfl (Or.inl ⟨by rfl, fun w' hw' => by clear hw'; go_simp⟩) hH ?_
       simp only [Act.put, U1,U2,U3,U4,U5,U6]
       refine tk_ (i := 3) (v := .pointer (some ⟨p, 0, none⟩)) rfl (Or.inl ⟨by rfl, fun w' hw' => by have h := hw'.c0; go_simp⟩) hH ?_
       simp only [Act.put, U1,U2,U3,U4,U5,U6]
       refine tk_ (i := 4) (v := .pointer (some ⟨bx, 0, none⟩)) rfl (Or.inl ⟨by rfl, fun w' hw' => by clear hw'; go_simp⟩) hH ?_
       simp only [Act.put, U1,U2,U3,U4,U5,U6]
       refine tk_ (i := 5) (v := .int .i64 a) rfl (Or.inl ⟨by rfl, fun w' hw' => by have h := (hw'.row HR.out (by simp)).at_ 0 _ rfl; go_simp⟩) hH ?_
       simp only [Act.put, U1,U2,U3,U4,U5,U6]
       refine wpAnyH_ready (rs := [6]) (by kernel_rfl) (by simp) ?_
       refine AllReadyH.cons rfl (fun K hK => ?_) AllReadyH.nil
       go_simp
       go_at_call 26
       refine (HRD.out _ H1.out.drew).mono ?_
       rintro e w2 ⟨rfl, h2, k2⟩
       go_wp2_with fail
       refine hK.out _ _ (⟨⟨_, h2⟩, hH.2.trans k2⟩) (fun hH => ?_)
       clear hK K
       try simp only [Act.put, U1,U2,U3,U4,U5,U6]
       refine tk_ (i := 7) (v := .tuple #[.string ⟨old.toArray⟩, .int .i64 0]) rfl (Or.inl ⟨by kernel_rfl, fun w' _ => by kernel_rfl⟩) hH ?_
       simp only [Act.put, U1,U2,U3,U4,U5,U6]
       refine tk_ (i := 8) (v := .string ⟨old.toArray⟩) rfl (Or.inl ⟨by kernel_rfl, fun w' _ => by kernel_rfl⟩) hH ?_
       simp only [Act.put, U1,U2,U3,U4,U5,U6]
       refine tk_ (i := 9) (v := .int .i64 0) rfl (Or.inl ⟨by kernel_rfl, fun w' _ => by kernel_rfl⟩) hH ?_
       simp only [Act.put, U1,U2,U3,U4,U5,U6]
       refine tk_ (i := 10) (v := .string ⟨old.toArray⟩) rfl (Or.inl ⟨by kernel_rfl, fun w' _ => by kernel_rfl⟩) hH ?_
       simp only [Act.put, U1,U2,U3,U4,U5,U6]
       refine tk_ (i := 11) (v := .int .i64 0) rfl (Or.inl ⟨by kernel_rfl, fun w' _ => by kernel_rfl⟩) hH ?_
       simp only [Act.put, U1,U2,U3,U4,U5,U6]
       refine wpAnyH_done (by kernel_rfl) ?_ _
       try simp only [Act.put, U1,U2,U3,U4,U5,U6]
       have H2 := hid h2
       have E2 : Hid (Ek w1 w2 (bx :: G)) := hid hH.2
       have R2 := hid (E2.out.row HR.out (by simp))
       have c21 : w2.cell? ⟨bx, 1, none⟩ = some (.func (.func F) #[] #[]) := R2.out.at_ 1 _ rfl
       have heg := HEG.out
       clear h2 k2 hH
       go_wp2_with (first
        | (refine (HFN2.out w2 (E1.out.trans E2.out.tail) H2.out.fd old HRL.out).mono ?_; rintro e w3 ⟨rfl, hb3⟩; have H3 := hid (H2.out.new hb3).1; have E3 : Hid (Ek w1 w3 (bx :: G)) := hid (E2.out.trans (H2.out.new hb3).2); have R3 := hid (E3.out.row HR.out (by simp)); clear hb3))
       clear heg
       try simp only [Act.put, U1,U2,U3,U4,U5,U6]
       refine wp_region_held_drew (S := SJ w0 w3 jp p gs J (bx :: G)) (by kernel_rfl) (SJ.start H3.out) (fun hH => ?_)
       refine tk_ (i := 0) (v := .pointer (some ⟨jp, 0, none⟩)) rfl (Or.inl ⟨by kernel_rfl, fun w' _ => by kernel_rfl⟩) hH ?_
       simp only [Act.put, U1, U3, U4, U5, U6]
       refine tk_ (i := 1) (v := .pointer (some ⟨jp, 0, none⟩)) rfl (Or.inl ⟨by rfl, fun w' hw' => by clear hw'; go_simp⟩) hH ?_
       simp only [Act.put, U1,U2,U3,U4,U5,U6]
       refine tk_ (i := 2) (v := .pointer (some ⟨jp, 0, none⟩)) rfl (Or.inl ⟨by rfl, fun w' hw' => by clear hw'; go_simp⟩) hH ?_
       simp only [Act.put, U1,U2,U3,U4,U5,U6]
       refine tk_ (i := 3) (v := .pointer (some ⟨p, 0, none⟩)) rfl (Or.inl ⟨by rfl, fun w' hw' => by have h := hw'.c0; go_simp⟩) hH ?_
       simp only [Act.put, U1,U2,U3,U4,U5,U6]
       refine tk_ (i := 4) (v := .pointer (some ⟨bx, 0, none⟩)) rfl (Or.inl ⟨by rfl, fun w' hw' => by clear hw'; go_simp⟩) hH ?_
       simp only [Act.put, U1,U2,U3,U4,U5,U6]
       refine tk_ (i := 5) (v := .int .i64 a) rfl (Or.inl ⟨by rfl, fun w' hw' => by have h := (hw'.row R3.out (by simp)).at_ 0 _ rfl; go_simp⟩) hH ?_
       simp only [Act.put, U1,U2,U3,U4,U5,U6]
       refine tk_ (i := 6) (v := .string ⟨(f old).toArray⟩) rfl (Or.inl ⟨by kernel_rfl, fun w' _ => by kernel_rfl⟩) hH ?_
       simp only [Act.put, U1,U2,U3,U4,U5,U6]
       refine wpAnyH_ready (rs := [7]) (by kernel_rfl) (by simp) ?_
       refine AllReadyH.cons rfl (fun K hK => ?_) AllReadyH.nil
       go_simp
       go_at_call 47
       refine (HWR.out _ H3.out.drew).mono ?_
       rintro e w4 ⟨rfl, h4, k4⟩
       go_wp2_with fail
       refine hK.out _ _ (⟨⟨_, h4⟩, hH.2.trans k4⟩) (fun hH => ?_)
       clear hK K
       try simp only [Act.put, U1,U2,U3,U4,U5,U6]
       refine tk_ (i := 8) (v := .int .i64 0) rfl (Or.inl ⟨by kernel_rfl, fun w' _ => by kernel_rfl⟩) hH ?_
       simp only [Act.put, U1,U2,U3,U4,U5,U6]
       refine wpAnyH_done (by kernel_rfl) ?_ _
       try simp only [Act.put, U1,U2,U3,U4,U5,U6]
       have H4 := hid h4
       have E4 : Hid (Ek w1 w4 (bx :: G)) := hid (E3.out.trans hH.2)
       have cj4 := H4.out.c0
       clear h4 k4 hH
       go_wp2_with (first
        | (go_at_call 49; refine (HFL.out _ H4.out).mono ?_; rintro e w5 ⟨rfl, h5, k5⟩; have H5 := hid h5; have E5 : Hid (Ek w1 w5 (bx :: G)) := hid (E4.out.trans k5); clear h5 k5))
       go_ret
       rw [HS2.out]
       exact ⟨rfl, H5.out.tail, HEK.out.trans (E1.out.trans E5.out.tail)⟩
      ·
       have hz2 := HZ2.out
       have HFN2 : Hid (∀ W, Ek wr W G → Fd W → ∀ l : List UInt8, l.length ≤ 384 → Calls Tryd.prog F #[.string ⟨l.toArray⟩, .pointer (some ⟨gc, 0, none⟩)] W (SN13 W (f l) 0)) := hid fun W h1 h2 l h3 => HFN.out W h1 h2 l h3
       go_wp2_with (first
        | (refine wpl_load_midw rfl 87 (.tmp 16) rfl g (o + k * 2) rfl [.int .i64 a, .func (.func F) #[] #[.pointer (some ⟨gc, 0, none⟩)]] _ HRG.out Tryd.underlying87 rfl HZ.out ?_)
        | (refine wpl_store_st rfl (.tmp 6) (.tmp 17) rfl (n := 2) HZ.out bx #[.int .i64 0, .nilFunc] #[.int .i64 a, .func (.func F) #[] #[.pointer (some ⟨gc, 0, none⟩)]] rfl rfl (by rw [← HBX.out]; exact Row.new _ _ _) ?_ (hid rfl) (hid rfl) HONE; intro w1 HR1 HB1; have hb1 : Below wr.heap.size wr w1 := (((Below.refl wr.heap.size wr).alloc (Nat.le_refl _) _).trans (below_grown HB1 (by rw [HBX.out]; exact Nat.le_refl _) (by simp))); have hlt1 : bx < w1.heap.size := HR1.lt; have H1 := hid (HJ.out.add hb1 (g := bx) (by rw [HBX.out]; exact Nat.le_refl _) hlt1); have E1 := hid (HJ.out.new hb1).2; have cj := H1.out.c0; have c10 : w1.cell? ⟨bx, 0, none⟩ = some (.int .i64 a) := HR1.at_ 0 _ rfl; have HR := hid HR1; clear hb1 HB1 HR1))
       try simp only [Act.put, U1,U2,U3,U4,U5,U6]
       refine wp_region_held_drew (S := SJ w0 w1 jp p gs J (bx :: G)) (by kernel_rfl) (SJ.start H1.out) (fun hH => ?_)
       refine tk_ (i := 0) (v := .pointer (some ⟨jp, 0, none⟩)) rfl (Or.inl ⟨by kernel_rfl, fun w' _ => by kernel_rfl⟩) hH ?_
       simp only [Act.put, U1, U3, U4, U5, U6]
       refine tk_ (i := 1) (v := .pointer (some ⟨jp, 0, none⟩)) rfl (Or.inl ⟨by rfl, fun w' hw' => by clear hw'; go_simp⟩) hH ?_
       simp only [Act.put, U1,U2,U3,U4,U5,U6]
       refine tk_ (i := 2) (v := .pointer (some ⟨jp, 0, none⟩)) rfl (Or.inl ⟨by rfl, fun w' hw' => by clear hw'; go_simp⟩) hH ?_
       simp only [Act.put, U1,U2,U3,U4,U5,U6]
       refine tk_ (i := 3) (v := .pointer (some ⟨p, 0, none⟩)) rfl (Or.inl ⟨by rfl, fun w' hw' => by have h := hw'.c0; go_simp⟩) hH ?_
       simp only [Act.put, U1,U2,U3,U4,U5,U6]
       refine tk_ (i := 4) (v := .pointer (some ⟨bx, 0, none⟩)) rfl (Or.inl ⟨by rfl, fun w' hw' => by clear hw'; go_simp⟩) hH ?_
       simp only [Act.put, U1,U2,U3,U4,U5,U6]
       refine tk_ (i := 5) (v := .int .i64 a) rfl (Or.inl ⟨by rfl, fun w' hw' => by have h := (hw'.row HR.out (by simp)).at_ 0 _ rfl; go_simp⟩) hH ?_
       simp only [Act.put, U1,U2,U3,U4,U5,U6]
       refine wpAnyH_ready (rs := [6]) (by kernel_rfl) (by simp) ?_
       refine AllReadyH.cons rfl (fun K hK => ?_) AllReadyH.nil
       go_simp
       go_at_call 26
       refine (HRD.out _ H1.out.drew).mono ?_
       rintro e w2 ⟨rfl, h2, k2⟩
       go_wp2_with fail
       refine hK.out _ _ (⟨⟨_, h2⟩, hH.2.trans k2⟩) (fun hH => ?_)
       clear hK K
       try simp only [Act.put, U1,U2,U3,U4,U5,U6]
       refine tk_ (i := 7) (v := .tuple #[.string ⟨old.toArray⟩, .int .i64 0]) rfl (Or.inl ⟨by kernel_rfl, fun w' _ => by kernel_rfl⟩) hH ?_
       simp only [Act.put, U1,U2,U3,U4,U5,U6]
       refine tk_ (i := 8) (v := .string ⟨old.toArray⟩) rfl (Or.inl ⟨by kernel_rfl, fun w' _ => by kernel_rfl⟩) hH ?_
       simp only [Act.put, U1,U2,U3,U4,U5,U6]
       refine tk_ (i := 9) (v := .int .i64 0) rfl (Or.inl ⟨by kernel_rfl, fun w' _ => by kernel_rfl⟩) hH ?_
       simp only [Act.put, U1,U2,U3,U4,U5,U6]
       refine tk_ (i := 10) (v := .string ⟨old.toArray⟩) rfl (Or.inl ⟨by kernel_rfl, fun w' _ => by kernel_rfl⟩) hH ?_
       simp only [Act.put, U1,U2,U3,U4,U5,U6]
       refine tk_ (i := 11) (v := .int .i64 0) rfl (Or.inl ⟨by kernel_rfl, fun w' _ => by kernel_rfl⟩) hH ?_
       simp only [Act.put, U1,U2,U3,U4,U5,U6]
       refine wpAnyH_done (by kernel_rfl) ?_ _
       try simp only [Act.put, U1,U2,U3,U4,U5,U6]
       have H2 := hid h2
       have E2 : Hid (Ek w1 w2 (bx :: G)) := hid hH.2
       have R2 := hid (E2.out.row HR.out (by simp))
       have c21 : w2.cell? ⟨bx, 1, none⟩ = some (.func (.func F) #[] #[.pointer (some ⟨gc, 0, none⟩)]) := R2.out.at_ 1 _ rfl
       have heg := HEG.out
       clear h2 k2 hH
       go_wp2_with (first
        | (refine (HFN2.out w2 (E1.out.trans E2.out.tail) H2.out.fd old HRL.out).mono ?_; rintro e w3 ⟨rfl, hb3⟩; have H3 := hid (H2.out.new hb3).1; have E3 : Hid (Ek w1 w3 (bx :: G)) := hid (E2.out.trans (H2.out.new hb3).2); have R3 := hid (E3.out.row HR.out (by simp)); clear hb3))
       clear heg
       try simp only [Act.put, U1,U2,U3,U4,U5,U6]
       refine wp_region_held_drew (S := SJ w0 w3 jp p gs J (bx :: G)) (by kernel_rfl) (SJ.start H3.out) (fun hH => ?_)
       refine tk_ (i := 0) (v := .pointer (some ⟨jp, 0, none⟩)) rfl (Or.inl ⟨by kernel_rfl, fun w' _ => by kernel_rfl⟩) hH ?_
       simp only [Act.put, U1, U3, U4, U5, U6]
       refine tk_ (i := 1) (v := .pointer (some ⟨jp, 0, none⟩)) rfl (Or.inl ⟨by rfl, fun w' hw' => by clear hw'; go_simp⟩) hH ?_
       simp only [Act.put, U1,U2,U3,U4,U5,U6]
       refine tk_ (i := 2) (v := .pointer (some ⟨jp, 0, none⟩)) rfl (Or.inl ⟨by rfl, fun w' hw' => by clear hw'; go_simp⟩) hH ?_
       simp only [Act.put, U1,U2,U3,U4,U5,U6]
       refine tk_ (i := 3) (v := .pointer (some ⟨p, 0, none⟩)) rfl (Or.inl ⟨by rfl, fun w' hw' => by have h := hw'.c0; go_simp⟩) hH ?_
       simp only [Act.put, U1,U2,U3,U4,U5,U6]
       refine tk_ (i := 4) (v := .pointer (some ⟨bx, 0, none⟩)) rfl (Or.inl ⟨by rfl, fun w' hw' => by clear hw'; go_simp⟩) hH ?_
       simp only [Act.put, U1,U2,U3,U4,U5,U6]
       refine tk_ (i := 5) (v := .int .i64 a) rfl (Or.inl ⟨by rfl, fun w' hw' => by have h := (hw'.row R3.out (by simp)).at_ 0 _ rfl; go_simp⟩) hH ?_
       simp only [Act.put, U1,U2,U3,U4,U5,U6]
       refine tk_ (i := 6) (v := .string ⟨(f old).toArray⟩) rfl (Or.inl ⟨by kernel_rfl, fun w' _ => by kernel_rfl⟩) hH ?_
       simp only [Act.put, U1,U2,U3,U4,U5,U6]
       refine wpAnyH_ready (rs := [7]) (by kernel_rfl) (by simp) ?_
       refine AllReadyH.cons rfl (fun K hK => ?_) AllReadyH.nil
       go_simp
       go_at_call 47
       refine (HWR.out _ H3.out.drew).mono ?_
       rintro e w4 ⟨rfl, h4, k4⟩
       go_wp2_with fail
       refine hK.out _ _ (⟨⟨_, h4⟩, hH.2.trans k4⟩) (fun hH => ?_)
       clear hK K
       try simp only [Act.put, U1,U2,U3,U4,U5,U6]
       refine tk_ (i := 8) (v := .int .i64 0) rfl (Or.inl ⟨by kernel_rfl, fun w' _ => by kernel_rfl⟩) hH ?_
       simp only [Act.put, U1,U2,U3,U4,U5,U6]
       refine wpAnyH_done (by kernel_rfl) ?_ _
       try simp only [Act.put, U1,U2,U3,U4,U5,U6]
       have H4 := hid h4
       have E4 : Hid (Ek w1 w4 (bx :: G)) := hid (E3.out.trans hH.2)
       have cj4 := H4.out.c0
       clear h4 k4 hH
       go_wp2_with (first
        | (go_at_call 49; refine (HFL.out _ H4.out).mono ?_; rintro e w5 ⟨rfl, h5, k5⟩; have H5 := hid h5; have E5 : Hid (Ek w1 w5 (bx :: G)) := hid (E4.out.trans k5); clear h5 k5))
       go_ret
       rw [HS2.out]
       exact ⟨rfl, H5.out.tail, HEK.out.trans (E1.out.trans E5.out.tail)⟩
    ·
     rw [if_pos hy] at HST2 HNX2
     have HS2 := hid (HST2.out hy)
     have HY2 := hid (show (y != 0) = true by simpa using hy)
     clear HST2 HNX2 hy
     rcases hC with rfl | ⟨gc, rfl⟩
     ·
      have hy2 := HY2.out
      have HFN2 : Hid (∀ W, Ek wr W G → Fd W → ∀ l : List UInt8, l.length ≤ 384 → Calls Tryd.prog F #[.string ⟨l.toArray⟩] W (SN13 W (f l) 0)) := hid fun W h1 h2 l h3 => HFN.out W h1 h2 l h3
      go_wp2_with (first
       | (refine wpl_load_midw rfl 87 (.tmp 16) rfl g (o + k * 2) rfl [.int .i64 a, .func (.func F) #[] #[]] _ HRG.out Tryd.underlying87 rfl HZ.out ?_)
       | (refine wpl_store_st rfl (.tmp 6) (.tmp 17) rfl (n := 2) HZ.out bx #[.int .i64 0, .nilFunc] #[.int .i64 a, .func (.func F) #[] #[]] rfl rfl (by rw [← HBX.out]; exact Row.new _ _ _) ?_ (hid rfl) (hid rfl) HONE; intro w1 HR1 HB1; have hb1 : Below wr.heap.size wr w1 := (((Below.refl wr.heap.size wr).alloc (Nat.le_refl _) _).trans (below_grown HB1 (by rw [HBX.out]; exact Nat.le_refl _) (by simp))); have hlt1 : bx < w1.heap.size := HR1.lt; have H1 := hid (HJ.out.add hb1 (g := bx) (by rw [HBX.out]; exact Nat.le_refl _) hlt1); have E1 := hid (HJ.out.new hb1).2; have cj := H1.out.c0; have c10 : w1.cell? ⟨bx, 0, none⟩ = some (.int .i64 a) := HR1.at_ 0 _ rfl; have HR := hid HR1; clear hb1 HB1 HR1))
      try simp only [Act.put, U1,U2,U3,U4,U5,U6]
      refine wp_region_held_drew (S := SJ w0 w1 jp p gs J (bx :: G)) (by kernel_rfl) (SJ.start H1.out) (fun hH => ?_)
      refine tk_ (i := 0) (v := .pointer (some ⟨jp, 0, none⟩)) rfl (Or.inl ⟨by kernel_rfl, fun w' _ => by kernel_rfl⟩) hH ?_
      simp only [Act.put, U1, U3, U4, U5, U6]
      refine tk_ (i := 1) (v := .pointer (some ⟨jp, 0, none⟩)) rfl (Or.inl ⟨by rfl, fun w' hw' => by clear hw'; go_simp⟩) hH ?_
      simp only [Act.put, U1,U2,U3,U4,U5,U6]
      refine tk_ (i := 2) (v := .pointer (some ⟨jp, 0, none⟩)) rfl (Or.inl ⟨by rfl, fun w' hw' => by clear hw'; go_simp⟩) hH ?_
      simp only [Act.put, U1,U2,U3,U4,U5,U6]
      refine tk_ (i := 3) (v := .pointer (some ⟨p, 0, none⟩)) rfl (Or.inl ⟨by rfl, fun w' hw' => by have h := hw'.c0; go_simp⟩) hH ?_
      simp only [Act.put, U1,U2,U3,U4,U5,U6]
      refine tk_ (i := 4) (v := .pointer (some ⟨bx, 0, none⟩)) rfl (Or.inl ⟨by rfl, fun w' hw' => by clear hw'; go_simp⟩) hH ?_
      simp only [Act.put, U1,U2,U3,U4,U5,U6]
      refine tk_ (i := 5) (v := .int .i64 a) rfl (Or.inl ⟨by rfl, fun w' hw' => by have h := (hw'.row HR.out (by simp)).at_ 0 _ rfl; go_simp⟩) hH ?_
      simp only [Act.put, U1,U2,U3,U4,U5,U6]
      refine wpAnyH_ready (rs := [6]) (by kernel_rfl) (by simp) ?_
      refine AllReadyH.cons rfl (fun K hK => ?_) AllReadyH.nil
      go_simp
      go_at_call 26
      refine (HRD.out _ H1.out.drew).mono ?_
      rintro e w2 ⟨rfl, h2, k2⟩
      go_wp2_with fail
      refine hK.out _ _ (⟨⟨_, h2⟩, hH.2.trans k2⟩) (fun hH => ?_)
      clear hK K
      try simp only [Act.put, U1,U2,U3,U4,U5,U6]
      refine tk_ (i := 7) (v := .tuple #[.string ⟨old.toArray⟩, .int .i64 0]) rfl (Or.inl ⟨by kernel_rfl, fun w' _ => by kernel_rfl⟩) hH ?_
      simp only [Act.put, U1,U2,U3,U4,U5,U6]
      refine tk_ (i := 8) (v := .string ⟨old.toArray⟩) rfl (Or.inl ⟨by kernel_rfl, fun w' _ => by kernel_rfl⟩) hH ?_
      simp only [Act.put, U1,U2,U3,U4,U5,U6]
      refine tk_ (i := 9) (v := .int .i64 0) rfl (Or.inl ⟨by kernel_rfl, fun w' _ => by kernel_rfl⟩) hH ?_
      simp only [Act.put, U1,U2,U3,U4,U5,U6]
      refine tk_ (i := 10) (v := .string ⟨old.toArray⟩) rfl (Or.inl ⟨by kernel_rfl, fun w' _ => by kernel_rfl⟩) hH ?_
      simp only [Act.put, U1,U2,U3,U4,U5,U6]
      refine tk_ (i := 11) (v := .int .i64 0) rfl (Or.inl ⟨by kernel_rfl, fun w' _ => by kernel_rfl⟩) hH ?_
      simp only [Act.put, U1,U2,U3,U4,U5,U6]
      refine wpAnyH_done (by kernel_rfl) ?_ _
      try simp only [Act.put, U1,U2,U3,U4,U5,U6]
      have H2 := hid h2
      have E2 : Hid (Ek w1 w2 (bx :: G)) := hid hH.2
      have R2 := hid (E2.out.row HR.out (by simp))
      have c21 : w2.cell? ⟨bx, 1, none⟩ = some (.func (.func F) #[] #[]) := R2.out.at_ 1 _ rfl
      have heg := HEG.out
      clear h2 k2 hH
      go_wp2_with (first
       | (refine (HFN2.out w2 (E1.out.trans E2.out.tail) H2.out.fd old HRL.out).mono ?_; rintro e w3 ⟨rfl, hb3⟩; have H3 := hid (H2.out.new hb3).1; have E3 : Hid (Ek w1 w3 (bx :: G)) := hid (E2.out.trans (H2.out.new hb3).2); have R3 := hid (E3.out.row HR.out (by simp)); clear hb3))
      clear heg
      try simp only [Act.put, U1,U2,U3,U4,U5,U6]
      refine wp_region_held_drew (S := SJ w0 w3 jp p gs J (bx :: G)) (by kernel_rfl) (SJ.start H3.out) (fun hH => ?_)
      refine tk_ (i := 0) (v := .pointer (some ⟨jp, 0, none⟩)) rfl (Or.inl ⟨by kernel_rfl, fun w' _ => by kernel_rfl⟩) hH ?_
      simp only [Act.put, U1, U3, U4, U5, U6]
      refine tk_ (i := 1) (v := .pointer (some ⟨jp, 0, none⟩)) rfl (Or.inl ⟨by rfl, fun w' hw' => by clear hw'; go_simp⟩) hH ?_
      simp only [Act.put, U1,U2,U3,U4,U5,U6]
      refine tk_ (i := 2) (v := .pointer (some ⟨jp, 0, none⟩)) rfl (Or.inl ⟨by rfl, fun w' hw' => by clear hw'; go_simp⟩) hH ?_
      simp only [Act.put, U1,U2,U3,U4,U5,U6]
      refine tk_ (i := 3) (v := .pointer (some ⟨p, 0, none⟩)) rfl (Or.inl ⟨by rfl, fun w' hw' => by have h := hw'.c0; go_simp⟩) hH ?_
      simp only [Act.put, U1,U2,U3,U4,U5,U6]
      refine tk_ (i := 4) (v := .pointer (some ⟨bx, 0, none⟩)) rfl (Or.inl ⟨by rfl, fun w' hw' => by clear hw'; go_simp⟩) hH ?_
      simp only [Act.put, U1,U2,U3,U4,U5,U6]
      refine tk_ (i := 5) (v := .int .i64 a) rfl (Or.inl ⟨by rfl, fun w' hw' => by have h := (hw'.row R3.out (by simp)).at_ 0 _ rfl; go_simp⟩) hH ?_
      simp only [Act.put, U1,U2,U3,U4,U5,U6]
      refine tk_ (i := 6) (v := .string ⟨(f old).toArray⟩) rfl (Or.inl ⟨by kernel_rfl, fun w' _ => by kernel_rfl⟩) hH ?_
      simp only [Act.put, U1,U2,U3,U4,U5,U6]
      refine wpAnyH_ready (rs := [7]) (by kernel_rfl) (by simp) ?_
      refine AllReadyH.cons rfl (fun K hK => ?_) AllReadyH.nil
      go_simp
      go_at_call 47
      refine (HWR.out _ H3.out.drew).mono ?_
      rintro e w4 ⟨rfl, h4, k4⟩
      go_wp2_with fail
      refine hK.out _ _ (⟨⟨_, h4⟩, hH.2.trans k4⟩) (fun hH => ?_)
      clear hK K
      try simp only [Act.put, U1,U2,U3,U4,U5,U6]
      refine tk_ (i := 8) (v := .int .i64 y) rfl (Or.inl ⟨by kernel_rfl, fun w' _ => by kernel_rfl⟩) hH ?_
      simp only [Act.put, U1,U2,U3,U4,U5,U6]
      refine wpAnyH_done (by kernel_rfl) ?_ _
      try simp only [Act.put, U1,U2,U3,U4,U5,U6]
      have H4 := hid h4
      have E4 : Hid (Ek w1 w4 (bx :: G)) := hid (E3.out.trans hH.2)
      have cj4 := H4.out.c0
      clear h4 k4 hH
      go_wp2_with fail
      go_ret
      rw [HS2.out]
      exact ⟨rfl, H4.out.tail, HEK.out.trans (E1.out.trans E4.out.tail)⟩
     ·
      have hy2 := HY2.out
      have HFN2 : Hid (∀ W, Ek wr W G → Fd W → ∀ l : List UInt8, l.length ≤ 384 → Calls Tryd.prog F #[.string ⟨l.toArray⟩, .pointer (some ⟨gc, 0, none⟩)] W (SN13 W (f l) 0)) := hid fun W h1 h2 l h3 => HFN.out W h1 h2 l h3
      go_wp2_with (first
       | (refine wpl_load_midw rfl 87 (.tmp 16) rfl g (o + k * 2) rfl [.int .i64 a, .func (.func F) #[] #[.pointer (some ⟨gc, 0, none⟩)]] _ HRG.out Tryd.underlying87 rfl HZ.out ?_)
       | (refine wpl_store_st rfl (.tmp 6) (.tmp 17) rfl (n := 2) HZ.out bx #[.int .i64 0, .nilFunc] #[.int .i64 a, .func (.func F) #[] #[.pointer (some ⟨gc, 0, none⟩)]] rfl rfl (by rw [← HBX.out]; exact Row.new _ _ _) ?_ (hid rfl) (hid rfl) HONE; intro w1 HR1 HB1; have hb1 : Below wr.heap.size wr w1 := (((Below.refl wr.heap.size wr).alloc (Nat.le_refl _) _).trans (below_grown HB1 (by rw [HBX.out]; exact Nat.le_refl _) (by simp))); have hlt1 : bx < w1.heap.size := HR1.lt; have H1 := hid (HJ.out.add hb1 (g := bx) (by rw [HBX.out]; exact Nat.le_refl _) hlt1); have E1 := hid (HJ.out.new hb1).2; have cj := H1.out.c0; have c10 : w1.cell? ⟨bx, 0, none⟩ = some (.int .i64 a) := HR1.at_ 0 _ rfl; have HR := hid HR1; clear hb1 HB1 HR1))
      try simp only [Act.put, U1,U2,U3,U4,U5,U6]
      refine wp_region_held_drew (S := SJ w0 w1 jp p gs J (bx :: G)) (by kernel_rfl) (SJ.start H1.out) (fun hH => ?_)
      refine tk_ (i := 0) (v := .pointer (some ⟨jp, 0, none⟩)) rfl (Or.inl ⟨by kernel_rfl, fun w' _ => by kernel_rfl⟩) hH ?_
      simp only [Act.put, U1, U3, U4, U5, U6]
      refine tk_ (i := 1) (v := .pointer (some ⟨jp, 0, none⟩)) rfl (Or.inl ⟨by rfl, fun w' hw' => by clear hw'; go_simp⟩) hH ?_
      simp only [Act.put, U1,U2,U3,U4,U5,U6]
      refine tk_ (i := 2) (v := .pointer (some ⟨jp, 0, none⟩)) rfl (Or.inl ⟨by rfl, fun w' hw' => by clear hw'; go_simp⟩) hH ?_
      simp only [Act.put, U1,U2,U3,U4,U5,U6]
      refine tk_ (i := 3) (v := .pointer (some ⟨p, 0, none⟩)) rfl (Or.inl ⟨by rfl, fun w' hw' => by have h := hw'.c0; go_simp⟩) hH ?_
      simp only [Act.put, U1,U2,U3,U4,U5,U6]
      refine tk_ (i := 4) (v := .pointer (some ⟨bx, 0, none⟩)) rfl (Or.inl ⟨by rfl, fun w' hw' => by clear hw'; go_simp⟩) hH ?_
      simp only [Act.put, U1,U2,U3,U4,U5,U6]
      refine tk_ (i := 5) (v := .int .i64 a) rfl (Or.inl ⟨by rfl, fun w' hw' => by have h := (hw'.row HR.out (by simp)).at_ 0 _ rfl; go_simp⟩) hH ?_
      simp only [Act.put, U1,U2,U3,U4,U5,U6]
      refine wpAnyH_ready (rs := [6]) (by kernel_rfl) (by simp) ?_
      refine AllReadyH.cons rfl (fun K hK => ?_) AllReadyH.nil
      go_simp
      go_at_call 26
      refine (HRD.out _ H1.out.drew).mono ?_
      rintro e w2 ⟨rfl, h2, k2⟩
      go_wp2_with fail
      refine hK.out _ _ (⟨⟨_, h2⟩, hH.2.trans k2⟩) (fun hH => ?_)
      clear hK K
      try simp only [Act.put, U1,U2,U3,U4,U5,U6]
      refine tk_ (i := 7) (v := .tuple #[.string ⟨old.toArray⟩, .int .i64 0]) rfl (Or.inl ⟨by kernel_rfl, fun w' _ => by kernel_rfl⟩) hH ?_
      simp only [Act.put, U1,U2,U3,U4,U5,U6]
      refine tk_ (i := 8) (v := .string ⟨old.toArray⟩) rfl (Or.inl ⟨by kernel_rfl, fun w' _ => by kernel_rfl⟩) hH ?_
      simp only [Act.put, U1,U2,U3,U4,U5,U6]
      refine tk_ (i := 9) (v := .int .i64 0) rfl (Or.inl ⟨by kernel_rfl, fun w' _ => by kernel_rfl⟩) hH ?_
      simp only [Act.put, U1,U2,U3,U4,U5,U6]
      refine tk_ (i := 10) (v := .string ⟨old.toArray⟩) rfl (Or.inl ⟨by kernel_rfl, fun w' _ => by kernel_rfl⟩) hH ?_
      simp only [Act.put, U1,U2,U3,U4,U5,U6]
      refine tk_ (i := 11) (v := .int .i64 0) rfl (Or.inl ⟨by kernel_rfl, fun w' _ => by kernel_rfl⟩) hH ?_
      simp only [Act.put, U1,U2,U3,U4,U5,U6]
      refine wpAnyH_done (by kernel_rfl) ?_ _
      try simp only [Act.put, U1,U2,U3,U4,U5,U6]
      have H2 := hid h2
      have E2 : Hid (Ek w1 w2 (bx :: G)) := hid hH.2
      have R2 := hid (E2.out.row HR.out (by simp))
      have c21 : w2.cell? ⟨bx, 1, none⟩ = some (.func (.func F) #[] #[.pointer (some ⟨gc, 0, none⟩)]) := R2.out.at_ 1 _ rfl
      have heg := HEG.out
      clear h2 k2 hH
      go_wp2_with (first
       | (refine (HFN2.out w2 (E1.out.trans E2.out.tail) H2.out.fd old HRL.out).mono ?_; rintro e w3 ⟨rfl, hb3⟩; have H3 := hid (H2.out.new hb3).1; have E3 : Hid (Ek w1 w3 (bx :: G)) := hid (E2.out.trans (H2.out.new hb3).2); have R3 := hid (E3.out.row HR.out (by simp)); clear hb3))
      clear heg
      try simp only [Act.put, U1,U2,U3,U4,U5,U6]
      refine wp_region_held_drew (S := SJ w0 w3 jp p gs J (bx :: G)) (by kernel_rfl) (SJ.start H3.out) (fun hH => ?_)
      refine tk_ (i := 0) (v := .pointer (some ⟨jp, 0, none⟩)) rfl (Or.inl ⟨by kernel_rfl, fun w' _ => by kernel_rfl⟩) hH ?_
      simp only [Act.put, U1, U3, U4, U5, U6]
      refine tk_ (i := 1) (v := .pointer (some ⟨jp, 0, none⟩)) rfl (Or.inl ⟨by rfl, fun w' hw' => by clear hw'; go_simp⟩) hH ?_
      simp only [Act.put, U1,U2,U3,U4,U5,U6]
      refine tk_ (i := 2) (v := .pointer (some ⟨jp, 0, none⟩)) rfl (Or.inl ⟨by rfl, fun w' hw' => by clear hw'; go_simp⟩) hH ?_
      simp only [Act.put, U1,U2,U3,U4,U5,U6]
      refine tk_ (i := 3) (v := .pointer (some ⟨p, 0, none⟩)) rfl (Or.inl ⟨by rfl, fun w' hw' => by have h := hw'.c0; go_simp⟩) hH ?_
      simp only [Act.put, U1,U2,U3,U4,U5,U6]
      refine tk_ (i := 4) (v := .pointer (some ⟨bx, 0, none⟩)) rfl (Or.inl ⟨by rfl, fun w' hw' => by clear hw'; go_simp⟩) hH ?_
      simp only [Act.put, U1,U2,U3,U4,U5,U6]
      refine tk_ (i := 5) (v := .int .i64 a) rfl (Or.inl ⟨by rfl, fun w' hw' => by have h := (hw'.row R3.out (by simp)).at_ 0 _ rfl; go_simp⟩) hH ?_
      simp only [Act.put, U1,U2,U3,U4,U5,U6]
      refine tk_ (i := 6) (v := .string ⟨(f old).toArray⟩) rfl (Or.inl ⟨by kernel_rfl, fun w' _ => by kernel_rfl⟩) hH ?_
      simp only [Act.put, U1,U2,U3,U4,U5,U6]
      refine wpAnyH_ready (rs := [7]) (by kernel_rfl) (by simp) ?_
      refine AllReadyH.cons rfl (fun K hK => ?_) AllReadyH.nil
      go_simp
      go_at_call 47
      refine (HWR.out _ H3.out.drew).mono ?_
      rintro e w4 ⟨rfl, h4, k4⟩
      go_wp2_with fail
      refine hK.out _ _ (⟨⟨_, h4⟩, hH.2.trans k4⟩) (fun hH => ?_)
      clear hK K
      try simp only [Act.put, U1,U2,U3,U4,U5,U6]
      refine tk_ (i := 8) (v := .int .i64 y) rfl (Or.inl ⟨by kernel_rfl, fun w' _ => by kernel_rfl⟩) hH ?_
      simp only [Act.put, U1,U2,U3,U4,U5,U6]
      refine wpAnyH_done (by kernel_rfl) ?_ _
      try simp only [Act.put, U1,U2,U3,U4,U5,U6]
      have H4 := hid h4
      have E4 : Hid (Ek w1 w4 (bx :: G)) := hid (E3.out.trans hH.2)
      have cj4 := H4.out.c0
      clear h4 k4 hH
      go_wp2_with fail
      go_ret
      rw [HS2.out]
      exact ⟨rfl, H4.out.tail, HEK.out.trans (E1.out.trans E4.out.tail)⟩
   ·
    rw [if_pos hx] at HST2 HNX2
    have HS2 := hid (HST2.out hx)
    have HX2 := hid (show (x != 0) = true by simpa using hx)
    clear HST2 HNX2 hx HFN
    have hx2 := HX2.out
    go_wp2_with (first
     | (refine wpl_load_midw rfl 87 (.tmp 16) rfl g (o + k * 2) rfl [.int .i64 a, .func (.func F) #[] C] _ HRG.out Tryd.underlying87 rfl HZ.out ?_)
     | (refine wpl_store_st rfl (.tmp 6) (.tmp 17) rfl (n := 2) HZ.out bx #[.int .i64 0, .nilFunc] #[.int .i64 a, .func (.func F) #[] C] rfl rfl (by rw [← HBX.out]; exact Row.new _ _ _) ?_ (hid rfl) (hid rfl) HONE; intro w1 HR1 HB1; have hb1 : Below wr.heap.size wr w1 := (((Below.refl wr.heap.size wr).alloc (Nat.le_refl _) _).trans (below_grown HB1 (by rw [HBX.out]; exact Nat.le_refl _) (by simp))); have hlt1 : bx < w1.heap.size := HR1.lt; have H1 := hid (HJ.out.add hb1 (g := bx) (by rw [HBX.out]; exact Nat.le_refl _) hlt1); have E1 := hid (HJ.out.new hb1).2; have cj := H1.out.c0; have c10 : w1.cell? ⟨bx, 0, none⟩ = some (.int .i64 a) := HR1.at_ 0 _ rfl; have HR := hid HR1; clear hb1 HB1 HR1))
    try simp only [Act.put, U1,U2,U3,U4,U5,U6]
    refine wp_region_held_drew (S := SJ w0 w1 jp p gs J (bx :: G)) (by kernel_rfl) (SJ.start H1.out) (fun hH => ?_)
    refine tk_ (i := 0) (v := .pointer (some ⟨jp, 0, none⟩)) rfl (Or.inl ⟨by kernel_rfl, fun w' _ => by kernel_rfl⟩) hH ?_
    simp only [Act.put, U1, U3, U4, U5, U6]
    refine tk_ (i := 1) (v := .pointer (some ⟨jp, 0, none⟩)) rfl (Or.inl ⟨by rfl, fun w' hw' => by clear hw'; go_simp⟩) hH ?_
    simp only [Act.put, U1,U2,U3,U4,U5,U6]
    refine tk_ (i := 2) (v := .pointer (some ⟨jp, 0, none⟩)) rfl (Or.inl ⟨by rfl, fun w' hw' => by clear hw'; go_simp⟩) hH ?_
    simp only [Act.put, U1,U2,U3,U4,U5,U6]
    refine tk_ (i := 3) (v := .pointer (some ⟨p, 0, none⟩)) rfl (Or.inl ⟨by rfl, fun w' hw' => by have h := hw'.c0; go_simp⟩) hH ?_
    simp only [Act.put, U1,U2,U3,U4,U5,U6]
    refine tk_ (i := 4) (v := .pointer (some ⟨bx, 0, none⟩)) rfl (Or.inl ⟨by rfl, fun w' hw' => by clear hw'; go_simp⟩) hH ?_
    simp only [Act.put, U1,U2,U3,U4,U5,U6]
    refine tk_ (i := 5) (v := .int .i64 a) rfl (Or.inl ⟨by rfl, fun w' hw' => by have h := (hw'.row HR.out (by simp)).at_ 0 _ rfl; go_simp⟩) hH ?_
    simp only [Act.put, U1,U2,U3,U4,U5,U6]
    refine wpAnyH_ready (rs := [6]) (by kernel_rfl) (by simp) ?_
    refine AllReadyH.cons rfl (fun K hK => ?_) AllReadyH.nil
    go_simp
    go_at_call 26
    refine (HRD.out _ H1.out.drew).mono ?_
    rintro e w2 ⟨rfl, h2, k2⟩
    go_wp2_with fail
    refine hK.out _ _ (⟨⟨_, h2⟩, hH.2.trans k2⟩) (fun hH => ?_)
    clear hK K
    try simp only [Act.put, U1,U2,U3,U4,U5,U6]
    refine tk_ (i := 7) (v := .tuple #[.string ⟨old.toArray⟩, .int .i64 x]) rfl (Or.inl ⟨by kernel_rfl, fun w' _ => by kernel_rfl⟩) hH ?_
    simp only [Act.put, U1,U2,U3,U4,U5,U6]
    refine tk_ (i := 8) (v := .string ⟨old.toArray⟩) rfl (Or.inl ⟨by kernel_rfl, fun w' _ => by kernel_rfl⟩) hH ?_
    simp only [Act.put, U1,U2,U3,U4,U5,U6]
    refine tk_ (i := 9) (v := .int .i64 x) rfl (Or.inl ⟨by kernel_rfl, fun w' _ => by kernel_rfl⟩) hH ?_
    simp only [Act.put, U1,U2,U3,U4,U5,U6]
    refine tk_ (i := 10) (v := .string ⟨old.toArray⟩) rfl (Or.inl ⟨by kernel_rfl, fun w' _ => by kernel_rfl⟩) hH ?_
    simp only [Act.put, U1,U2,U3,U4,U5,U6]
    refine tk_ (i := 11) (v := .int .i64 x) rfl (Or.inl ⟨by kernel_rfl, fun w' _ => by kernel_rfl⟩) hH ?_
    simp only [Act.put, U1,U2,U3,U4,U5,U6]
    refine wpAnyH_done (by kernel_rfl) ?_ _
    try simp only [Act.put, U1,U2,U3,U4,U5,U6]
    have H2 := hid h2
    have E2 : Hid (Ek w1 w2 (bx :: G)) := hid hH.2
    have R2 := hid (E2.out.row HR.out (by simp))
    clear h2 k2 hH
    go_wp2_with fail
    go_ret
    rw [HS2.out]
    exact ⟨rfl, H2.out.tail, HEK.out.trans (E1.out.trans E2.out.tail)⟩
  ·
   obtain rfl : k = L.length := by omega
   rw [HEND.out] at hst hj
   clear HL
   go_wp2_with fail
   go_ret
   exact ⟨by rw [hst.out]; rfl, hj, hek⟩
end Go.Proofs.YtafbeepacncooaaDoor
