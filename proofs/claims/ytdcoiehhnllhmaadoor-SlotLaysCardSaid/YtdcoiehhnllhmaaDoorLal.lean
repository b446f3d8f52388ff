/-
  SlotLays: every way.
-/
import Derived.Test.YtdcoiehhnllhmaaDoorLa
namespace Go.Proofs.YtdcoiehhnllhmaaDoor
open Go.RowKit
set_option maxRecDepth 10000

theorem hdr_no {s : St} (h : ¬ SRt s) (old : List UInt8) : hdrS old s = ([], 4) := by
  unfold hdrS
  rw [if_neg h]
set_option maxHeartbeats 1000000 in
theorem lays_law12 (old : ByteArray) (e : En) (he : e.fits) (s : St) (hs : s.fits) (w : World) (hf : Fd w) :
    Calls Tryd.prog 3 #[.string old, e.val, s.val] w (Yes w) := by
  have HAW := hid (fun W (hW : Fd W) => awake12_any W hW)
  have HLb := hid (fun W => long12_any e.body W)
  have HLo := hid (fun W => long12_any old W)
  by_cases hb : 5000 < (e.body.size : Int)
  · rw [decide_eq_true hb] at HLb
    exact lays_N1 old e s w hf HAW HLb
  rw [decide_eq_false hb] at HLb
  by_cases ho : 5000 < (old.size : Int)
  · rw [decide_eq_true ho] at HLo
    exact lays_N2 old e s w hf HAW HLb HLo
  rw [decide_eq_false ho] at HLo
  have hold : old.size ≤ 1125899906842624 := by omega
  have HSt := hid (fun W (hW : Fd W) => sstub_any e he W hW)
  have HSr := hid (fun W => rstub_any e he W)
  have HV := hid (fun W => svoid_any old hold W)
  have HVr := hid (fun W => rvoid_any old hold W)
  have HP := hid (fun W (hW : Fd W) => sprep_any old e hold W hW)
  have HQ := hid (fun W => rprep_any old e he hold W)
  have HH := hid (fun W => shdr_any old s hs hold W)
  have HK := hid (fun W => rhdr_any old s hs hold W)
  generalize sb old = O at *
  have HEv := hid (fun W (hW : Fd W) => entryS_any ⟨(voidS O).toArray⟩ W hW)
  rw [sb_mk, void_ok, entry_void] at HEv
  rw [void_ok] at HV HVr
  by_cases hR : Rt e
  · rw [prep_ok he hR] at HP HQ
    have HEn := hid (fun W (hW : Fd W) => entryS_any ⟨(layS (nextS O) (packE e).1).toArray⟩ W hW)
    rw [sb_mk, entry_lay he hR] at HEn
    by_cases hS : SRt s
    · rw [hdr_ok hS] at HH HK
      have HSb := hid (fun W => stubT_any ⟨(layS (nextS O) s.bytes).toArray⟩ W)
      rw [sb_mk, stub_lay hs hS] at HSb
      exact lays_00 old _ _ _ e e s (stubS e) s true true true true w hf HAW HLb HLo HP HQ HH HK HSt HSr HV HVr HEn HSb HEv
    · rw [hdr_no hS] at HH HK
      have HSb := hid (fun W => stubT_any ⟨([] : List UInt8).toArray⟩ W)
      exact lays_04 old _ _ _ e e s (stubS e) _ true true _ _ w hf HAW HLb HLo HP HQ HH HK HSt HSr HV HVr HEn HSb HEv
  · rw [prep_no hR] at HP HQ
    have HEn := hid (fun W (hW : Fd W) => entryS_any ⟨([] : List UInt8).toArray⟩ W hW)
    by_cases hS : SRt s
    · rw [hdr_ok hS] at HH HK
      have HSb := hid (fun W => stubT_any ⟨(layS (nextS O) s.bytes).toArray⟩ W)
      rw [sb_mk, stub_lay hs hS] at HSb
      exact lays_40 old _ _ _ e _ s (stubS e) s _ _ true true w hf HAW HLb HLo HP HQ HH HK HSt HSr HV HVr HEn HSb HEv
    · rw [hdr_no hS] at HH HK
      have HSb := hid (fun W => stubT_any ⟨([] : List UInt8).toArray⟩ W)
      exact lays_44 old _ _ _ e _ s (stubS e) _ _ _ _ _ w hf HAW HLb HLo HP HQ HH HK HSt HSr HV HVr HEn HSb HEv
end Go.Proofs.YtdcoiehhnllhmaaDoor
