/-
  OWN WORK. The walk of OctetRefuses.
-/
import Derived.Test.YtppdidimhchlgaaRows
import Derived.Test.YtppdidimhchlgaaKnown
import Derived.Test.YtppdidimhchlgaaTot
namespace Go.Proofs.Ytppdidimhchlgaa
open Go.RowKit
set_option linter.unusedVariables false

set_option maxRecDepth 100000 in
set_option maxHeartbeats 8000000 in
theorem octetRefuses_walk (v : Value) (l : List UInt8) (width n : Int) (w : World) (hv : Bs w v l) (hl : l.length ≤ 140737488355328) :
    Calls Try.prog 6 #[v, .int .i64 width, .int .i64 n] w fun e w' => e = .returned (.bool true) ∧ Kept [] w w' := by
  go_enter Try.func6, Try.ntmps6
  go_wp2_with fail
  refine (newReader_any _ l _ hv hl).mono ?_
  rintro e w1 ⟨g, rfl, hg, hr1, k1⟩
  have hv1 := hv.kept k1
  go_wp2_with fail
  refine (newReader_any _ l _ hv1 hl).mono ?_
  rintro e w2 ⟨g', rfl, hg', ht2, k2⟩
  have hne : g ≠ g' := by have := hr1.lt; omega
  have hne' : g' ≠ g := fun h => hne h.symm
  have hr2 := hr1.kept k2 (by simp)
  have hgw : w.heap.size ≤ g := hg
  have hgw' : w.heap.size ≤ g' := by have := k1.size; omega
  have kk2 := k1.then k2
  have HNE : Hid (g ≠ g') := hne
  have HNE' : Hid (g' ≠ g) := hne'
  clear hv1 hr1 k1 k2 hg hg' hne hne'
  go_wp2_with fail
  refine (known_any _).mono ?_
  rintro e w3 ⟨rfl, k3⟩
  have hr3 := hr2.kept k3 (by simp)
  have ht3 := ht2.kept k3 (by simp)
  have kk3 := kk2.then k3
  clear hr2 ht2 kk2 k3
  go_wp2
  go_loopw [9] (fun i wr => ∃ k : Nat, ∃ R : List UInt8, k ≤ 40 ∧ i = .int .i64 k ∧ Rd 62 wr g R ∧ Rd 62 wr g' R ∧ R.length ≤ 140737488355328 ∧ Kept [] w wr) (fun i _ => 40 - (intOf i).toNat)
  case atStart => exact ⟨0, l, by decide, rfl, hr3, ht3, hl, kk3⟩
  case round =>
    clear hr3 ht3 kk3 hl
    obtain ⟨k, R, hk, rfl, hr, ht, hl, hkw⟩ := hrel
    by_cases hk40 : k < 40
    · by_cases hpos : 0 < R.length
      · have hpos' : (0 : Int) < (R.length : Int) := by omega
        go_wp2_with fail
        refine (left_any g R _ hr).mono ?_
        rintro e wz ⟨rfl, hwz⟩
        rw [← hwz] at hr ht hkw
        clear hwz
        by_cases h1 : okN width R
        · go_wp2_with fail
          refine (number_yes g R width _ hr h1).mono ?_
          rintro e wa ⟨rfl, hra, ka⟩
          have hta := ht.other hr ka HNE.out
          have hkwa := hkw.trans ka (by simp; exact hgw)
          clear ka hr ht hkw
          go_wp2_with fail
          refine (number_yes g' R width _ hta h1).mono ?_
          rintro e wb ⟨rfl, htb, kb⟩
          have hrb := hra.other hta kb HNE'.out
          have hkwb := hkwa.trans kb (by simp; exact hgw')
          have hlb : (R.drop width.toNat).length ≤ 140737488355328 := by rw [List.length_drop]; omega
          clear kb hra hta hkwa h1
          have hr := hrb; have ht := htb; have hkw := hkwb; clear hrb htb hkwb
          have hle := hlb
          generalize R.drop width.toNat = R1 at hr ht hle hlb
          clear hlb
          by_cases h2 : okI R1
          · have hb2 : (low (R1.take 8) : Int) ≤ 1152921504606846976 := by have := h2.2; omega
            have hb2' : ¬ (1152921504606846976 : Int) < (low (R1.take 8) : Int) := by omega
            have hb2'' : ¬ (low (R1.take 8) : Int) < 0 := by omega
            go_wp2_with fail
            refine (int_yes g R1 _ hr h2).mono ?_
            rintro e wa ⟨rfl, hra, ka⟩
            have hta := ht.other hr ka HNE.out
            have hkwa := hkw.trans ka (by simp; exact hgw)
            clear ka hr ht hkw
            go_wp2_with fail
            refine (int_yes g' R1 _ hta h2).mono ?_
            rintro e wb ⟨rfl, htb, kb⟩
            have hrb := hra.other hta kb HNE'.out
            have hkwb := hkwa.trans kb (by simp; exact hgw')
            have hlb : (R1.drop 8).length ≤ 140737488355328 := by rw [List.length_drop]; omega
            clear kb hra hta hkwa h2 hle
            have hr := hrb; have ht := htb; have hkw := hkwb; clear hrb htb hkwb
            have hle := hlb
            generalize R1.drop 8 = R2 at hr ht hle hlb
            clear hlb
            by_cases h3 : okR n R2
            · obtain ⟨m, rfl⟩ : ∃ m : Nat, n = (m : Int) := ⟨n.toNat, by have := h3.1; omega⟩
              go_wp2_with fail
              refine (row_yes g R2 m _ hr h3 hle).mono ?_
              rintro e wa ⟨pa, ca, rfl, ba, hra, ka⟩
              have hta := ht.other hr ka HNE.out
              have hkwa := hkw.trans ka (by simp; exact hgw)
              clear ka hr ht hkw
              go_wp2_with fail
              refine (row_yes g' R2 m _ hta h3 hle).mono ?_
              rintro e wb ⟨pb, cb, rfl, bb, htb, kb⟩
              have hrb := hra.other hta kb HNE'.out
              have hba := ba.keptBox kb (by intro y hy; simp at hy; subst hy; exact .inl hta.box)
              have hkwb := hkwa.trans kb (by simp; exact hgw')
              have hlb : (R2.drop m).length ≤ 140737488355328 := by rw [List.length_drop]; omega
              clear kb hra hta hkwa h3 hle ba
              have hr := hrb; have ht := htb; have hkw := hkwb; clear hrb htb hkwb
              have hle := hlb
              generalize R2.drop m = R3 at hr ht hle hlb
              clear hlb
              go_wp2_with fail
              refine (same_any _ _ _ _ _ hba bb).mono ?_
              rintro e wc ⟨rfl, hwc⟩
              rw [← hwc] at hr ht hkw
              clear hwc hba bb
              rw [show (R2.take m == R2.take m) = true from by simp]
              go_wp2_with fail
              refine (left_any g R3 _ hr).mono ?_
              rintro e wd ⟨rfl, hwd⟩
              rw [← hwd] at hr ht hkw
              clear hwd
              go_wp2_with fail
              refine (left_any g' R3 _ ht).mono ?_
              rintro e we ⟨rfl, hwe⟩
              rw [← hwe] at hr ht hkw
              clear hwe
              go_wp2_with fail
              refine (row1_tot g R3 _ hr hle).mono ?_
              rintro e wf ⟨ta, tb, rfl, hrf, kf⟩
              have htf := ht.other hr kf HNE.out
              have hkwf := hkw.trans kf (by simp; exact hgw)
              clear kf hr ht hkw
              go_wp2_with fail
              refine (row1_tot g' R3 _ htf hle).mono ?_
              rintro e wh ⟨tc, td, rfl, hth, kh⟩
              have hrh := hrf.other htf kh HNE'.out
              have hkwh := hkwf.trans kh (by simp; exact hgw')
              clear kh hrf htf hkwf
              go_wp2
              go_roundw
              case rel => exact ⟨k + 1, _, by omega, by go_num, hrh, hth, by rw [List.length_drop]; omega, hkwh⟩
              case measure => simp [intOf]; omega
            · go_wp2_with fail
              refine (row_no g R2 n _ hr h3).mono ?_
              rintro e wa ⟨v3, rfl, hv3, hv3', hwa⟩
              rw [← hwa] at hr ht hkw
              clear hwa h3
              go_wp2_with fail
              refine (left_any g R2 _ hr).mono ?_
              rintro e wd ⟨rfl, hwd⟩
              rw [← hwd] at hr ht hkw
              clear hwd
              go_wp2_with fail
              refine (left_any g' R2 _ ht).mono ?_
              rintro e we ⟨rfl, hwe⟩
              rw [← hwe] at hr ht hkw
              clear hwe
              go_wp2_with fail
              refine (row1_tot g R2 _ hr hle).mono ?_
              rintro e wf ⟨ta, tb, rfl, hrf, kf⟩
              have htf := ht.other hr kf HNE.out
              have hkwf := hkw.trans kf (by simp; exact hgw)
              clear kf hr ht hkw
              go_wp2_with fail
              refine (row1_tot g' R2 _ htf hle).mono ?_
              rintro e wh ⟨tc, td, rfl, hth, kh⟩
              have hrh := hrf.other htf kh HNE'.out
              have hkwh := hkwf.trans kh (by simp; exact hgw')
              clear kh hrf htf hkwf
              go_wp2
              go_roundw
              case rel => exact ⟨k + 1, _, by omega, by go_num, hrh, hth, by rw [List.length_drop]; omega, hkwh⟩
              case measure => simp [intOf]; omega
          · go_wp2_with fail
            refine (int_no g R1 _ hr h2).mono ?_
            rintro e wa ⟨v2, rfl, hv2, hv2', hwa⟩
            rw [← hwa] at hr ht hkw
            clear hwa h2
            by_cases h3 : okR n R1
            · obtain ⟨m, rfl⟩ : ∃ m : Nat, n = (m : Int) := ⟨n.toNat, by have := h3.1; omega⟩
              go_wp2_with fail
              refine (row_yes g R1 m _ hr h3 hle).mono ?_
              rintro e wa ⟨pa, ca, rfl, ba, hra, ka⟩
              have hta := ht.other hr ka HNE.out
              have hkwa := hkw.trans ka (by simp; exact hgw)
              clear ka hr ht hkw
              go_wp2_with fail
              refine (row_yes g' R1 m _ hta h3 hle).mono ?_
              rintro e wb ⟨pb, cb, rfl, bb, htb, kb⟩
              have hrb := hra.other hta kb HNE'.out
              have hba := ba.keptBox kb (by intro y hy; simp at hy; subst hy; exact .inl hta.box)
              have hkwb := hkwa.trans kb (by simp; exact hgw')
              have hlb : (R1.drop m).length ≤ 140737488355328 := by rw [List.length_drop]; omega
              clear kb hra hta hkwa h3 hle ba
              have hr := hrb; have ht := htb; have hkw := hkwb; clear hrb htb hkwb
              have hle := hlb
              generalize R1.drop m = R3 at hr ht hle hlb
              clear hlb
              go_wp2_with fail
              refine (same_any _ _ _ _ _ hba bb).mono ?_
              rintro e wc ⟨rfl, hwc⟩
              rw [← hwc] at hr ht hkw
              clear hwc hba bb
              rw [show (R1.take m == R1.take m) = true from by simp]
              go_wp2_with fail
              refine (left_any g R3 _ hr).mono ?_
              rintro e wd ⟨rfl, hwd⟩
              rw [← hwd] at hr ht hkw
              clear hwd
              go_wp2_with fail
              refine (left_any g' R3 _ ht).mono ?_
              rintro e we ⟨rfl, hwe⟩
              rw [← hwe] at hr ht hkw
              clear hwe
              go_wp2_with fail
              refine (row1_tot g R3 _ hr hle).mono ?_
              rintro e wf ⟨ta, tb, rfl, hrf, kf⟩
              have htf := ht.other hr kf HNE.out
              have hkwf := hkw.trans kf (by simp; exact hgw)
              clear kf hr ht hkw
              go_wp2_with fail
              refine (row1_tot g' R3 _ htf hle).mono ?_
              rintro e wh ⟨tc, td, rfl, hth, kh⟩
              have hrh := hrf.other htf kh HNE'.out
              have hkwh := hkwf.trans kh (by simp; exact hgw')
              clear kh hrf htf hkwf
              go_wp2
              go_roundw
              case rel => exact ⟨k + 1, _, by omega, by go_num, hrh, hth, by rw [List.length_drop]; omega, hkwh⟩
              case measure => simp [intOf]; omega
            · go_wp2_with fail
              refine (row_no g R1 n _ hr h3).mono ?_
              rintro e wa ⟨v3, rfl, hv3, hv3', hwa⟩
              rw [← hwa] at hr ht hkw
              clear hwa h3
              go_wp2_with fail
              refine (left_any g R1 _ hr).mono ?_
              rintro e wd ⟨rfl, hwd⟩
              rw [← hwd] at hr ht hkw
              clear hwd
              go_wp2_with fail
              refine (left_any g' R1 _ ht).mono ?_
              rintro e we ⟨rfl, hwe⟩
              rw [← hwe] at hr ht hkw
              clear hwe
              go_wp2_with fail
              refine (row1_tot g R1 _ hr hle).mono ?_
              rintro e wf ⟨ta, tb, rfl, hrf, kf⟩
              have htf := ht.other hr kf HNE.out
              have hkwf := hkw.trans kf (by simp; exact hgw)
              clear kf hr ht hkw
              go_wp2_with fail
              refine (row1_tot g' R1 _ htf hle).mono ?_
              rintro e wh ⟨tc, td, rfl, hth, kh⟩
              have hrh := hrf.other htf kh HNE'.out
              have hkwh := hkwf.trans kh (by simp; exact hgw')
              clear kh hrf htf hkwf
              go_wp2
              go_roundw
              case rel => exact ⟨k + 1, _, by omega, by go_num, hrh, hth, by rw [List.length_drop]; omega, hkwh⟩
              case measure => simp [intOf]; omega
        · go_wp2_with fail
          refine (number_no g R width _ hr h1).mono ?_
          rintro e wa ⟨v1, rfl, hv1, hv1', hwa⟩
          rw [← hwa] at hr ht hkw
          have hle := hl
          clear hwa h1
          by_cases h2 : okI R
          · have hb2 : (low (R.take 8) : Int) ≤ 1152921504606846976 := by have := h2.2; omega
            have hb2' : ¬ (1152921504606846976 : Int) < (low (R.take 8) : Int) := by omega
            have hb2'' : ¬ (low (R.take 8) : Int) < 0 := by omega
            go_wp2_with fail
            refine (int_yes g R _ hr h2).mono ?_
            rintro e wa ⟨rfl, hra, ka⟩
            have hta := ht.other hr ka HNE.out
            have hkwa := hkw.trans ka (by simp; exact hgw)
            clear ka hr ht hkw
            go_wp2_with fail
            refine (int_yes g' R _ hta h2).mono ?_
            rintro e wb ⟨rfl, htb, kb⟩
            have hrb := hra.other hta kb HNE'.out
            have hkwb := hkwa.trans kb (by simp; exact hgw')
            have hlb : (R.drop 8).length ≤ 140737488355328 := by rw [List.length_drop]; omega
            clear kb hra hta hkwa h2 hle
            have hr := hrb; have ht := htb; have hkw := hkwb; clear hrb htb hkwb
            have hle := hlb
            generalize R.drop 8 = R2 at hr ht hle hlb
            clear hlb
            by_cases h3 : okR n R2
            · obtain ⟨m, rfl⟩ : ∃ m : Nat, n = (m : Int) := ⟨n.toNat, by have := h3.1; omega⟩
              go_wp2_with fail
              refine (row_yes g R2 m _ hr h3 hle).mono ?_
              rintro e wa ⟨pa, ca, rfl, ba, hra, ka⟩
              have hta := ht.other hr ka HNE.out
              have hkwa := hkw.trans ka (by simp; exact hgw)
              clear ka hr ht hkw
              go_wp2_with fail
              refine (row_yes g' R2 m _ hta h3 hle).mono ?_
              rintro e wb ⟨pb, cb, rfl, bb, htb, kb⟩
              have hrb := hra.other hta kb HNE'.out
              have hba := ba.keptBox kb (by intro y hy; simp at hy; subst hy; exact .inl hta.box)
              have hkwb := hkwa.trans kb (by simp; exact hgw')
              have hlb : (R2.drop m).length ≤ 140737488355328 := by rw [List.length_drop]; omega
              clear kb hra hta hkwa h3 hle ba
              have hr := hrb; have ht := htb; have hkw := hkwb; clear hrb htb hkwb
              have hle := hlb
              generalize R2.drop m = R3 at hr ht hle hlb
              clear hlb
              go_wp2_with fail
              refine (same_any _ _ _ _ _ hba bb).mono ?_
              rintro e wc ⟨rfl, hwc⟩
              rw [← hwc] at hr ht hkw
              clear hwc hba bb
              rw [show (R2.take m == R2.take m) = true from by simp]
              go_wp2_with fail
              refine (left_any g R3 _ hr).mono ?_
              rintro e wd ⟨rfl, hwd⟩
              rw [← hwd] at hr ht hkw
              clear hwd
              go_wp2_with fail
              refine (left_any g' R3 _ ht).mono ?_
              rintro e we ⟨rfl, hwe⟩
              rw [← hwe] at hr ht hkw
              clear hwe
              go_wp2_with fail
              refine (row1_tot g R3 _ hr hle).mono ?_
              rintro e wf ⟨ta, tb, rfl, hrf, kf⟩
              have htf := ht.other hr kf HNE.out
              have hkwf := hkw.trans kf (by simp; exact hgw)
              clear kf hr ht hkw
              go_wp2_with fail
              refine (row1_tot g' R3 _ htf hle).mono ?_
              rintro e wh ⟨tc, td, rfl, hth, kh⟩
              have hrh := hrf.other htf kh HNE'.out
              have hkwh := hkwf.trans kh (by simp; exact hgw')
              clear kh hrf htf hkwf
              go_wp2
              go_roundw
              case rel => exact ⟨k + 1, _, by omega, by go_num, hrh, hth, by rw [List.length_drop]; omega, hkwh⟩
              case measure => simp [intOf]; omega
            · go_wp2_with fail
              refine (row_no g R2 n _ hr h3).mono ?_
              rintro e wa ⟨v3, rfl, hv3, hv3', hwa⟩
              rw [← hwa] at hr ht hkw
              clear hwa h3
              go_wp2_with fail
              refine (left_any g R2 _ hr).mono ?_
              rintro e wd ⟨rfl, hwd⟩
              rw [← hwd] at hr ht hkw
              clear hwd
              go_wp2_with fail
              refine (left_any g' R2 _ ht).mono ?_
              rintro e we ⟨rfl, hwe⟩
              rw [← hwe] at hr ht hkw
              clear hwe
              go_wp2_with fail
              refine (row1_tot g R2 _ hr hle).mono ?_
              rintro e wf ⟨ta, tb, rfl, hrf, kf⟩
              have htf := ht.other hr kf HNE.out
              have hkwf := hkw.trans kf (by simp; exact hgw)
              clear kf hr ht hkw
              go_wp2_with fail
              refine (row1_tot g' R2 _ htf hle).mono ?_
              rintro e wh ⟨tc, td, rfl, hth, kh⟩
              have hrh := hrf.other htf kh HNE'.out
              have hkwh := hkwf.trans kh (by simp; exact hgw')
              clear kh hrf htf hkwf
              go_wp2
              go_roundw
              case rel => exact ⟨k + 1, _, by omega, by go_num, hrh, hth, by rw [List.length_drop]; omega, hkwh⟩
              case measure => simp [intOf]; omega
          · go_wp2_with fail
            refine (int_no g R _ hr h2).mono ?_
            rintro e wa ⟨v2, rfl, hv2, hv2', hwa⟩
            rw [← hwa] at hr ht hkw
            clear hwa h2
            by_cases h3 : okR n R
            · obtain ⟨m, rfl⟩ : ∃ m : Nat, n = (m : Int) := ⟨n.toNat, by have := h3.1; omega⟩
              go_wp2_with fail
              refine (row_yes g R m _ hr h3 hle).mono ?_
              rintro e wa ⟨pa, ca, rfl, ba, hra, ka⟩
              have hta := ht.other hr ka HNE.out
              have hkwa := hkw.trans ka (by simp; exact hgw)
              clear ka hr ht hkw
              go_wp2_with fail
              refine (row_yes g' R m _ hta h3 hle).mono ?_
              rintro e wb ⟨pb, cb, rfl, bb, htb, kb⟩
              have hrb := hra.other hta kb HNE'.out
              have hba := ba.keptBox kb (by intro y hy; simp at hy; subst hy; exact .inl hta.box)
              have hkwb := hkwa.trans kb (by simp; exact hgw')
              have hlb : (R.drop m).length ≤ 140737488355328 := by rw [List.length_drop]; omega
              clear kb hra hta hkwa h3 hle ba
              have hr := hrb; have ht := htb; have hkw := hkwb; clear hrb htb hkwb
              have hle := hlb
              generalize R.drop m = R3 at hr ht hle hlb
              clear hlb
              go_wp2_with fail
              refine (same_any _ _ _ _ _ hba bb).mono ?_
              rintro e wc ⟨rfl, hwc⟩
              rw [← hwc] at hr ht hkw
              clear hwc hba bb
              rw [show (R.take m == R.take m) = true from by simp]
              go_wp2_with fail
              refine (left_any g R3 _ hr).mono ?_
              rintro e wd ⟨rfl, hwd⟩
              rw [← hwd] at hr ht hkw
              clear hwd
              go_wp2_with fail
              refine (left_any g' R3 _ ht).mono ?_
              rintro e we ⟨rfl, hwe⟩
              rw [← hwe] at hr ht hkw
              clear hwe
              go_wp2_with fail
              refine (row1_tot g R3 _ hr hle).mono ?_
              rintro e wf ⟨ta, tb, rfl, hrf, kf⟩
              have htf := ht.other hr kf HNE.out
              have hkwf := hkw.trans kf (by simp; exact hgw)
              clear kf hr ht hkw
              go_wp2_with fail
              refine (row1_tot g' R3 _ htf hle).mono ?_
              rintro e wh ⟨tc, td, rfl, hth, kh⟩
              have hrh := hrf.other htf kh HNE'.out
              have hkwh := hkwf.trans kh (by simp; exact hgw')
              clear kh hrf htf hkwf
              go_wp2
              go_roundw
              case rel => exact ⟨k + 1, _, by omega, by go_num, hrh, hth, by rw [List.length_drop]; omega, hkwh⟩
              case measure => simp [intOf]; omega
            · go_wp2_with fail
              refine (row_no g R n _ hr h3).mono ?_
              rintro e wa ⟨v3, rfl, hv3, hv3', hwa⟩
              rw [← hwa] at hr ht hkw
              clear hwa h3
              go_wp2_with fail
              refine (left_any g R _ hr).mono ?_
              rintro e wd ⟨rfl, hwd⟩
              rw [← hwd] at hr ht hkw
              clear hwd
              go_wp2_with fail
              refine (left_any g' R _ ht).mono ?_
              rintro e we ⟨rfl, hwe⟩
              rw [← hwe] at hr ht hkw
              clear hwe
              go_wp2_with fail
              refine (row1_tot g R _ hr hle).mono ?_
              rintro e wf ⟨ta, tb, rfl, hrf, kf⟩
              have htf := ht.other hr kf HNE.out
              have hkwf := hkw.trans kf (by simp; exact hgw)
              clear kf hr ht hkw
              go_wp2_with fail
              refine (row1_tot g' R _ htf hle).mono ?_
              rintro e wh ⟨tc, td, rfl, hth, kh⟩
              have hrh := hrf.other htf kh HNE'.out
              have hkwh := hkwf.trans kh (by simp; exact hgw')
              clear kh hrf htf hkwf
              go_wp2
              go_roundw
              case rel => exact ⟨k + 1, _, by omega, by go_num, hrh, hth, by rw [List.length_drop]; omega, hkwh⟩
              case measure => simp [intOf]; omega
      · have hpos' : ¬ (0 : Int) < (R.length : Int) := by omega
        go_wp2_with fail
        refine (left_any g R _ hr).mono ?_
        rintro e wz ⟨rfl, hwz⟩
        rw [← hwz] at hr ht hkw
        clear hwz
        go_wp2_with fail
        refine (left_any g R _ hr).mono ?_
        rintro e wd ⟨rfl, hwd⟩
        rw [← hwd] at hr ht hkw
        clear hwd
        go_wp2_with fail
        refine (left_any g' R _ ht).mono ?_
        rintro e we ⟨rfl, hwe⟩
        rw [← hwe] at hkw
        clear hwe
        go_wp2
        go_ret
        exact ⟨by simp, hkw⟩
    · go_wp2_with fail
      refine (left_any g R _ hr).mono ?_
      rintro e wd ⟨rfl, hwd⟩
      rw [← hwd] at hr ht hkw
      clear hwd
      go_wp2_with fail
      refine (left_any g' R _ ht).mono ?_
      rintro e we ⟨rfl, hwe⟩
      rw [← hwe] at hkw
      clear hwe
      go_wp2
      go_ret
      exact ⟨by simp, hkw⟩
end Go.Proofs.Ytppdidimhchlgaa
