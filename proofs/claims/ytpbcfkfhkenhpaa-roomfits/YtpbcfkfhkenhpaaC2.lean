import Derived.Test.YtpbcfkfhkenhpaaC1
/-
  OWN WORK (by mkrm4.py). The law: RoomFits.
-/
namespace Go.Proofs.Ytpbcfkfhkenhpaa
open Go.RowKit
set_option linter.unusedVariables false
set_option linter.unusedSimpArgs false

theorem fits0 (a u m k : Int) : fitsB a [] u m k = decide (0 ≤ u ∧ 0 ≤ m ∧ 0 ≤ k ∧ u + m + k ≤ a) := by unfold fitsB; simp [keptT]
theorem fits1 (a b u m k : Int) : fitsB a [⟨b, []⟩] u m k = decide (0 ≤ u ∧ 0 ≤ m ∧ 0 ≤ k ∧ u + m + k + 99 ≤ a) := by unfold fitsB; simp [keptT, Tx.sum, sumU]
theorem beg0 (b : Int) : begE [] b = 0 ∧ begT [] b = [⟨b, []⟩] := ⟨rfl, rfl⟩
set_option maxRecDepth 20000 in
set_option maxHeartbeats 12800000 in
theorem roomFits_walk {Rm : World → Nat → List Nat → Int → List Tx → Prop} (O : RmOps Rm) (a u m k : Int) (w : World) (ha : I64 a) (hu : I64 u) (hm : I64 m) (hk : I64 k) : Calls Try.prog 3 #[.agg #[.int .i64 a, .int .i64 u, .int .i64 m, .int .i64 k]] w fun e w' => e = .returned (.bool true) ∧ Kept [] w w' := by
  have HI := @hideH _ (And.intro ha (And.intro hu (And.intro hm hk)))
  unfold I64 at ha hu hm hk
  obtain ⟨w1, hw1⟩ : ∃ wx, wx = w.alloc (.cells #[.int .i64 a, .int .i64 u, .int .i64 m, .int .i64 k] 23) := ⟨_, rfl⟩
  have k1 : Kept [] w w1 := by rw [hw1]; exact (Kept.refl [] w).alloc _
  have B : Blk w1 w.heap.size 23 [.int .i64 a, .int .i64 u, .int .i64 m, .int .i64 k] := by rw [hw1]; exact Blk.new w _ _
  have c0 := B.cell (j := 0) rfl
  have c1 := B.cell (j := 1) rfl
  have c2 := B.cell (j := 2) rfl
  have c3 := B.cell (j := 3) rfl
  have HK1 := @hideH _ k1
  have HU := @hideH _ (And.intro ha (And.intro hu (And.intro hm hk)))
  clear B k1 ha hu hm hk
  go_enter Try.func3, Try.ntmps3
  go_upto_region 1 with fail
  rw [← hw1]
  clear hw1
  go_quiet (fail)
  go_wp2_with fail
  refine (head_any O _).mono ?_
  rintro e w2 ⟨rfl, k2⟩
  have HK2 := @hideH _ ((HK1.out.drewN' nq).then k2)
  clear k2 c0 c1 c2 c3
  go_wp2_with fail
  refine (O.new a w2 HI.out.1).mono ?_
  rintro e w3 ⟨g, F, rfl, l3, hF, k3⟩
  have HK3 := @hideH _ (HK2.out.then k3)
  have HF := @hideH _ (show ∀ x ∈ F, w.heap.size ≤ x from fun x hx => Nat.le_trans HK2.out.size (hF x hx))
  have HL3 := @hideH _ l3
  clear hF k3 l3 HK2
  by_cases h0 : 0 ≤ a
  rotate_left
  · try have h0' := h0
    have d0 : ¬ 99 ≤ a := by omega
    have e1 : fitsB a [] u m k = false := by rw [fits0]; have ⟨ha, hu, hm, hk⟩ := HU.out; exact decide_eq_false (by omega)
    have e2 : fitsB a [⟨u, []⟩] u m k = false := by rw [fits1]; have ⟨ha, hu, hm, hk⟩ := HU.out; exact decide_eq_false (by omega)
    have q1 := O.fits u m k w3 HL3.out HI.out.2.1 HI.out.2.2.1 HI.out.2.2.2
    rw [e1] at q1
    have HQ1 := @hideH _ q1
    have HE2 := @hideH _ e2
    clear q1 e1 e2
    go_wp2_with fail
    refine HQ1.out.mono ?_
    clear HQ1
    rintro e w4 ⟨rfl, k4⟩
    have q2 := O.beg u w4 (O.kept HL3.out k4 (by simp)) HI.out.2.1 (by decide)
    rw [(beg0 u).1, (beg0 u).2] at q2
    have HQ2 := @hideH _ q2
    have HK4 := @hideH _ (HK3.out.then k4)
    clear q2 k4
    go_wp2_with fail
    refine HQ2.out.mono ?_
    clear HQ2
    rintro e w5 ⟨F5, rfl, l5, fr5, k5⟩
    have HK5 := @hideH _ (HK4.out.trans k5 (fun x hx => .inr (HF.out x hx)))
    have q3 := O.fits u m k w5 l5 HI.out.2.1 HI.out.2.2.1 HI.out.2.2.2
    rw [HE2.out] at q3
    have HQ3 := @hideH _ q3
    clear q3 l5 fr5 k5
    go_wp2_with fail
    refine HQ3.out.mono ?_
    clear HQ3
    rintro e w6 ⟨rfl, k6⟩
    have HK6 := @hideH _ (HK5.out.then k6)
    clear k6
    go_wp2
    go_ret
    exact ⟨by first | rfl | (simp; done) | (simp; omega), HK6.out⟩
  by_cases h1 : 0 ≤ u
  rotate_left
  · try have h1' := h1
    by_cases d0 : 99 ≤ a
    rotate_left
    · try have d0' := d0
      have e1 : fitsB a [] u m k = false := by rw [fits0]; have ⟨ha, hu, hm, hk⟩ := HU.out; exact decide_eq_false (by omega)
      have e2 : fitsB a [⟨u, []⟩] u m k = false := by rw [fits1]; have ⟨ha, hu, hm, hk⟩ := HU.out; exact decide_eq_false (by omega)
      have q1 := O.fits u m k w3 HL3.out HI.out.2.1 HI.out.2.2.1 HI.out.2.2.2
      rw [e1] at q1
      have HQ1 := @hideH _ q1
      have HE2 := @hideH _ e2
      clear q1 e1 e2
      go_wp2_with fail
      refine HQ1.out.mono ?_
      clear HQ1
      rintro e w4 ⟨rfl, k4⟩
      have q2 := O.beg u w4 (O.kept HL3.out k4 (by simp)) HI.out.2.1 (by decide)
      rw [(beg0 u).1, (beg0 u).2] at q2
      have HQ2 := @hideH _ q2
      have HK4 := @hideH _ (HK3.out.then k4)
      clear q2 k4
      go_wp2_with fail
      refine HQ2.out.mono ?_
      clear HQ2
      rintro e w5 ⟨F5, rfl, l5, fr5, k5⟩
      have HK5 := @hideH _ (HK4.out.trans k5 (fun x hx => .inr (HF.out x hx)))
      have q3 := O.fits u m k w5 l5 HI.out.2.1 HI.out.2.2.1 HI.out.2.2.2
      rw [HE2.out] at q3
      have HQ3 := @hideH _ q3
      clear q3 l5 fr5 k5
      go_wp2_with fail
      refine HQ3.out.mono ?_
      clear HQ3
      rintro e w6 ⟨rfl, k6⟩
      have HK6 := @hideH _ (HK5.out.then k6)
      clear k6
      go_wp2
      go_ret
      exact ⟨by first | rfl | (simp; done) | (simp; omega), HK6.out⟩
    have e1 : fitsB a [] u m k = false := by rw [fits0]; have ⟨ha, hu, hm, hk⟩ := HU.out; exact decide_eq_false (by omega)
    have e2 : fitsB a [⟨u, []⟩] u m k = false := by rw [fits1]; have ⟨ha, hu, hm, hk⟩ := HU.out; exact decide_eq_false (by omega)
    have q1 := O.fits u m k w3 HL3.out HI.out.2.1 HI.out.2.2.1 HI.out.2.2.2
    rw [e1] at q1
    have HQ1 := @hideH _ q1
    have HE2 := @hideH _ e2
    clear q1 e1 e2
    go_wp2_with fail
    refine HQ1.out.mono ?_
    clear HQ1
    rintro e w4 ⟨rfl, k4⟩
    have q2 := O.beg u w4 (O.kept HL3.out k4 (by simp)) HI.out.2.1 (by decide)
    rw [(beg0 u).1, (beg0 u).2] at q2
    have HQ2 := @hideH _ q2
    have HK4 := @hideH _ (HK3.out.then k4)
    clear q2 k4
    go_wp2_with fail
    refine HQ2.out.mono ?_
    clear HQ2
    rintro e w5 ⟨F5, rfl, l5, fr5, k5⟩
    have HK5 := @hideH _ (HK4.out.trans k5 (fun x hx => .inr (HF.out x hx)))
    have q3 := O.fits u m k w5 l5 HI.out.2.1 HI.out.2.2.1 HI.out.2.2.2
    rw [HE2.out] at q3
    have HQ3 := @hideH _ q3
    clear q3 l5 fr5 k5
    go_wp2_with fail
    refine HQ3.out.mono ?_
    clear HQ3
    rintro e w6 ⟨rfl, k6⟩
    have HK6 := @hideH _ (HK5.out.then k6)
    clear k6
    go_wp2
    go_ret
    exact ⟨by first | rfl | (simp; done) | (simp; omega), HK6.out⟩
  by_cases h2 : 0 ≤ m
  rotate_left
  · try have h2' := h2
    by_cases d0 : 99 ≤ a
    rotate_left
    · try have d0' := d0
      have e1 : fitsB a [] u m k = false := by rw [fits0]; have ⟨ha, hu, hm, hk⟩ := HU.out; exact decide_eq_false (by omega)
      have e2 : fitsB a [⟨u, []⟩] u m k = false := by rw [fits1]; have ⟨ha, hu, hm, hk⟩ := HU.out; exact decide_eq_false (by omega)
      have q1 := O.fits u m k w3 HL3.out HI.out.2.1 HI.out.2.2.1 HI.out.2.2.2
      rw [e1] at q1
      have HQ1 := @hideH _ q1
      have HE2 := @hideH _ e2
      clear q1 e1 e2
      go_wp2_with fail
      refine HQ1.out.mono ?_
      clear HQ1
      rintro e w4 ⟨rfl, k4⟩
      have q2 := O.beg u w4 (O.kept HL3.out k4 (by simp)) HI.out.2.1 (by decide)
      rw [(beg0 u).1, (beg0 u).2] at q2
      have HQ2 := @hideH _ q2
      have HK4 := @hideH _ (HK3.out.then k4)
      clear q2 k4
      go_wp2_with fail
      refine HQ2.out.mono ?_
      clear HQ2
      rintro e w5 ⟨F5, rfl, l5, fr5, k5⟩
      have HK5 := @hideH _ (HK4.out.trans k5 (fun x hx => .inr (HF.out x hx)))
      have q3 := O.fits u m k w5 l5 HI.out.2.1 HI.out.2.2.1 HI.out.2.2.2
      rw [HE2.out] at q3
      have HQ3 := @hideH _ q3
      clear q3 l5 fr5 k5
      go_wp2_with fail
      refine HQ3.out.mono ?_
      clear HQ3
      rintro e w6 ⟨rfl, k6⟩
      have HK6 := @hideH _ (HK5.out.then k6)
      clear k6
      go_wp2
      go_ret
      exact ⟨by first | rfl | (simp; done) | (simp; omega), HK6.out⟩
    have e1 : fitsB a [] u m k = false := by rw [fits0]; have ⟨ha, hu, hm, hk⟩ := HU.out; exact decide_eq_false (by omega)
    have e2 : fitsB a [⟨u, []⟩] u m k = false := by rw [fits1]; have ⟨ha, hu, hm, hk⟩ := HU.out; exact decide_eq_false (by omega)
    have q1 := O.fits u m k w3 HL3.out HI.out.2.1 HI.out.2.2.1 HI.out.2.2.2
    rw [e1] at q1
    have HQ1 := @hideH _ q1
    have HE2 := @hideH _ e2
    clear q1 e1 e2
    go_wp2_with fail
    refine HQ1.out.mono ?_
    clear HQ1
    rintro e w4 ⟨rfl, k4⟩
    have q2 := O.beg u w4 (O.kept HL3.out k4 (by simp)) HI.out.2.1 (by decide)
    rw [(beg0 u).1, (beg0 u).2] at q2
    have HQ2 := @hideH _ q2
    have HK4 := @hideH _ (HK3.out.then k4)
    clear q2 k4
    go_wp2_with fail
    refine HQ2.out.mono ?_
    clear HQ2
    rintro e w5 ⟨F5, rfl, l5, fr5, k5⟩
    have HK5 := @hideH _ (HK4.out.trans k5 (fun x hx => .inr (HF.out x hx)))
    have q3 := O.fits u m k w5 l5 HI.out.2.1 HI.out.2.2.1 HI.out.2.2.2
    rw [HE2.out] at q3
    have HQ3 := @hideH _ q3
    clear q3 l5 fr5 k5
    go_wp2_with fail
    refine HQ3.out.mono ?_
    clear HQ3
    rintro e w6 ⟨rfl, k6⟩
    have HK6 := @hideH _ (HK5.out.then k6)
    clear k6
    go_wp2
    go_ret
    exact ⟨by first | rfl | (simp; done) | (simp; omega), HK6.out⟩
  by_cases h3 : 0 ≤ k
  rotate_left
  · try have h3' := h3
    by_cases d0 : 99 ≤ a
    rotate_left
    · try have d0' := d0
      have e1 : fitsB a [] u m k = false := by rw [fits0]; have ⟨ha, hu, hm, hk⟩ := HU.out; exact decide_eq_false (by omega)
      have e2 : fitsB a [⟨u, []⟩] u m k = false := by rw [fits1]; have ⟨ha, hu, hm, hk⟩ := HU.out; exact decide_eq_false (by omega)
      have q1 := O.fits u m k w3 HL3.out HI.out.2.1 HI.out.2.2.1 HI.out.2.2.2
      rw [e1] at q1
      have HQ1 := @hideH _ q1
      have HE2 := @hideH _ e2
      clear q1 e1 e2
      go_wp2_with fail
      refine HQ1.out.mono ?_
      clear HQ1
      rintro e w4 ⟨rfl, k4⟩
      have q2 := O.beg u w4 (O.kept HL3.out k4 (by simp)) HI.out.2.1 (by decide)
      rw [(beg0 u).1, (beg0 u).2] at q2
      have HQ2 := @hideH _ q2
      have HK4 := @hideH _ (HK3.out.then k4)
      clear q2 k4
      go_wp2_with fail
      refine HQ2.out.mono ?_
      clear HQ2
      rintro e w5 ⟨F5, rfl, l5, fr5, k5⟩
      have HK5 := @hideH _ (HK4.out.trans k5 (fun x hx => .inr (HF.out x hx)))
      have q3 := O.fits u m k w5 l5 HI.out.2.1 HI.out.2.2.1 HI.out.2.2.2
      rw [HE2.out] at q3
      have HQ3 := @hideH _ q3
      clear q3 l5 fr5 k5
      go_wp2_with fail
      refine HQ3.out.mono ?_
      clear HQ3
      rintro e w6 ⟨rfl, k6⟩
      have HK6 := @hideH _ (HK5.out.then k6)
      clear k6
      go_wp2
      go_ret
      exact ⟨by first | rfl | (simp; done) | (simp; omega), HK6.out⟩
    have e1 : fitsB a [] u m k = false := by rw [fits0]; have ⟨ha, hu, hm, hk⟩ := HU.out; exact decide_eq_false (by omega)
    have e2 : fitsB a [⟨u, []⟩] u m k = false := by rw [fits1]; have ⟨ha, hu, hm, hk⟩ := HU.out; exact decide_eq_false (by omega)
    have q1 := O.fits u m k w3 HL3.out HI.out.2.1 HI.out.2.2.1 HI.out.2.2.2
    rw [e1] at q1
    have HQ1 := @hideH _ q1
    have HE2 := @hideH _ e2
    clear q1 e1 e2
    go_wp2_with fail
    refine HQ1.out.mono ?_
    clear HQ1
    rintro e w4 ⟨rfl, k4⟩
    have q2 := O.beg u w4 (O.kept HL3.out k4 (by simp)) HI.out.2.1 (by decide)
    rw [(beg0 u).1, (beg0 u).2] at q2
    have HQ2 := @hideH _ q2
    have HK4 := @hideH _ (HK3.out.then k4)
    clear q2 k4
    go_wp2_with fail
    refine HQ2.out.mono ?_
    clear HQ2
    rintro e w5 ⟨F5, rfl, l5, fr5, k5⟩
    have HK5 := @hideH _ (HK4.out.trans k5 (fun x hx => .inr (HF.out x hx)))
    have q3 := O.fits u m k w5 l5 HI.out.2.1 HI.out.2.2.1 HI.out.2.2.2
    rw [HE2.out] at q3
    have HQ3 := @hideH _ q3
    clear q3 l5 fr5 k5
    go_wp2_with fail
    refine HQ3.out.mono ?_
    clear HQ3
    rintro e w6 ⟨rfl, k6⟩
    have HK6 := @hideH _ (HK5.out.then k6)
    clear k6
    go_wp2
    go_ret
    exact ⟨by first | rfl | (simp; done) | (simp; omega), HK6.out⟩
  by_cases h4 : u ≤ a
  rotate_left
  · try have h4' := h4
    by_cases d0 : 99 ≤ a
    rotate_left
    · try have d0' := d0
      have e1 : fitsB a [] u m k = false := by rw [fits0]; have ⟨ha, hu, hm, hk⟩ := HU.out; exact decide_eq_false (by omega)
      have e2 : fitsB a [⟨u, []⟩] u m k = false := by rw [fits1]; have ⟨ha, hu, hm, hk⟩ := HU.out; exact decide_eq_false (by omega)
      have q1 := O.fits u m k w3 HL3.out HI.out.2.1 HI.out.2.2.1 HI.out.2.2.2
      rw [e1] at q1
      have HQ1 := @hideH _ q1
      have HE2 := @hideH _ e2
      clear q1 e1 e2
      go_wp2_with fail
      refine HQ1.out.mono ?_
      clear HQ1
      rintro e w4 ⟨rfl, k4⟩
      have q2 := O.beg u w4 (O.kept HL3.out k4 (by simp)) HI.out.2.1 (by decide)
      rw [(beg0 u).1, (beg0 u).2] at q2
      have HQ2 := @hideH _ q2
      have HK4 := @hideH _ (HK3.out.then k4)
      clear q2 k4
      go_wp2_with fail
      refine HQ2.out.mono ?_
      clear HQ2
      rintro e w5 ⟨F5, rfl, l5, fr5, k5⟩
      have HK5 := @hideH _ (HK4.out.trans k5 (fun x hx => .inr (HF.out x hx)))
      have q3 := O.fits u m k w5 l5 HI.out.2.1 HI.out.2.2.1 HI.out.2.2.2
      rw [HE2.out] at q3
      have HQ3 := @hideH _ q3
      clear q3 l5 fr5 k5
      go_wp2_with fail
      refine HQ3.out.mono ?_
      clear HQ3
      rintro e w6 ⟨rfl, k6⟩
      have HK6 := @hideH _ (HK5.out.then k6)
      clear k6
      go_wp2
      go_ret
      exact ⟨by first | rfl | (simp; done) | (simp; omega), HK6.out⟩
    have v4 : IntKind.i64.wrap (a - 99) = a - 99 := by have ⟨ha, hu, hm, hk⟩ := HU.out; exact wrap_i64_of (by omega) (by omega)
    have d4 : ¬ u ≤ a - 99 := by have ⟨ha, hu, hm, hk⟩ := HU.out; omega
    have e1 : fitsB a [] u m k = false := by rw [fits0]; have ⟨ha, hu, hm, hk⟩ := HU.out; exact decide_eq_false (by omega)
    have e2 : fitsB a [⟨u, []⟩] u m k = false := by rw [fits1]; have ⟨ha, hu, hm, hk⟩ := HU.out; exact decide_eq_false (by omega)
    have q1 := O.fits u m k w3 HL3.out HI.out.2.1 HI.out.2.2.1 HI.out.2.2.2
    rw [e1] at q1
    have HQ1 := @hideH _ q1
    have HE2 := @hideH _ e2
    clear q1 e1 e2
    go_wp2_with fail
    refine HQ1.out.mono ?_
    clear HQ1
    rintro e w4 ⟨rfl, k4⟩
    have q2 := O.beg u w4 (O.kept HL3.out k4 (by simp)) HI.out.2.1 (by decide)
    rw [(beg0 u).1, (beg0 u).2] at q2
    have HQ2 := @hideH _ q2
    have HK4 := @hideH _ (HK3.out.then k4)
    clear q2 k4
    go_wp2_with fail
    refine HQ2.out.mono ?_
    clear HQ2
    rintro e w5 ⟨F5, rfl, l5, fr5, k5⟩
    have HK5 := @hideH _ (HK4.out.trans k5 (fun x hx => .inr (HF.out x hx)))
    have q3 := O.fits u m k w5 l5 HI.out.2.1 HI.out.2.2.1 HI.out.2.2.2
    rw [HE2.out] at q3
    have HQ3 := @hideH _ q3
    clear q3 l5 fr5 k5
    go_wp2_with fail
    refine HQ3.out.mono ?_
    clear HQ3
    rintro e w6 ⟨rfl, k6⟩
    have HK6 := @hideH _ (HK5.out.then k6)
    clear k6
    go_wp2
    go_ret
    exact ⟨by first | rfl | (simp; done) | (simp; omega), HK6.out⟩
  have u5 : IntKind.i64.wrap (a - u) = a - u := by have ⟨ha, hu, hm, hk⟩ := HU.out; exact wrap_i64_of (by omega) (by omega)
  by_cases h5 : m ≤ a - u
  rotate_left
  · try have h5' := h5
    by_cases d0 : 99 ≤ a
    rotate_left
    · try have d0' := d0
      have e1 : fitsB a [] u m k = false := by rw [fits0]; have ⟨ha, hu, hm, hk⟩ := HU.out; exact decide_eq_false (by omega)
      have e2 : fitsB a [⟨u, []⟩] u m k = false := by rw [fits1]; have ⟨ha, hu, hm, hk⟩ := HU.out; exact decide_eq_false (by omega)
      have q1 := O.fits u m k w3 HL3.out HI.out.2.1 HI.out.2.2.1 HI.out.2.2.2
      rw [e1] at q1
      have HQ1 := @hideH _ q1
      have HE2 := @hideH _ e2
      clear q1 e1 e2
      go_wp2_with fail
      refine HQ1.out.mono ?_
      clear HQ1
      rintro e w4 ⟨rfl, k4⟩
      have q2 := O.beg u w4 (O.kept HL3.out k4 (by simp)) HI.out.2.1 (by decide)
      rw [(beg0 u).1, (beg0 u).2] at q2
      have HQ2 := @hideH _ q2
      have HK4 := @hideH _ (HK3.out.then k4)
      clear q2 k4
      go_wp2_with fail
      refine HQ2.out.mono ?_
      clear HQ2
      rintro e w5 ⟨F5, rfl, l5, fr5, k5⟩
      have HK5 := @hideH _ (HK4.out.trans k5 (fun x hx => .inr (HF.out x hx)))
      have q3 := O.fits u m k w5 l5 HI.out.2.1 HI.out.2.2.1 HI.out.2.2.2
      rw [HE2.out] at q3
      have HQ3 := @hideH _ q3
      clear q3 l5 fr5 k5
      go_wp2_with fail
      refine HQ3.out.mono ?_
      clear HQ3
      rintro e w6 ⟨rfl, k6⟩
      have HK6 := @hideH _ (HK5.out.then k6)
      clear k6
      go_wp2
      go_ret
      exact ⟨by first | rfl | (simp; done) | (simp; omega), HK6.out⟩
    have v4 : IntKind.i64.wrap (a - 99) = a - 99 := by have ⟨ha, hu, hm, hk⟩ := HU.out; exact wrap_i64_of (by omega) (by omega)
    by_cases d4 : u ≤ a - 99
    rotate_left
    · try have d4' := d4
      have e1 : fitsB a [] u m k = false := by rw [fits0]; have ⟨ha, hu, hm, hk⟩ := HU.out; exact decide_eq_false (by omega)
      have e2 : fitsB a [⟨u, []⟩] u m k = false := by rw [fits1]; have ⟨ha, hu, hm, hk⟩ := HU.out; exact decide_eq_false (by omega)
      have q1 := O.fits u m k w3 HL3.out HI.out.2.1 HI.out.2.2.1 HI.out.2.2.2
      rw [e1] at q1
      have HQ1 := @hideH _ q1
      have HE2 := @hideH _ e2
      clear q1 e1 e2
      go_wp2_with fail
      refine HQ1.out.mono ?_
      clear HQ1
      rintro e w4 ⟨rfl, k4⟩
      have q2 := O.beg u w4 (O.kept HL3.out k4 (by simp)) HI.out.2.1 (by decide)
      rw [(beg0 u).1, (beg0 u).2] at q2
      have HQ2 := @hideH _ q2
      have HK4 := @hideH _ (HK3.out.then k4)
      clear q2 k4
      go_wp2_with fail
      refine HQ2.out.mono ?_
      clear HQ2
      rintro e w5 ⟨F5, rfl, l5, fr5, k5⟩
      have HK5 := @hideH _ (HK4.out.trans k5 (fun x hx => .inr (HF.out x hx)))
      have q3 := O.fits u m k w5 l5 HI.out.2.1 HI.out.2.2.1 HI.out.2.2.2
      rw [HE2.out] at q3
      have HQ3 := @hideH _ q3
      clear q3 l5 fr5 k5
      go_wp2_with fail
      refine HQ3.out.mono ?_
      clear HQ3
      rintro e w6 ⟨rfl, k6⟩
      have HK6 := @hideH _ (HK5.out.then k6)
      clear k6
      go_wp2
      go_ret
      exact ⟨by first | rfl | (simp; done) | (simp; omega), HK6.out⟩
    have v5 : IntKind.i64.wrap (a - 99 - u) = a - 99 - u := by have ⟨ha, hu, hm, hk⟩ := HU.out; exact wrap_i64_of (by omega) (by omega)
    have d5 : ¬ m ≤ a - 99 - u := by have ⟨ha, hu, hm, hk⟩ := HU.out; omega
    have e1 : fitsB a [] u m k = false := by rw [fits0]; have ⟨ha, hu, hm, hk⟩ := HU.out; exact decide_eq_false (by omega)
    have e2 : fitsB a [⟨u, []⟩] u m k = false := by rw [fits1]; have ⟨ha, hu, hm, hk⟩ := HU.out; exact decide_eq_false (by omega)
    have q1 := O.fits u m k w3 HL3.out HI.out.2.1 HI.out.2.2.1 HI.out.2.2.2
    rw [e1] at q1
    have HQ1 := @hideH _ q1
    have HE2 := @hideH _ e2
    clear q1 e1 e2
    go_wp2_with fail
    refine HQ1.out.mono ?_
    clear HQ1
    rintro e w4 ⟨rfl, k4⟩
    have q2 := O.beg u w4 (O.kept HL3.out k4 (by simp)) HI.out.2.1 (by decide)
    rw [(beg0 u).1, (beg0 u).2] at q2
    have HQ2 := @hideH _ q2
    have HK4 := @hideH _ (HK3.out.then k4)
    clear q2 k4
    go_wp2_with fail
    refine HQ2.out.mono ?_
    clear HQ2
    rintro e w5 ⟨F5, rfl, l5, fr5, k5⟩
    have HK5 := @hideH _ (HK4.out.trans k5 (fun x hx => .inr (HF.out x hx)))
    have q3 := O.fits u m k w5 l5 HI.out.2.1 HI.out.2.2.1 HI.out.2.2.2
    rw [HE2.out] at q3
    have HQ3 := @hideH _ q3
    clear q3 l5 fr5 k5
    go_wp2_with fail
    refine HQ3.out.mono ?_
    clear HQ3
    rintro e w6 ⟨rfl, k6⟩
    have HK6 := @hideH _ (HK5.out.then k6)
    clear k6
    go_wp2
    go_ret
    exact ⟨by first | rfl | (simp; done) | (simp; omega), HK6.out⟩
  have u6 : IntKind.i64.wrap (a - u - m) = a - u - m := by have ⟨ha, hu, hm, hk⟩ := HU.out; exact wrap_i64_of (by omega) (by omega)
  by_cases h6 : k ≤ a - u - m
  rotate_left
  · try have h6' := h6
    by_cases d0 : 99 ≤ a
    rotate_left
    · try have d0' := d0
      have e1 : fitsB a [] u m k = false := by rw [fits0]; have ⟨ha, hu, hm, hk⟩ := HU.out; exact decide_eq_false (by omega)
      have e2 : fitsB a [⟨u, []⟩] u m k = false := by rw [fits1]; have ⟨ha, hu, hm, hk⟩ := HU.out; exact decide_eq_false (by omega)
      have q1 := O.fits u m k w3 HL3.out HI.out.2.1 HI.out.2.2.1 HI.out.2.2.2
      rw [e1] at q1
      have HQ1 := @hideH _ q1
      have HE2 := @hideH _ e2
      clear q1 e1 e2
      go_wp2_with fail
      refine HQ1.out.mono ?_
      clear HQ1
      rintro e w4 ⟨rfl, k4⟩
      have q2 := O.beg u w4 (O.kept HL3.out k4 (by simp)) HI.out.2.1 (by decide)
      rw [(beg0 u).1, (beg0 u).2] at q2
      have HQ2 := @hideH _ q2
      have HK4 := @hideH _ (HK3.out.then k4)
      clear q2 k4
      go_wp2_with fail
      refine HQ2.out.mono ?_
      clear HQ2
      rintro e w5 ⟨F5, rfl, l5, fr5, k5⟩
      have HK5 := @hideH _ (HK4.out.trans k5 (fun x hx => .inr (HF.out x hx)))
      have q3 := O.fits u m k w5 l5 HI.out.2.1 HI.out.2.2.1 HI.out.2.2.2
      rw [HE2.out] at q3
      have HQ3 := @hideH _ q3
      clear q3 l5 fr5 k5
      go_wp2_with fail
      refine HQ3.out.mono ?_
      clear HQ3
      rintro e w6 ⟨rfl, k6⟩
      have HK6 := @hideH _ (HK5.out.then k6)
      clear k6
      go_wp2
      go_ret
      exact ⟨by first | rfl | (simp; done) | (simp; omega), HK6.out⟩
    have v4 : IntKind.i64.wrap (a - 99) = a - 99 := by have ⟨ha, hu, hm, hk⟩ := HU.out; exact wrap_i64_of (by omega) (by omega)
    by_cases d4 : u ≤ a - 99
    rotate_left
    · try have d4' := d4
      have e1 : fitsB a [] u m k = false := by rw [fits0]; have ⟨ha, hu, hm, hk⟩ := HU.out; exact decide_eq_false (by omega)
      have e2 : fitsB a [⟨u, []⟩] u m k = false := by rw [fits1]; have ⟨ha, hu, hm, hk⟩ := HU.out; exact decide_eq_false (by omega)
      have q1 := O.fits u m k w3 HL3.out HI.out.2.1 HI.out.2.2.1 HI.out.2.2.2
      rw [e1] at q1
      have HQ1 := @hideH _ q1
      have HE2 := @hideH _ e2
      clear q1 e1 e2
      go_wp2_with fail
      refine HQ1.out.mono ?_
      clear HQ1
      rintro e w4 ⟨rfl, k4⟩
      have q2 := O.beg u w4 (O.kept HL3.out k4 (by simp)) HI.out.2.1 (by decide)
      rw [(beg0 u).1, (beg0 u).2] at q2
      have HQ2 := @hideH _ q2
      have HK4 := @hideH _ (HK3.out.then k4)
      clear q2 k4
      go_wp2_with fail
      refine HQ2.out.mono ?_
      clear HQ2
      rintro e w5 ⟨F5, rfl, l5, fr5, k5⟩
      have HK5 := @hideH _ (HK4.out.trans k5 (fun x hx => .inr (HF.out x hx)))
      have q3 := O.fits u m k w5 l5 HI.out.2.1 HI.out.2.2.1 HI.out.2.2.2
      rw [HE2.out] at q3
      have HQ3 := @hideH _ q3
      clear q3 l5 fr5 k5
      go_wp2_with fail
      refine HQ3.out.mono ?_
      clear HQ3
      rintro e w6 ⟨rfl, k6⟩
      have HK6 := @hideH _ (HK5.out.then k6)
      clear k6
      go_wp2
      go_ret
      exact ⟨by first | rfl | (simp; done) | (simp; omega), HK6.out⟩
    have v5 : IntKind.i64.wrap (a - 99 - u) = a - 99 - u := by have ⟨ha, hu, hm, hk⟩ := HU.out; exact wrap_i64_of (by omega) (by omega)
    by_cases d5 : m ≤ a - 99 - u
    rotate_left
    · try have d5' := d5
      have e1 : fitsB a [] u m k = false := by rw [fits0]; have ⟨ha, hu, hm, hk⟩ := HU.out; exact decide_eq_false (by omega)
      have e2 : fitsB a [⟨u, []⟩] u m k = false := by rw [fits1]; have ⟨ha, hu, hm, hk⟩ := HU.out; exact decide_eq_false (by omega)
      have q1 := O.fits u m k w3 HL3.out HI.out.2.1 HI.out.2.2.1 HI.out.2.2.2
      rw [e1] at q1
      have HQ1 := @hideH _ q1
      have HE2 := @hideH _ e2
      clear q1 e1 e2
      go_wp2_with fail
      refine HQ1.out.mono ?_
      clear HQ1
      rintro e w4 ⟨rfl, k4⟩
      have q2 := O.beg u w4 (O.kept HL3.out k4 (by simp)) HI.out.2.1 (by decide)
      rw [(beg0 u).1, (beg0 u).2] at q2
      have HQ2 := @hideH _ q2
      have HK4 := @hideH _ (HK3.out.then k4)
      clear q2 k4
      go_wp2_with fail
      refine HQ2.out.mono ?_
      clear HQ2
      rintro e w5 ⟨F5, rfl, l5, fr5, k5⟩
      have HK5 := @hideH _ (HK4.out.trans k5 (fun x hx => .inr (HF.out x hx)))
      have q3 := O.fits u m k w5 l5 HI.out.2.1 HI.out.2.2.1 HI.out.2.2.2
      rw [HE2.out] at q3
      have HQ3 := @hideH _ q3
      clear q3 l5 fr5 k5
      go_wp2_with fail
      refine HQ3.out.mono ?_
      clear HQ3
      rintro e w6 ⟨rfl, k6⟩
      have HK6 := @hideH _ (HK5.out.then k6)
      clear k6
      go_wp2
      go_ret
      exact ⟨by first | rfl | (simp; done) | (simp; omega), HK6.out⟩
    have v6 : IntKind.i64.wrap (a - 99 - u - m) = a - 99 - u - m := by have ⟨ha, hu, hm, hk⟩ := HU.out; exact wrap_i64_of (by omega) (by omega)
    have d6 : ¬ k ≤ a - 99 - u - m := by have ⟨ha, hu, hm, hk⟩ := HU.out; omega
    have e1 : fitsB a [] u m k = false := by rw [fits0]; have ⟨ha, hu, hm, hk⟩ := HU.out; exact decide_eq_false (by omega)
    have e2 : fitsB a [⟨u, []⟩] u m k = false := by rw [fits1]; have ⟨ha, hu, hm, hk⟩ := HU.out; exact decide_eq_false (by omega)
    have q1 := O.fits u m k w3 HL3.out HI.out.2.1 HI.out.2.2.1 HI.out.2.2.2
    rw [e1] at q1
    have HQ1 := @hideH _ q1
    have HE2 := @hideH _ e2
    clear q1 e1 e2
    go_wp2_with fail
    refine HQ1.out.mono ?_
    clear HQ1
    rintro e w4 ⟨rfl, k4⟩
    have q2 := O.beg u w4 (O.kept HL3.out k4 (by simp)) HI.out.2.1 (by decide)
    rw [(beg0 u).1, (beg0 u).2] at q2
    have HQ2 := @hideH _ q2
    have HK4 := @hideH _ (HK3.out.then k4)
    clear q2 k4
    go_wp2_with fail
    refine HQ2.out.mono ?_
    clear HQ2
    rintro e w5 ⟨F5, rfl, l5, fr5, k5⟩
    have HK5 := @hideH _ (HK4.out.trans k5 (fun x hx => .inr (HF.out x hx)))
    have q3 := O.fits u m k w5 l5 HI.out.2.1 HI.out.2.2.1 HI.out.2.2.2
    rw [HE2.out] at q3
    have HQ3 := @hideH _ q3
    clear q3 l5 fr5 k5
    go_wp2_with fail
    refine HQ3.out.mono ?_
    clear HQ3
    rintro e w6 ⟨rfl, k6⟩
    have HK6 := @hideH _ (HK5.out.then k6)
    clear k6
    go_wp2
    go_ret
    exact ⟨by first | rfl | (simp; done) | (simp; omega), HK6.out⟩
  by_cases d0 : 99 ≤ a
  rotate_left
  · try have d0' := d0
    have e1 : fitsB a [] u m k = true := by rw [fits0]; have ⟨ha, hu, hm, hk⟩ := HU.out; exact decide_eq_true (by omega)
    have e2 : fitsB a [⟨u, []⟩] u m k = false := by rw [fits1]; have ⟨ha, hu, hm, hk⟩ := HU.out; exact decide_eq_false (by omega)
    have q1 := O.fits u m k w3 HL3.out HI.out.2.1 HI.out.2.2.1 HI.out.2.2.2
    rw [e1] at q1
    have HQ1 := @hideH _ q1
    have HE2 := @hideH _ e2
    clear q1 e1 e2
    go_wp2_with fail
    refine HQ1.out.mono ?_
    clear HQ1
    rintro e w4 ⟨rfl, k4⟩
    have q2 := O.beg u w4 (O.kept HL3.out k4 (by simp)) HI.out.2.1 (by decide)
    rw [(beg0 u).1, (beg0 u).2] at q2
    have HQ2 := @hideH _ q2
    have HK4 := @hideH _ (HK3.out.then k4)
    clear q2 k4
    go_wp2_with fail
    refine HQ2.out.mono ?_
    clear HQ2
    rintro e w5 ⟨F5, rfl, l5, fr5, k5⟩
    have HK5 := @hideH _ (HK4.out.trans k5 (fun x hx => .inr (HF.out x hx)))
    have q3 := O.fits u m k w5 l5 HI.out.2.1 HI.out.2.2.1 HI.out.2.2.2
    rw [HE2.out] at q3
    have HQ3 := @hideH _ q3
    clear q3 l5 fr5 k5
    go_wp2_with fail
    refine HQ3.out.mono ?_
    clear HQ3
    rintro e w6 ⟨rfl, k6⟩
    have HK6 := @hideH _ (HK5.out.then k6)
    clear k6
    go_wp2
    go_ret
    exact ⟨by first | rfl | (simp; done) | (simp; omega), HK6.out⟩
  have v4 : IntKind.i64.wrap (a - 99) = a - 99 := by have ⟨ha, hu, hm, hk⟩ := HU.out; exact wrap_i64_of (by omega) (by omega)
  by_cases d4 : u ≤ a - 99
  rotate_left
  · try have d4' := d4
    have e1 : fitsB a [] u m k = true := by rw [fits0]; have ⟨ha, hu, hm, hk⟩ := HU.out; exact decide_eq_true (by omega)
    have e2 : fitsB a [⟨u, []⟩] u m k = false := by rw [fits1]; have ⟨ha, hu, hm, hk⟩ := HU.out; exact decide_eq_false (by omega)
    have q1 := O.fits u m k w3 HL3.out HI.out.2.1 HI.out.2.2.1 HI.out.2.2.2
    rw [e1] at q1
    have HQ1 := @hideH _ q1
    have HE2 := @hideH _ e2
    clear q1 e1 e2
    go_wp2_with fail
    refine HQ1.out.mono ?_
    clear HQ1
    rintro e w4 ⟨rfl, k4⟩
    have q2 := O.beg u w4 (O.kept HL3.out k4 (by simp)) HI.out.2.1 (by decide)
    rw [(beg0 u).1, (beg0 u).2] at q2
    have HQ2 := @hideH _ q2
    have HK4 := @hideH _ (HK3.out.then k4)
    clear q2 k4
    go_wp2_with fail
    refine HQ2.out.mono ?_
    clear HQ2
    rintro e w5 ⟨F5, rfl, l5, fr5, k5⟩
    have HK5 := @hideH _ (HK4.out.trans k5 (fun x hx => .inr (HF.out x hx)))
    have q3 := O.fits u m k w5 l5 HI.out.2.1 HI.out.2.2.1 HI.out.2.2.2
    rw [HE2.out] at q3
    have HQ3 := @hideH _ q3
    clear q3 l5 fr5 k5
    go_wp2_with fail
    refine HQ3.out.mono ?_
    clear HQ3
    rintro e w6 ⟨rfl, k6⟩
    have HK6 := @hideH _ (HK5.out.then k6)
    clear k6
    go_wp2
    go_ret
    exact ⟨by first | rfl | (simp; done) | (simp; omega), HK6.out⟩
  have v5 : IntKind.i64.wrap (a - 99 - u) = a - 99 - u := by have ⟨ha, hu, hm, hk⟩ := HU.out; exact wrap_i64_of (by omega) (by omega)
  by_cases d5 : m ≤ a - 99 - u
  rotate_left
  · try have d5' := d5
    have e1 : fitsB a [] u m k = true := by rw [fits0]; have ⟨ha, hu, hm, hk⟩ := HU.out; exact decide_eq_true (by omega)
    have e2 : fitsB a [⟨u, []⟩] u m k = false := by rw [fits1]; have ⟨ha, hu, hm, hk⟩ := HU.out; exact decide_eq_false (by omega)
    have q1 := O.fits u m k w3 HL3.out HI.out.2.1 HI.out.2.2.1 HI.out.2.2.2
    rw [e1] at q1
    have HQ1 := @hideH _ q1
    have HE2 := @hideH _ e2
    clear q1 e1 e2
    go_wp2_with fail
    refine HQ1.out.mono ?_
    clear HQ1
    rintro e w4 ⟨rfl, k4⟩
    have q2 := O.beg u w4 (O.kept HL3.out k4 (by simp)) HI.out.2.1 (by decide)
    rw [(beg0 u).1, (beg0 u).2] at q2
    have HQ2 := @hideH _ q2
    have HK4 := @hideH _ (HK3.out.then k4)
    clear q2 k4
    go_wp2_with fail
    refine HQ2.out.mono ?_
    clear HQ2
    rintro e w5 ⟨F5, rfl, l5, fr5, k5⟩
    have HK5 := @hideH _ (HK4.out.trans k5 (fun x hx => .inr (HF.out x hx)))
    have q3 := O.fits u m k w5 l5 HI.out.2.1 HI.out.2.2.1 HI.out.2.2.2
    rw [HE2.out] at q3
    have HQ3 := @hideH _ q3
    clear q3 l5 fr5 k5
    go_wp2_with fail
    refine HQ3.out.mono ?_
    clear HQ3
    rintro e w6 ⟨rfl, k6⟩
    have HK6 := @hideH _ (HK5.out.then k6)
    clear k6
    go_wp2
    go_ret
    exact ⟨by first | rfl | (simp; done) | (simp; omega), HK6.out⟩
  have v6 : IntKind.i64.wrap (a - 99 - u - m) = a - 99 - u - m := by have ⟨ha, hu, hm, hk⟩ := HU.out; exact wrap_i64_of (by omega) (by omega)
  by_cases d6 : k ≤ a - 99 - u - m
  rotate_left
  · try have d6' := d6
    have e1 : fitsB a [] u m k = true := by rw [fits0]; have ⟨ha, hu, hm, hk⟩ := HU.out; exact decide_eq_true (by omega)
    have e2 : fitsB a [⟨u, []⟩] u m k = false := by rw [fits1]; have ⟨ha, hu, hm, hk⟩ := HU.out; exact decide_eq_false (by omega)
    have q1 := O.fits u m k w3 HL3.out HI.out.2.1 HI.out.2.2.1 HI.out.2.2.2
    rw [e1] at q1
    have HQ1 := @hideH _ q1
    have HE2 := @hideH _ e2
    clear q1 e1 e2
    go_wp2_with fail
    refine HQ1.out.mono ?_
    clear HQ1
    rintro e w4 ⟨rfl, k4⟩
    have q2 := O.beg u w4 (O.kept HL3.out k4 (by simp)) HI.out.2.1 (by decide)
    rw [(beg0 u).1, (beg0 u).2] at q2
    have HQ2 := @hideH _ q2
    have HK4 := @hideH _ (HK3.out.then k4)
    clear q2 k4
    go_wp2_with fail
    refine HQ2.out.mono ?_
    clear HQ2
    rintro e w5 ⟨F5, rfl, l5, fr5, k5⟩
    have HK5 := @hideH _ (HK4.out.trans k5 (fun x hx => .inr (HF.out x hx)))
    have q3 := O.fits u m k w5 l5 HI.out.2.1 HI.out.2.2.1 HI.out.2.2.2
    rw [HE2.out] at q3
    have HQ3 := @hideH _ q3
    clear q3 l5 fr5 k5
    go_wp2_with fail
    refine HQ3.out.mono ?_
    clear HQ3
    rintro e w6 ⟨rfl, k6⟩
    have HK6 := @hideH _ (HK5.out.then k6)
    clear k6
    go_wp2
    go_ret
    exact ⟨by first | rfl | (simp; done) | (simp; omega), HK6.out⟩
  have e1 : fitsB a [] u m k = true := by rw [fits0]; have ⟨ha, hu, hm, hk⟩ := HU.out; exact decide_eq_true (by omega)
  have e2 : fitsB a [⟨u, []⟩] u m k = true := by rw [fits1]; have ⟨ha, hu, hm, hk⟩ := HU.out; exact decide_eq_true (by omega)
  have q1 := O.fits u m k w3 HL3.out HI.out.2.1 HI.out.2.2.1 HI.out.2.2.2
  rw [e1] at q1
  have HQ1 := @hideH _ q1
  have HE2 := @hideH _ e2
  clear q1 e1 e2
  go_wp2_with fail
  refine HQ1.out.mono ?_
  clear HQ1
  rintro e w4 ⟨rfl, k4⟩
  have q2 := O.beg u w4 (O.kept HL3.out k4 (by simp)) HI.out.2.1 (by decide)
  rw [(beg0 u).1, (beg0 u).2] at q2
  have HQ2 := @hideH _ q2
  have HK4 := @hideH _ (HK3.out.then k4)
  clear q2 k4
  go_wp2_with fail
  refine HQ2.out.mono ?_
  clear HQ2
  rintro e w5 ⟨F5, rfl, l5, fr5, k5⟩
  have HK5 := @hideH _ (HK4.out.trans k5 (fun x hx => .inr (HF.out x hx)))
  have q3 := O.fits u m k w5 l5 HI.out.2.1 HI.out.2.2.1 HI.out.2.2.2
  rw [HE2.out] at q3
  have HQ3 := @hideH _ q3
  clear q3 l5 fr5 k5
  go_wp2_with fail
  refine HQ3.out.mono ?_
  clear HQ3
  rintro e w6 ⟨rfl, k6⟩
  have HK6 := @hideH _ (HK5.out.then k6)
  clear k6
  go_wp2
  go_ret
  exact ⟨by first | rfl | (simp; done) | (simp; omega), HK6.out⟩
end Go.Proofs.Ytpbcfkfhkenhpaa

