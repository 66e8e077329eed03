import Derived.Test.YtocpagpkpibmaaaGreatDoorC5
/-
  OWN WORK (by mkpnn.py). The document's New with its blocks; the law's alive (layer 18), for any State.
-/
namespace Go.Proofs.YtocpagpkpibmaaaGreatDoor
open Go.RowKit
set_option linter.unusedVariables false
set_option linter.unusedSimpArgs false

theorem fresh_go {w a b : World} {F F' : List Nat} (hF : ∀ x ∈ F, w.heap.size ≤ x) (k : Kept [] w a) (f : Fr a F F') (k' : Kept F a b) : (∀ x ∈ F', w.heap.size ≤ x) ∧ Kept [] w b :=
  ⟨fun x hx => by
    rcases f x hx with q | q
    · exact hF x q
    · have := k.size; omega, k.trans k' (fun y hy => .inr (hF y hy))⟩
/-- the law's own Config -/
def c18 : Cf := ⟨2, 2, 1024, 2, 2, 100⟩
def a0 : St := ⟨[], [], 0⟩
def a1 : St := begS c18 a0 3
def a2 : St := putS c18 a1 3 8 5
def a3 : St := begS c18 a2 3
def a4 : St := getS c18 a3 3 8
theorem c18_may : mayC c18 := by unfold mayC c18; decide
theorem a_ans : begE c18 a0 3 = 0 ∧ putE c18 a1 3 8 5 = 0 ∧ begE c18 a2 3 = 160 ∧ a3.used = 90 ∧ keptO a3.opn = 154 ∧ getA c18 a3 3 8 = (5, true, 0) ∧ endE a4 3 = 0 := by decide +kernel
theorem a_small : small a0 ∧ small a1 ∧ small a2 ∧ small a3 ∧ small a4 := by unfold small; decide +kernel
theorem small_any (w : World) : Calls Tryz.prog 31 #[] w fun e w' => e = .returned (.agg #[.int .i64 c18.pages, .int .i64 c18.slots, .int .i64 c18.log, .int .i64 c18.frames, .int .i64 c18.table, .int .i64 c18.keys]) ∧ Kept [] w w' := by
  go_enter Tryz.func31, Tryz.ntmps31
  go_wp2
  obtain ⟨w1, hw1⟩ : ∃ wx, wx = w.alloc (.cells #[.int .i64 2, .int .i64 2, .int .i64 1024, .int .i64 2, .int .i64 2, .int .i64 100] 25) := ⟨_, rfl⟩
  have B : Blk w1 w.heap.size 25 [.int .i64 2, .int .i64 2, .int .i64 1024, .int .i64 2, .int .i64 2, .int .i64 100] := by rw [hw1]; exact Blk.new w _ _
  have k1 : Kept [] w w1 := by rw [hw1]; exact (Kept.refl [] w).alloc _
  rw [← hw1]
  refine bodyPost_ret (v := .agg #[.int .i64 2, .int .i64 2, .int .i64 1024, .int .i64 2, .int .i64 2, .int .i64 100]) (results_cell_row Tryz.results31 _ w1 w.heap.size 25 _ (0, 0) _ (by rfl) B Tryz.underlying25 rfl (by kernel_rfl)) rfl ?_
  exact ⟨rfl, k1⟩
variable {Ks : List Nat} {Vr : World → Prop} {Pn : World → Nat → List Nat → Cf → St → Prop} (O : PnOps Ks Vr Pn)
include O
set_option maxRecDepth 20000 in
set_option maxHeartbeats 6400000 in
theorem alive_any (w : World) (hv : Vr w) : Calls Tryz.prog 9 #[] w fun e w' => e = .returned (.bool true) ∧ Kept [] w w' := by
  have HA := @hideH _ a_ans
  have HV := @hideH _ hv
  clear hv
  have HSM := @hideH _ a_small
  go_enter Tryz.func9, Tryz.ntmps9
  go_wp2_with fail
  refine (small_any _).mono ?_
  rintro e w1 ⟨rfl, k1⟩
  go_wp2_with fail
  refine (O.new c18 _ (O.vkept HV.out k1 (by simp))).mono ?_
  rintro e w2 (⟨-, g, F, rfl, p, hF, k2⟩ | ⟨hm, -⟩)
  rotate_left
  · exact absurd c18_may hm
  have HF := @hideH _ (show (∀ x ∈ F, w.heap.size ≤ x) ∧ Kept [] w w2 from ⟨fun x hx => Nat.le_trans k1.size (hF x hx), k1.then k2⟩)
  have HP := @hideH _ (show Pn w2 g F c18 a0 from p)
  clear p hF k1 k2
  go_wp2_with fail
  refine (num_any _ _).mono ?_
  rintro e wb ⟨rfl, hwb⟩
  rw [hwb]
  clear hwb

  go_wp2_with fail
  refine (O.begin_ 3 _ (O.vkept HV.out HF.out.2 (by simp)) HP.out HSM.out.1 (by unfold I64; omega)).mono ?_
  rintro e w3 ⟨F', rfl, p', f', k'⟩
  replace HF := @hideH _ (fresh_go HF.out.1 HF.out.2 f' k')
  replace HP := @hideH _ (show Pn w3 g F' c18 a1 from p')
  clear p' f' k' F w2
  obtain ⟨F, rfl⟩ : ∃ F, F = F' := ⟨_, rfl⟩
  rw [HA.out.1]
  go_wp2_with fail
  refine (num_any _ _).mono ?_
  rintro e wb ⟨rfl, hwb⟩
  rw [hwb]
  clear hwb
  go_wp2_with fail
  refine (O.put 3 8 5 _ (O.vkept HV.out HF.out.2 (by simp)) HP.out HSM.out.2.1 (by unfold I64; omega) (by unfold I64; omega) (by unfold u64; omega)).mono ?_
  rintro e w4 ⟨F', rfl, p', f', k'⟩
  replace HF := @hideH _ (fresh_go HF.out.1 HF.out.2 f' k')
  replace HP := @hideH _ (show Pn w4 g F' c18 a2 from p')
  clear p' f' k' F w3
  obtain ⟨F, rfl⟩ : ∃ F, F = F' := ⟨_, rfl⟩
  rw [HA.out.2.1]
  go_wp2_with fail
  refine (num_any _ _).mono ?_
  rintro e wb ⟨rfl, hwb⟩
  rw [hwb]
  clear hwb
  go_wp2_with fail
  refine (O.begin_ 3 _ (O.vkept HV.out HF.out.2 (by simp)) HP.out HSM.out.2.2.1 (by unfold I64; omega)).mono ?_
  rintro e w5 ⟨F', rfl, p', f', k'⟩
  replace HF := @hideH _ (fresh_go HF.out.1 HF.out.2 f' k')
  replace HP := @hideH _ (show Pn w5 g F' c18 a3 from p')
  clear p' f' k' F w4
  obtain ⟨F, rfl⟩ : ∃ F, F = F' := ⟨_, rfl⟩
  rw [HA.out.2.2.1]
  go_wp2_with fail
  refine (num_any _ _).mono ?_
  rintro e wb ⟨rfl, hwb⟩
  rw [hwb]
  clear hwb
  go_wp2_with fail
  refine (O.used _ (O.vkept HV.out HF.out.2 (by simp)) HP.out).mono ?_
  rintro e w6 ⟨rfl, k6⟩
  replace HF := @hideH _ (And.intro HF.out.1 (HF.out.2.then k6))
  replace HP := @hideH _ (O.kept HP.out k6 (by simp))
  clear k6 w5
  rw [HA.out.2.2.2.1, HA.out.2.2.2.2.1]
  go_wp2_with fail
  refine (O.get 3 8 _ (O.vkept HV.out HF.out.2 (by simp)) HP.out HSM.out.2.2.2.1 (by unfold I64; omega) (by unfold I64; omega)).mono ?_
  rintro e w7 ⟨F', rfl, p', f', k'⟩
  replace HF := @hideH _ (fresh_go HF.out.1 HF.out.2 f' k')
  replace HP := @hideH _ (show Pn w7 g F' c18 a4 from p')
  clear p' f' k' F w6
  obtain ⟨F, rfl⟩ : ∃ F, F = F' := ⟨_, rfl⟩
  rw [HA.out.2.2.2.2.2.1]
  go_wp2_with fail
  refine (num_any _ _).mono ?_
  rintro e wb ⟨rfl, hwb⟩
  rw [hwb]
  clear hwb
  go_wp2_with fail
  refine (O.commit 3 _ (O.vkept HV.out HF.out.2 (by simp)) HP.out HSM.out.2.2.2.2 (by unfold I64; omega)).mono ?_
  rintro e w8 ⟨F', rfl, p', f', k'⟩
  replace HF := @hideH _ (fresh_go HF.out.1 HF.out.2 f' k')
  replace HP := @hideH _ (show Pn w8 g F' c18 (comS a4 3) from p')
  clear p' f' k' F w7
  obtain ⟨F, rfl⟩ : ∃ F, F = F' := ⟨_, rfl⟩
  rw [HA.out.2.2.2.2.2.2]
  go_wp2_with fail
  refine (num_any _ _).mono ?_
  rintro e wb ⟨rfl, hwb⟩
  rw [hwb]
  clear hwb
  go_wp2
  go_ret
  exact ⟨rfl, HF.out.2⟩
end Go.Proofs.YtocpagpkpibmaaaGreatDoor

