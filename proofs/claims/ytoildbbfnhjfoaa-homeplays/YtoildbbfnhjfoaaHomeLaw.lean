/-
  OWN WORK. What the laws of home lean on: same, known, into.
-/
import Derived.Test.YtoildbbfnhjfoaaRows
import Derived.Deep.QuietTactic
import Derived.BigQuiet
import Derived.Handy
import Derived.Test.YtoildbbfnhjfoaaHome
namespace Go.Proofs.Ytoildbbfnhjfoaa
open Go.RowKit
set_option linter.unusedVariables false

/-- 'string(b)' -/
theorem Bs.text {w : World} {v : Value} {l : List UInt8} (h : Bs w v l) : (Go.convert 33 9 v).run Try.prog w = .ok (.string ⟨l.toArray⟩) w := h.convert Try.underlying33 Try.underlying5 Try.underlying9
theorem same_eq (u v : Value) (l : List UInt8) (w : World) (hu : Bs w u l) (hv : Bs w v l) :
    Calls Try.prog 16 #[u, v] w fun e w' => e = .returned (.bool true) ∧ w' = w := by
  have h1 := hu.text
  have h2 := hv.text
  go_enter Try.func16, Try.ntmps16
  go_wp2
  go_ret
  exact ⟨rfl, rfl⟩
def k0 : List UInt8 := zeros 40
def k1 : List UInt8 := putL k0 258 7
theorem k_1 : putE k0 258 = 0 := by decide
theorem k_2 : putE k1 3 = 42 := by decide
theorem k_3 : valI k1 258 = 7 := by decide
theorem k_4 : findB k1 258 = true := by decide
theorem k_5 : (delL k1 258).length = 40 := by decide
theorem k_6 : ofN 7 4 100 = 3 := by decide
theorem k_7 : ofE 7 4 100 = 0 := by decide
set_option maxHeartbeats 1600000 in
theorem known_any (w : World) : Calls Try.prog 11 #[] w fun e w' => e = .returned (.bool true) ∧ Kept [] w w' := by
  have hmk := fun u => run_make_bs (P := Try.prog) u 33 5 Try.underlying33 (by kernel_rfl) 40 40 (by omega) (by omega)
  rw [show ((40 : Nat) : Int) = 40 from rfl] at hmk
  have hown0 := own_made w 5 w.heap.size 40 40 (Nat.le_refl _) (by omega) (by unfold maxLen; omega)
  have hB : Bs _ _ k0 := Bs.ofOwn hown0
  have hk0 := (Kept.refl [] w).alloc (.cells (madeCells #[.int .u8 0] 40) 5)
  have p1 := hput_any _ k0 258 7 _ hB (by omega)
  rw [k_1, show ((7 : Nat) : Int) = 7 from rfl] at p1
  go_enter Try.func11, Try.ntmps11
  go_wp2_with fail
  refine p1.mono ?_
  rintro e w1 ⟨c1, rfl, o1, kp1⟩
  have B1 : Bs w1 c1 k1 := Bs.ofOwn o1
  have p2 := hput_any _ k1 3 7 _ B1 (by omega)
  rw [k_2, show ((7 : Nat) : Int) = 7 from rfl] at p2
  go_wp2_with fail
  refine p2.mono ?_
  rintro e w2 ⟨c2, rfl, o2, kp2⟩
  have p3 := value_any _ k1 258 _ (B1.kept kp2)
  rw [k_3, k_4, show ((7 : Nat) : Int) = 7 from rfl] at p3
  go_wp2_with fail
  refine p3.mono ?_
  rintro e w3 ⟨rfl, kp3⟩
  have p4 := hdel_any _ k1 258 _ ((B1.kept kp2).kept kp3)
  rw [k_4, k_5] at p4
  go_wp2_with fail
  refine p4.mono ?_
  rintro e w4 ⟨c4, rfl, o4, kp4⟩
  obtain ⟨p, c, rfl⟩ := own_shape2 o4
  have p5 := of_any 7 4 100 w4
  rw [k_6, k_7] at p5
  go_wp2_with fail
  refine p5.mono ?_
  rintro e w5 ⟨rfl, kp5⟩
  go_wp2
  go_ret
  exact ⟨rfl, ((((hk0.then kp1).then kp2).then kp3).then kp4).then kp5⟩
theorem into_pos {n top : Int} (h : 0 < top) (hn : 0 ≤ n.tmod top) : n.tmod top = n % top := by
  have h1 := Int.tmod_lt_of_pos n h
  have h2 := Int.tmod_add_mul_tdiv n top
  have h3 : n % top = n.tmod top % top := by rw [← Int.add_mul_emod_self_left (n.tmod top) top (n.tdiv top), h2]
  rw [h3, Int.emod_eq_of_lt hn h1]
theorem into_neg {n top : Int} (h : 0 < top) (hn : n.tmod top < 0) : n.tmod top + top = n % top := by
  have h1 := Int.lt_tmod_of_pos n h
  have h2 := Int.tmod_add_mul_tdiv n top
  have h3 : n % top = n.tmod top % top := by rw [← Int.add_mul_emod_self_left (n.tmod top) top (n.tdiv top), h2]
  have h4 : n.tmod top % top = (n.tmod top + top * 1) % top := (Int.add_mul_emod_self_left _ _ _).symm
  rw [h3, h4, Int.mul_one, Int.emod_eq_of_lt (by omega) (by omega)]
theorem into_any (n top : Int) (w : World) (h1 : 1 ≤ top) (h2 : top ≤ 1152921504606846976) :
    Calls Try.prog 12 #[.int .i64 n, .int .i64 top] w fun e w' => e = .returned (.int .i64 (n % top)) ∧ w' = w := by
  have c0 : ¬ top = 0 := by omega
  have c1 : ¬ top = -1 := by omega
  obtain ⟨r, hr⟩ : ∃ r, r = n % top := ⟨_, rfl⟩
  rw [← hr]
  by_cases hn : n.tmod top < 0
  · have e1 := into_neg (by omega) hn
    have e2 : wrap64 (n.tmod top + top) = r := by rw [e1, hr]; exact IntWalk.wrap64_in _ (by have := Int.emod_nonneg n c0; have := Int.emod_lt_of_pos n (show 0 < top by omega); omega)
    clear hr e1
    go_enter Try.func12, Try.ntmps12
    go_wp2
    go_ret
    exact ⟨by rw [← e2]; rfl, rfl⟩
  · have e1 := into_pos (show 0 < top by omega) (Int.not_lt.1 hn)
    rw [← hr] at e1
    clear hr
    go_enter Try.func12, Try.ntmps12
    go_wp2
    go_ret
    exact ⟨by rw [← e1]; rfl, rfl⟩
theorem into_range (n : Int) {top : Int} (h : 1 ≤ top) : 0 ≤ n % top ∧ n % top < top := ⟨Int.emod_nonneg n (by omega), Int.emod_lt_of_pos n (by omega)⟩
end Go.Proofs.Ytoildbbfnhjfoaa
