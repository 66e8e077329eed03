/-
  OWN WORK. tidemarklaw01.known: true, whatever the world.
-/
import Derived.Test.YtppdidimhchlgaaRows
import Derived.Test.YtppdidimhchlgaaPut
import Derived.Test.YtppdidimhchlgaaReader
import Derived.Test.YtppdidimhchlgaaJoin
namespace Go.Proofs.Ytppdidimhchlgaa
open Go.RowKit
set_option linter.unusedVariables false

set_option maxHeartbeats 1600000 in
theorem known_any (w : World) : Calls Try.prog 9 #[] w fun e w' => e = .returned (.bool true) ∧ Kept [] w w' := by
  go_enter Try.func9, Try.ntmps9
  go_wp2_with fail
  refine (put16_any _ [9] 258 _ (Bs.lit w 5 [9] _ rfl (by decide)) (by decide) (by decide)).mono ?_
  rintro e w1 ⟨b1, rfl, hown1, hk1⟩
  have hb1 := Bs.ofOwn hown1
  have hk1' : Kept [] w w1 := ((Kept.refl [] w).alloc _).then hk1
  clear hown1 hk1
  go_wp2_with fail
  refine (get16_any _ [2, 1, 7] _ (Bs.lit w1 5 [2, 1, 7] _ rfl (by decide)) (by decide)).mono ?_
  rintro e w2 ⟨rfl, hw2⟩
  have hk2 : Kept [] w1 w2 := by rw [hw2]; exact (Kept.refl _ _).alloc _
  clear hw2
  rw [show ((low (List.take 2 [2, 1, 7]) : Nat) : Int) = 258 from rfl]
  go_wp2_with fail
  refine (newReader_any _ [7] _ (Bs.lit w2 5 [7] _ rfl (by decide)) (by decide)).mono ?_
  rintro e w3 ⟨g, rfl, hg3, hr3, hk3⟩
  have hk3' : Kept [] w2 w3 := ((Kept.refl [] w2).alloc _).then hk3
  clear hk3
  go_wp2_with fail
  refine (number_any g [7] 1 _ hr3 (by decide) (by decide)).mono ?_
  rintro e w4 ⟨rfl, hr4, hk4⟩
  rw [show ((low (List.take 1 [7]) : Nat) : Int) = 7 from rfl]
  go_wp2_with fail
  refine (number_short g [] 1 _ hr4 (by decide) (by decide)).mono ?_
  rintro e w5 ⟨rfl, hw5⟩
  have hk5 : Kept [] w4 w5 := by rw [hw5]; exact Kept.refl _ _
  clear hw5
  have hg : w.heap.size ≤ g := by have := hk1'.size; have := hk2.size; simp at hg3; omega
  have hw5 : Kept [] w w5 := ((hk1'.then hk2).then hk3').trans (hk4.then hk5) (by simp; exact hg)
  have hb5 : Bs w5 b1 ([9] ++ lay 2 258) := ((hb1.kept (hk2.then hk3')).keptBox hk4 (by intro x hx; simp at hx; subst hx; exact .inl hr3.box)).kept hk5
  clear hk1' hk2 hk3' hk4 hk5 hr3 hr4 hg3 hg hb1
  go_wp2_with fail
  refine (same_any _ _ ([9] ++ lay 2 258) [9, 2, 1] _ (hb5.kept ((Kept.refl [] w5).alloc _)) (Bs.lit w5 5 [9, 2, 1] _ rfl (by decide))).mono ?_
  rintro e w6 ⟨rfl, hw6⟩
  have hk6 : Kept [] w w6 := by rw [hw6]; exact hw5.alloc _
  clear hw6 hw5 hb5
  rw [show (([9] ++ lay 2 258 : List UInt8) == [9, 2, 1]) = true from by decide]
  go_wp2_with fail
  refine (join_any _ [[1], [2]] _ (Bss.lit _ 25 _ [[1], [2]] rfl (by decide) (by
    intro i v l h1 h2
    match i, h1, h2 with
    | 0, h1, h2 => simp at h1 h2; subst h1; subst h2; exact (Bs.lit w6 5 [1] _ rfl (by decide)).kept ((Kept.refl [] _).alloc _)
    | 1, h1, h2 => simp at h1 h2; subst h1; subst h2; exact Bs.litAt _ 5 [2] _ rfl (by decide) _ (by simp)
    | i + 2, h1, h2 => simp at h1) _ (by simp)) (by decide)).mono ?_
  rintro e w7 ⟨v7, rfl, hown7, hk7⟩
  have hb7 := Bs.ofOwn hown7
  have hk7' : Kept [] w w7 := (((hk6.alloc _).alloc _).alloc _).then hk7
  clear hown7 hk7 hk6
  go_wp2_with fail
  refine (same_any _ _ (flat [[1], [2]]) [1, 2] _ (hb7.kept ((Kept.refl [] w7).alloc _)) (Bs.lit w7 5 [1, 2] _ rfl (by decide))).mono ?_
  rintro e w8 ⟨rfl, hw8⟩
  have hk8 : Kept [] w w8 := by rw [hw8]; exact hk7'.alloc _
  rw [show ((flat [[1], [2]] : List UInt8) == [1, 2]) = true from by decide]
  clear hw8
  go_wp2
  go_ret
  exact ⟨rfl, hk8⟩
end Go.Proofs.Ytppdidimhchlgaa
