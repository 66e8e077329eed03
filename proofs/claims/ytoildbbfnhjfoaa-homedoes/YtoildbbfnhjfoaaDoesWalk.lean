/-
  OWN WORK. HomeDoes.
-/
import Derived.Test.YtoildbbfnhjfoaaRows
import Derived.Test.YtoildbbfnhjfoaaHomeLaw
namespace Go.Proofs.Ytoildbbfnhjfoaa
open Go.RowKit
set_option linter.unusedVariables false

set_option maxHeartbeats 1600000 in
theorem homeDoes_walk (u : Value) (a : List UInt8) (key : Int) (v : Nat) (w : World) (hu : Bs w u a) (hv : v < 18446744073709551616) : Calls Try.prog 8 #[u, .int .i64 key, .int .u64 (v : Int)] w fun e w' => e = .returned (.bool true) ∧ Kept [] w w' := by
  have f1 := fun w' hw => find_any u a key w' hw
  have f2 := fun w' hw => refFind_any u a key w' hw
  have v1 := fun w' hw => value_any u a key w' hw
  have v2 := fun w' hw => refValue_any u a key w' hw
  have q1 := fun w' hw => hput_any u a key v w' hw hv
  have q2 := fun w' hw => refHomePut_any u a key v w' hw hv
  have d1 := fun w' hw => hdel_any u a key w' hw
  have d2 := fun w' hw => refDelete_any u a key w' hw
  clear hv
  generalize findI a key = FI at *
  generalize findB a key = FB at *
  generalize valI a key = VI at *
  generalize putE a key = PE at *
  generalize putL a key v = PL at *
  generalize delL a key = DL at *
  go_enter Try.func8, Try.ntmps8
  go_wp2_with fail
  refine (f1 _ hu).mono ?_
  rintro e w1 ⟨rfl, k1⟩
  go_wp2_with fail
  refine (f2 _ (hu.kept k1)).mono ?_
  rintro e w2 ⟨rfl, k2'⟩
  have k2 := k1.then k2'
  go_wp2_with fail
  refine (v1 _ (hu.kept k2)).mono ?_
  rintro e w3 ⟨rfl, k3'⟩
  have k3 := k2.then k3'
  go_wp2_with fail
  refine (v2 _ (hu.kept k3)).mono ?_
  rintro e w4 ⟨rfl, k4'⟩
  have k4 := k3.then k4'
  go_wp2_with fail
  refine (known_any _).mono ?_
  rintro e w5 ⟨rfl, k5'⟩
  have k5 := k4.then k5'
  clear k1 k2 k2' k3 k3' k4 k4' k5'
  go_wp2_with fail
  refine (q1 _ (hu.kept k5)).mono ?_
  rintro e w6 ⟨c6, rfl, o6, k6'⟩
  have k6 := k5.then k6'
  have B6 : Bs w6 c6 PL := Bs.ofOwn o6
  go_wp2_with fail
  refine (q2 _ (hu.kept k6)).mono ?_
  rintro e w7 ⟨c7, rfl, o7, k7'⟩
  have k7 := k6.then k7'
  have B7 : Bs w7 c7 PL := Bs.ofOwn o7
  go_wp2_with fail
  refine (d1 _ (hu.kept k7)).mono ?_
  rintro e w8 ⟨c8, rfl, o8, k8'⟩
  have k8 := k7.then k8'
  have B8 : Bs w8 c8 DL := Bs.ofOwn o8
  go_wp2_with fail
  refine (d2 _ (hu.kept k8)).mono ?_
  rintro e w9 ⟨c9, rfl, o9, k9'⟩
  have k9 := k8.then k9'
  have B9 : Bs w9 c9 DL := Bs.ofOwn o9
  go_wp2_with fail
  refine (same_eq _ _ PL _ (((B6.kept k7').kept k8').kept k9') ((B7.kept k8').kept k9')).mono ?_
  rintro e w' ⟨rfl, rfl⟩
  go_wp2_with fail
  refine (same_eq _ _ DL _ (B8.kept k9') B9).mono ?_
  rintro e w' ⟨rfl, rfl⟩
  go_wp2
  go_ret
  exact ⟨rfl, k9⟩
end Go.Proofs.Ytoildbbfnhjfoaa
