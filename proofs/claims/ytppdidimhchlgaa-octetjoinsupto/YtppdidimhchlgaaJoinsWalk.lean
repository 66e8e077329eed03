/-
  OWN WORK. The walk of OctetJoins.
-/
import Derived.Test.YtppdidimhchlgaaRows
import Derived.Test.YtppdidimhchlgaaKnown
namespace Go.Proofs.Ytppdidimhchlgaa
open Go.RowKit
set_option linter.unusedVariables false
set_option maxHeartbeats 800000 in
theorem joins_walk (v : Value) (ls : List (List UInt8)) (w : World) (hv : Bss w v ls) (ht : (flat ls).length ≤ 140737488355328) :
    Calls Try.prog 3 #[v] w fun e w' => e = .returned (.bool true) ∧ Kept [] w w' := by
  go_enter Try.func3, Try.ntmps3
  go_wp2_with fail
  refine (known_any _).mono ?_
  rintro e w1 ⟨rfl, hk1⟩
  have hv1 := hv.kept hk1
  go_wp2_with fail
  refine (join_any _ ls _ hv1 ht).mono ?_
  rintro e w2 ⟨v2, rfl, hown2, hk2⟩
  have hv2 := hv1.kept hk2
  have hb2 := Bs.ofOwn hown2
  clear hown2
  go_wp2_with fail
  refine (refJoin_any _ ls _ hv2 ht).mono ?_
  rintro e w3 ⟨v3, rfl, hown3, hk3⟩
  have hb3 := Bs.ofOwn hown3
  have hb2' := hb2.kept hk3
  clear hown3 hb2
  go_wp2_with fail
  refine (same_any _ _ (flat ls) (flat ls) _ hb2' hb3).mono ?_
  rintro e w4 ⟨rfl, hw4⟩
  have hk4 : Kept [] w w4 := by rw [hw4]; exact (hk1.then hk2).then hk3
  clear hw4 hb2' hb3
  rw [show (flat ls == flat ls) = true from by simp]
  go_wp2
  go_ret
  exact ⟨rfl, hk4⟩
end Go.Proofs.Ytppdidimhchlgaa
