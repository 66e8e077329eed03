/-
  OWN WORK. The walk of OctetPuts.
-/
import Derived.Test.YtppdidimhchlgaaRows
import Derived.Test.YtppdidimhchlgaaKnown
import Derived.Test.YtppdidimhchlgaaGets
namespace Go.Proofs.Ytppdidimhchlgaa
open Go.RowKit
set_option linter.unusedVariables false
set_option maxHeartbeats 800000 in
theorem octetPuts_walk (v : Value) (l : List UInt8) (x : Nat) (w : World) (hv : Bs w v l) (hl : l.length ≤ 140737488354000) (hx : x < 18446744073709551616) :
    Calls Try.prog 8 #[v, .int .u64 (x : Int)] w fun e w' => e = .returned (.bool true) ∧ Kept [] w w' := by
  have HX : Hid (x < 18446744073709551616) := hx
  clear hx
  go_enter Try.func8, Try.ntmps8
  go_wp2_with fail
  refine (known_any _).mono ?_
  rintro e w1 ⟨rfl, hk1⟩
  have hv1 := hv.kept hk1
  go_wp2_with fail
  refine (puts_any _ l x _ hv1 (by omega) HX.out).mono ?_
  rintro e w2 ⟨rfl, hk2⟩
  have hv2 := hv1.kept hk2
  go_wp2_with fail
  refine (gets_any _ l _ hv2).mono ?_
  rintro e w3 ⟨rfl, hw3⟩
  have hk3 : Kept [] w2 w3 := by rw [hw3]; exact Kept.refl _ _
  have hv3 := hv2.kept hk3
  clear hw3
  go_wp2_with fail
  refine (put64_any _ l x _ hv3 (by omega) (by have := HX.out; omega)).mono ?_
  rintro e w4 ⟨v4, rfl, hown4, hk4⟩
  have hb4 := Bs.ofOwn hown4
  clear hown4
  go_wp2_with fail
  refine (gets_any _ _ _ hb4).mono ?_
  rintro e w5 ⟨rfl, hw5⟩
  have hk5 : Kept [] w w5 := by rw [hw5]; exact ((hk1.then hk2).then hk3).then hk4
  clear hw5 hk1 hk2 hk3 hk4 hv1 hv2 hv3 hb4
  go_wp2
  go_ret
  exact ⟨rfl, hk5⟩
end Go.Proofs.Ytppdidimhchlgaa
