/-
  OWN WORK. Contracts of the small functions: same, width, lowestFirst, Clone.
-/
import Derived.Test.YtoildbbfnhjfoaaRows
import Derived.Test.YtoildbbfnhjfoaaLib
import Derived.Test.YtoildbbfnhjfoaaNum
import Derived.Test.YtoildbbfnhjfoaaLaws
namespace Go.Proofs.Ytoildbbfnhjfoaa
open Go.RowKit
set_option linter.unusedVariables false

set_option maxHeartbeats 400000 in
theorem low_any (v : Value) (l : List UInt8) (w : World) (hv : Bs w v l) (h8 : l.length ≤ 8) :
    Calls Try.prog 59 #[v] w fun e w' => e = .returned (.int .u64 (low l : Int)) ∧ w' = w := by
  by_cases h0 : l.length = 0
  · obtain rfl : l = [] := List.eq_nil_of_length_eq_zero h0
    obtain ⟨p, c, rfl, -⟩ := hv
    go_enter Try.func59, Try.ntmps59
    go_wp2
    refine wp_loop_rounds 1 ?_
    rw [rounds_succ]
    go_wp2
    go_ret
    exact ⟨rfl, rfl⟩
  · obtain ⟨b, o, c, rfl, hc1, hc2, hb, hcell⟩ := hv.pos (by omega)
    go_enter Try.func59, Try.ntmps59
    go_wp2
    go_loop [3, 8] (fun s i => ∃ k : Nat, k ≤ l.length ∧ i = .int .i64 k ∧ s = .int .u64 (low (l.take k) : Int)) (fun _ i => l.length - (intOf i).toNat)
    case atStart => exact ⟨0, Nat.zero_le _, rfl, rfl⟩
    case round =>
      obtain ⟨k, hk, rfl, rfl⟩ := hrel
      by_cases hlt : k < l.length
      · have hck := hcell k l[k] (List.getElem?_eq_getElem hlt)
        go_wp2
        go_round
        case rel => exact ⟨k + 1, by omega, by go_num, by rw [low_or l k hlt h8]⟩
        case measure => simp [intOf]; omega
      · go_wp2
        go_ret
        have : l.take k = l := List.take_of_length_le (by omega)
        rw [this]
        exact ⟨rfl, rfl⟩

end Go.Proofs.Ytoildbbfnhjfoaa
