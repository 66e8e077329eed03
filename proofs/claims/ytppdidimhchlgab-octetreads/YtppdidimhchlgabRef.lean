/-
  OWN WORK. The document's Put and Get.
-/
import Derived.Test.YtppdidimhchlgabRows
import Derived.Test.YtppdidimhchlgabGet
namespace Go.Proofs.Ytppdidimhchlgab
open Go.RowKit
set_option linter.unusedVariables false

theorem refGet_short (v : Value) (l : List UInt8) (n : Nat) (w : World) (hv : Bs w v l) (hl : l.length < n) :
    Calls Try.prog 26 #[v, .int .i64 (n : Int)] w fun e w' => e = .returned (.tuple #[.int .u64 0, .int .i64 10]) ∧ w' = w := by
  obtain ⟨p, c, rfl, -⟩ := hv
  have hl' : (l.length : Int) < (n : Int) := by omega
  go_enter Try.func26, Try.ntmps26
  go_wp2
  go_ret2
  exact ⟨rfl, rfl⟩
set_option maxHeartbeats 800000 in
theorem refGet_any (v : Value) (l : List UInt8) (n : Nat) (w : World) (hv : Bs w v l) (hl : n ≤ l.length) (h1 : 1 ≤ n) (h8 : n ≤ 8) :
    Calls Try.prog 26 #[v, .int .i64 (n : Int)] w fun e w' => e = .returned (.tuple #[.int .u64 (low (l.take n) : Int), .int .i64 0]) ∧ w' = w := by
  obtain ⟨b, o, c, rfl, hc1, hc2, hb, hcell⟩ := hv.pos (by omega)
  have hl' : ¬ (l.length : Int) < (n : Int) := by omega
  go_enter Try.func26, Try.ntmps26
  go_wp2
  go_loop [6, 7] (fun s i => ∃ k z : Nat, k ≤ n ∧ i = .int .i64 ((k : Int) - 1) ∧ s = .int .u64 (z : Int) ∧ Hid (z = low ((l.take n).drop k))) (fun _ i => (intOf i + 1).toNat)
  case atStart => exact ⟨n, 0, Nat.le_refl _, rfl, rfl, (show 0 = low ((l.take n).drop n) by rw [List.drop_eq_nil_of_le (by simp; omega)]; rfl)⟩
  case round =>
    obtain ⟨k, z, hk, rfl, rfl, hz⟩ := hrel
    by_cases hlt : k = 0
    · subst hlt
      go_wp2
      go_ret2
      have := hz.out
      rw [List.drop_zero] at this
      subst this
      exact ⟨rfl, rfl⟩
    · obtain ⟨j, rfl⟩ : ∃ j, k = j + 1 := ⟨k - 1, by omega⟩
      have hck := hcell j l[j] (List.getElem?_eq_getElem (by omega))
      go_wp2
      go_round
      case rel =>
        obtain ⟨hb1, hb2⟩ := get_bound l n j hl (by omega) h8
        rw [← hz.out] at hb1
        exact ⟨j, _, by omega, rfl, by rw [get_step z l[j] (by omega)], hb1.symm⟩
      case measure => simp [intOf]
end Go.Proofs.Ytppdidimhchlgab
