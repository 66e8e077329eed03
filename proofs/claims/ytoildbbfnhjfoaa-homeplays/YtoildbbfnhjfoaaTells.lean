/-
  OWN WORK. tells.
-/
import Derived.Test.YtoildbbfnhjfoaaRows
import Derived.Deep.QuietTactic
import Derived.BigQuiet
import Derived.Test.YtoildbbfnhjfoaaHeldMem
namespace Go.Proofs.Ytoildbbfnhjfoaa
open Go.RowKit
set_option linter.unusedVariables false

theorem Rep.says {L : List UInt8} {hs : List (Nat × Nat × Nat)} {n : Nat} (h : Rep L hs n) {i : Nat} {x : Nat × Nat × Nat} (hx : hs[i]? = some x) : findI L (x.1 : Int) = x.2.2 ∧ findB L (x.1 : Int) = true ∧ valI L (x.1 : Int) = x.2.1 := by
  have hf := h.find hx
  exact ⟨by unfold findI; rw [hf]; rfl, by unfold findB; rw [hf]; rfl, by unfold valI; rw [hf]; exact (h.held i x hx).2.2.2⟩
/-- a key that is asked for: there just if the list has it -/
theorem Rep.asks {L : List UInt8} {hs : List (Nat × Nat × Nat)} {n : Nat} (h : Rep L hs n) {key : Nat} {z : Int} (hz : SpotIs hs key z) : findB L (key : Int) = decide (0 ≤ z) := by
  rcases hz with ⟨rfl, hno⟩ | ⟨i, x, rfl, hx, rfl⟩
  · unfold findB
    rw [h.nofind hno]
    rfl
  · rw [(h.says hx).2.1]
    simp
set_option maxHeartbeats 1600000 in
theorem tells_any (u v : Value) (L : List UInt8) (hs : List (Nat × Nat × Nat)) (n key : Nat) (w : World) (base : Nat) (hr : Rep L hs n) (hu : Bs w u L) (h : Hs w base v hs) (hl : hs.length ≤ 8) :
    Calls Try.prog 22 #[u, v, .int .i64 (key : Int)] w fun e w' => e = .returned (.bool true) ∧ Kept [] w w' := by
  obtain ⟨p, c, rfl, h3, h4⟩ := Row.shape h
  go_enter Try.func22, Try.ntmps22
  go_wp2
  go_loopw [7] (fun i wr => ∃ k : Nat, k ≤ hs.length ∧ i = .int .i64 (k : Int) ∧ Kept [] w wr) (fun i _ => hs.length - (intOf i).toNat)
  case atStart => exact ⟨0, Nat.zero_le _, rfl, Kept.refl [] _⟩
  case round =>
    obtain ⟨k, hk, rfl, kw⟩ := hrel
    by_cases hlt : k < hs.length
    · obtain ⟨g, rfl, h6, h7, h8, h9⟩ := Row.pos (h.kept kw (by simp)) (by omega)
      obtain ⟨x, hx⟩ : ∃ x, hs[k]? = some x := ⟨_, List.getElem?_eq_getElem hlt⟩
      obtain ⟨d0, d1, d2⟩ := hcells_at hx
      have c0 := h8 _ _ d0
      have c1 := h8 _ _ d1
      have c2 := h8 _ _ d2
      obtain ⟨s1, s2, s3⟩ := hr.says hx
      have f1 := find_any u L (x.1 : Int) wr (hu.kept kw)
      have f2 := fun w' hw => value_any u L (x.1 : Int) w' hw
      rw [s1, s2] at f1
      rw [s2, s3] at f2
      clear h8 h9 hx d0 d1 d2 s1 s2 s3
      go_wp2_with fail
      refine f1.mono ?_
      rintro e w1 ⟨rfl, k1⟩
      have c0' := k1.cell c0 (by simp)
      go_wp2_with fail
      refine (f2 _ ((hu.kept kw).kept k1)).mono ?_
      rintro e w2 ⟨rfl, k2⟩
      have kk := (kw.then k1).then k2
      have c1' := (k1.then k2).cell c1 (by simp)
      have c2' := (k1.then k2).cell c2 (by simp)
      clear c0 c0' c1 c2
      go_wp2
      go_roundw
      case rel => exact ⟨k + 1, by omega, by go_num, kk⟩
      case measure => simp [intOf]; omega
    · obtain rfl : k = hs.length := by omega
      go_wp2_with fail
      refine (find_any u L (key : Int) _ (hu.kept kw)).mono ?_
      rintro e w1 ⟨rfl, k1⟩
      have kk1 := kw.then k1
      go_wp2_with fail
      refine (value_any u L (key : Int) _ (hu.kept kk1)).mono ?_
      rintro e w2 ⟨rfl, k2⟩
      have kk2 := kk1.then k2
      go_wp2_with fail
      refine (spot_any _ hs key _ base (h.kept kk2 (by simp)) hl).mono ?_
      rintro e w3 ⟨z, rfl, hz, rfl⟩
      have ha := hr.asks hz
      rw [ha]
      clear ha hz
      by_cases hz0 : 0 ≤ z
      · go_wp2
        go_ret
        exact ⟨rfl, kk2⟩
      · go_wp2
        go_ret
        exact ⟨rfl, kk2⟩
end Go.Proofs.Ytoildbbfnhjfoaa
