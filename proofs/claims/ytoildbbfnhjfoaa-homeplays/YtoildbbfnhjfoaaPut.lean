/-
  OWN WORK. octet.Put at its four widths.
-/
import Derived.Test.YtoildbbfnhjfoaaRows
import Derived.Test.YtoildbbfnhjfoaaW1
import Derived.Test.YtoildbbfnhjfoaaWidth
namespace Go.Proofs.Ytoildbbfnhjfoaa
open Go.RowKit
set_option linter.unusedVariables false

set_option maxHeartbeats 800000 in
theorem put32_any (v : Value) (l : List UInt8) (x : Nat) (w : World) (hv : Bs w v l) (hl : l.length ≤ 140737488355000) (hx : (x : Int) < 4294967296) :
    Calls Try.prog 42 #[v, .int .u32 (x : Int)] w fun e w' => ∃ v', e = .returned v' ∧ w'.ownsRow w.heap.size 5 1 v' (l.length + 4) (u8s (l ++ lay 4 x)) ∧ Kept [] w w' := by
  have hmk := fun u => run_make_bs (P := Try.prog) u 33 5 Try.underlying33 (by kernel_rfl) l.length (l.length + 4) (by omega) (by omega)
  have ec : ((l.length + 4 : Nat) : Int) = (l.length : Int) + 4 := by omega
  rw [ec] at hmk
  have hown0 := own_made w 5 w.heap.size l.length (l.length + 4) (Nat.le_refl _) (by omega) (by unfold maxLen; omega)
  have hB : Bs (w.alloc (.cells (madeCells #[.int .u8 0] (l.length + 4)) 5)) v l := hv.kept ((Kept.refl [] w).alloc _)
  have hwr : IntKind.u64.wrap (x : Int) = (x : Int) := by rw [IntKind.wrap_u64]; omega
  clear hx
  obtain ⟨p, c, rfl, h1, h2, h3, h4⟩ := hv
  go_enter Try.func42, Try.ntmps42
  go_wp2_with (first | (go_at_call 55; refine (width32_any _).mono ?_; rintro e w' ⟨rfl, rfl⟩) | (refine wpList_copy_bs rfl (.tmp 16) (.tmp 17) 33 rfl _ 5 Try.underlying33 (by kernel_rfl) _ _ _ (by rfl) hown0 _ l (by rfl) hB rfl ?_; intro w1 hown1 hg1))
  have hk1 : Kept [] w' w1 := ((Kept.refl [] w').alloc _).grown hg1 fun k hk => .inr (own_ge hown0 k hk)
  clear hmk hown0 hB hg1 h3 h4
  go_loopw [6, 20] (fun s i wr => ∃ k : Nat, k ≤ 4 ∧ i = .int .i64 k ∧ wr.ownsRow w'.heap.size 5 1 s (l.length + k) (u8s (l ++ lay k x)) ∧ Kept [] w' wr) (fun _ i _ => 4 - (intOf i).toNat)
  case atStart => exact ⟨0, Nat.zero_le _, rfl, by simpa [lay] using hown1, hk1⟩
  case round =>
    obtain ⟨k, hk, rfl, hown, hkept⟩ := hrel
    have hsz := hkept.size
    clear hown1 hk1 ec
    by_cases hlt : k < 4
    · go_wp2_with (at_builtin; refine wpList_append_bs rfl (.tmp 23) (.tmp 30) 33 rfl w'.heap.size 5 Try.underlying33 (by kernel_rfl) _ _ _ (by rfl) (hown.alloc _) _ [UInt8.ofNat (x / 256 ^ k)] (by rfl) (Bs.one wr 5 _ _ (byte_of x k)) (by simp; omega) (by simp; omega) ?_; intro v2 w2 hown2 hg2 hat2)
      have hk2 : Kept [] w' w2 := (hkept.alloc _).grown hg2 fun j hj => .inr (own_ge hown j hj)
      go_roundw
      case rel => exact ⟨k + 1, by omega, by go_num, by rw [lay_succ, ← List.append_assoc, u8s_append]; exact hown2, hk2⟩
      case measure => simp [intOf]; omega
    · go_wp2
      go_ret
      obtain rfl : k = 4 := by omega
      exact ⟨_, rfl, hown, hkept⟩

set_option maxHeartbeats 800000 in
theorem put64_any (v : Value) (l : List UInt8) (x : Nat) (w : World) (hv : Bs w v l) (hl : l.length ≤ 140737488355000) (hx : (x : Int) < 18446744073709551616) :
    Calls Try.prog 45 #[v, .int .u64 (x : Int)] w fun e w' => ∃ v', e = .returned v' ∧ w'.ownsRow w.heap.size 5 1 v' (l.length + 8) (u8s (l ++ lay 8 x)) ∧ Kept [] w w' := by
  have hmk := fun u => run_make_bs (P := Try.prog) u 33 5 Try.underlying33 (by kernel_rfl) l.length (l.length + 8) (by omega) (by omega)
  have ec : ((l.length + 8 : Nat) : Int) = (l.length : Int) + 8 := by omega
  rw [ec] at hmk
  have hown0 := own_made w 5 w.heap.size l.length (l.length + 8) (Nat.le_refl _) (by omega) (by unfold maxLen; omega)
  have hB : Bs (w.alloc (.cells (madeCells #[.int .u8 0] (l.length + 8)) 5)) v l := hv.kept ((Kept.refl [] w).alloc _)
  have hwr : IntKind.u64.wrap (x : Int) = (x : Int) := by rw [IntKind.wrap_u64]; omega
  clear hx
  obtain ⟨p, c, rfl, h1, h2, h3, h4⟩ := hv
  go_enter Try.func45, Try.ntmps45
  go_wp2_with (first | (go_at_call 57; refine (width64_any _).mono ?_; rintro e w' ⟨rfl, rfl⟩) | (refine wpList_copy_bs rfl (.tmp 16) (.tmp 17) 33 rfl _ 5 Try.underlying33 (by kernel_rfl) _ _ _ (by rfl) hown0 _ l (by rfl) hB rfl ?_; intro w1 hown1 hg1))
  have hk1 : Kept [] w' w1 := ((Kept.refl [] w').alloc _).grown hg1 fun k hk => .inr (own_ge hown0 k hk)
  clear hmk hown0 hB hg1 h3 h4
  go_loopw [6, 20] (fun s i wr => ∃ k : Nat, k ≤ 8 ∧ i = .int .i64 k ∧ wr.ownsRow w'.heap.size 5 1 s (l.length + k) (u8s (l ++ lay k x)) ∧ Kept [] w' wr) (fun _ i _ => 8 - (intOf i).toNat)
  case atStart => exact ⟨0, Nat.zero_le _, rfl, by simpa [lay] using hown1, hk1⟩
  case round =>
    obtain ⟨k, hk, rfl, hown, hkept⟩ := hrel
    have hsz := hkept.size
    clear hown1 hk1 ec
    by_cases hlt : k < 8
    · go_wp2_with (at_builtin; refine wpList_append_bs rfl (.tmp 23) (.tmp 29) 33 rfl w'.heap.size 5 Try.underlying33 (by kernel_rfl) _ _ _ (by rfl) (hown.alloc _) _ [UInt8.ofNat (x / 256 ^ k)] (by rfl) (Bs.one wr 5 _ _ (byte_of x k)) (by simp; omega) (by simp; omega) ?_; intro v2 w2 hown2 hg2 hat2)
      have hk2 : Kept [] w' w2 := (hkept.alloc _).grown hg2 fun j hj => .inr (own_ge hown j hj)
      go_roundw
      case rel => exact ⟨k + 1, by omega, by go_num, by rw [lay_succ, ← List.append_assoc, u8s_append]; exact hown2, hk2⟩
      case measure => simp [intOf]; omega
    · go_wp2
      go_ret
      obtain rfl : k = 8 := by omega
      exact ⟨_, rfl, hown, hkept⟩
end Go.Proofs.Ytoildbbfnhjfoaa
