/-
  OWN WORK. The document's Put and Get.
-/
import Derived.Test.YtoildbbfnhjfoaaRows
import Derived.Test.YtoildbbfnhjfoaaGet
namespace Go.Proofs.Ytoildbbfnhjfoaa
open Go.RowKit
set_option linter.unusedVariables false

set_option maxHeartbeats 800000 in
theorem refPut_any (v : Value) (l : List UInt8) (x n : Nat) (w : World) (hv : Bs w v l) (hl : l.length ≤ 140737488355000) (hn : n ≤ 8) (hx : x < 18446744073709551616) :
    Calls Try.prog 50 #[v, .int .u64 (x : Int), .int .i64 (n : Int)] w fun e w' => ∃ v', e = .returned v' ∧ w'.ownsRow w.heap.size 5 1 v' (l.length + n) (u8s (l ++ lay n x)) ∧ Kept [] w w' := by
  have HX : Hid (x < 18446744073709551616) := hx
  clear hx
  obtain ⟨p, c, rfl, -⟩ := id hv
  go_enter Try.func50, Try.ntmps50
  go_wp2_with (at_builtin; refine wpList_append_bs rfl (.tmp 9) (.tmp 10) 33 rfl w.heap.size 5 Try.underlying33 (by kernel_rfl) _ _ _ (by rfl) (World.ownsRow_nil w _ _ _) _ l (by rfl) hv (by omega) (Nat.le_refl _) ?_; intro v1 w1 hown1 hg1 hat1)
  have hk1 : Kept [] w w1 := (Kept.refl [] w).grown hg1 fun m hm => .inr (own_ge (World.ownsRow_nil w w.heap.size 5 1) m hm)
  simp only [Nat.zero_add, List.nil_append] at hown1
  clear hg1 hat1
  go_loopw [1, 7, 8] (fun y s i wr => ∃ k z : Nat, k ≤ n ∧ i = .int .i64 k ∧ y = .int .u64 (z : Int) ∧ Hid (z = x / 256 ^ k) ∧ wr.ownsRow w.heap.size 5 1 s (l.length + k) (u8s (l ++ lay k x)) ∧ Kept [] w wr) (fun _ _ i _ => n - (intOf i).toNat)
  case atStart => exact ⟨0, x, Nat.zero_le _, rfl, rfl, (show x = x / 256 ^ 0 by simp), by simpa [lay] using hown1, hk1⟩
  case round =>
    obtain ⟨k, z, hk, rfl, rfl, hz, hown, hkept⟩ := hrel
    have hsz := hkept.size
    clear hown1 hk1
    by_cases hlt : k < n
    · go_wp2_with (at_builtin; refine wpList_append_bs rfl (.tmp 17) (.tmp 21) 33 rfl w.heap.size 5 Try.underlying33 (by kernel_rfl) _ _ _ (by rfl) (hown.alloc _) _ [UInt8.ofNat z] (by rfl) (Bs.one wr 5 _ _ (byte_mod z)) (by simp; omega) (by simp; omega) ?_; intro v2 w2 hown2 hg2 hat2)
      have hk2 : Kept [] w w2 := (hkept.alloc _).grown hg2 fun j hj => .inr (own_ge hown j hj)
      go_roundw
      case rel => exact ⟨k + 1, z / 256, by omega, by go_num, by rw [div_step z (by rw [hz.out]; exact Nat.lt_of_le_of_lt (Nat.div_le_self _ _) HX.out)], (show z / 256 = x / 256 ^ (k + 1) by rw [hz.out, Nat.div_div_eq_div_mul, Nat.pow_succ]), by rw [lay_succ, ← hz.out, ← List.append_assoc, u8s_append]; exact hown2, hk2⟩
      case measure => simp [intOf]; omega
    · go_wp2
      go_ret
      obtain rfl : k = n := by omega
      exact ⟨_, rfl, hown, hkept⟩

theorem refGet_short (v : Value) (l : List UInt8) (n : Nat) (w : World) (hv : Bs w v l) (hl : l.length < n) :
    Calls Try.prog 49 #[v, .int .i64 (n : Int)] w fun e w' => e = .returned (.tuple #[.int .u64 0, .int .i64 10]) ∧ w' = w := by
  obtain ⟨p, c, rfl, -⟩ := hv
  have hl' : (l.length : Int) < (n : Int) := by omega
  go_enter Try.func49, Try.ntmps49
  go_wp2
  go_ret2
  exact ⟨rfl, rfl⟩
set_option maxHeartbeats 800000 in
theorem refGet_any (v : Value) (l : List UInt8) (n : Nat) (w : World) (hv : Bs w v l) (hl : n ≤ l.length) (h1 : 1 ≤ n) (h8 : n ≤ 8) :
    Calls Try.prog 49 #[v, .int .i64 (n : Int)] w fun e w' => e = .returned (.tuple #[.int .u64 (low (l.take n) : Int), .int .i64 0]) ∧ w' = w := by
  obtain ⟨b, o, c, rfl, hc1, hc2, hb, hcell⟩ := hv.pos (by omega)
  have hl' : ¬ (l.length : Int) < (n : Int) := by omega
  go_enter Try.func49, Try.ntmps49
  go_wp2
  go_loop [6, 7] (fun s i => ∃ k z : Nat, k ≤ n ∧ i = .int .i64 ((k : Int) - 1) ∧ s = .int .u64 (z : Int) ∧ Hid (z = low ((l.take n).drop k))) (fun _ i => (intOf i + 1).toNat)
  case atStart => exact ⟨n, 0, Nat.le_refl _, rfl, rfl, (show 0 = low ((l.take n).drop n) by rw [List.drop_eq_nil_of_le (by simp; omega)]; rfl)⟩
  case round =>
    obtain ⟨k, z, hk, rfl, rfl, hz⟩ := hrel
    by_cases hlt : k = 0
    · subst hlt
      go_wp2
      go_ret2
      have := hz.out
      rw [List.drop_zero] at this
      subst this
      exact ⟨rfl, rfl⟩
    · obtain ⟨j, rfl⟩ : ∃ j, k = j + 1 := ⟨k - 1, by omega⟩
      have hck := hcell j l[j] (List.getElem?_eq_getElem (by omega))
      go_wp2
      go_round
      case rel =>
        obtain ⟨hb1, hb2⟩ := get_bound l n j hl (by omega) h8
        rw [← hz.out] at hb1
        exact ⟨j, _, by omega, rfl, by rw [get_step z l[j] (by omega)], hb1.symm⟩
      case measure => simp [intOf]
end Go.Proofs.Ytoildbbfnhjfoaa
