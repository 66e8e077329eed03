/-
  OWN WORK. HomeOfs, HomeParts.
-/
import Derived.Test.YtoildbbfnhjfoaaRows
import Derived.Test.YtoildbbfnhjfoaaHomeLaw
namespace Go.Proofs.Ytoildbbfnhjfoaa
open Go.RowKit
set_option linter.unusedVariables false

theorem homeOfs_walk (key pages keys : Int) (w : World) : Calls Try.prog 3 #[.int .i64 key, .int .i64 pages, .int .i64 keys] w fun e w' => e = .returned (.bool true) ∧ Kept [] w w' := by
  have h1 := of_any key pages keys w
  have h2 := refOf_any key pages keys
  generalize ofN key pages keys = N at *
  generalize ofE key pages keys = E at *
  go_enter Try.func3, Try.ntmps3
  go_wp2_with fail
  refine h1.mono ?_
  rintro e w1 ⟨rfl, k1⟩
  go_wp2_with fail
  refine (h2 w1).mono ?_
  rintro e w2 ⟨rfl, rfl⟩
  go_wp2_with fail
  refine (known_any _).mono ?_
  rintro e w3 ⟨rfl, k3⟩
  go_wp2
  go_ret
  exact ⟨rfl, k1.then k3⟩
theorem of_fine {k p n : Int} (h1 : 1 ≤ p) (h2 : p ≤ 16) (h3 : 1 ≤ n) (h4 : n ≤ 1048576) (h5 : 0 ≤ k) (h6 : k < n) : ofE k p n = 0 ∧ ofN k p n = k % p := by
  have e : ofE k p n = 0 := by unfold ofE; rw [if_neg (by omega), if_neg (by omega)]
  exact ⟨e, by unfold ofN; rw [if_pos e]⟩
theorem of_over {k p n : Int} (h1 : 1 ≤ p) (h2 : p ≤ 16) (h6 : k = n) : ofE k p n = 50 := by unfold ofE; rw [if_neg (by omega), if_pos (by omega)]
set_option maxHeartbeats 3200000 in
theorem homeParts_walk (key other pages keys : Int) (w : World) : Calls Try.prog 4 #[.int .i64 key, .int .i64 other, .int .i64 pages, .int .i64 keys] w fun e w' => e = .returned (.bool true) ∧ Kept [] w w' := by
  obtain ⟨P, hP⟩ : ∃ P, P = pages % 16 := ⟨_, rfl⟩
  obtain ⟨N, hN⟩ : ∃ N, N = keys % 1048576 := ⟨_, rfl⟩
  have bP := into_range pages (top := 16) (by omega)
  have bN := into_range keys (top := 1048576) (by omega)
  rw [← hP] at bP
  rw [← hN] at bN
  obtain ⟨p, hp⟩ : ∃ p, p = 1 + P := ⟨_, rfl⟩
  obtain ⟨n, hn⟩ : ∃ n, n = 1 + N := ⟨_, rfl⟩
  have hp1 : 1 ≤ p := by omega
  have hp2 : p ≤ 16 := by omega
  have hn1 : 1 ≤ n := by omega
  have hn2 : n ≤ 1048576 := by omega
  have i1 := into_any pages 16
  have i2 := into_any keys 1048576
  rw [← hP] at i1
  rw [← hN] at i2
  obtain ⟨k, hk⟩ : ∃ k, k = key % n := ⟨_, rfl⟩
  obtain ⟨o, ho⟩ : ∃ o, o = other % n := ⟨_, rfl⟩
  have bk := into_range key hn1
  have bo := into_range other hn1
  have i3 := into_any key n
  have i4 := into_any other n
  rw [← hk] at i3 bk
  rw [← ho] at i4 bo
  obtain ⟨ea, fa⟩ := of_fine hp1 hp2 hn1 hn2 bk.1 bk.2
  obtain ⟨eb, fb⟩ := of_fine hp1 hp2 hn1 hn2 bo.1 bo.2
  have q1 := of_any k p n
  have q2 := of_any o p n
  rw [ea, fa] at q1
  rw [eb, fb] at q2
  have ba := into_range k hp1
  have i5 := into_any (k - o) p
  have hiff : (k % p = o % p) ↔ ((k - o) % p = 0) := Int.emod_eq_emod_iff_emod_sub_eq_zero
  have hnext : (k % p + 1) % p = (k + 1) % p := Int.emod_add_emod k p 1
  have w1 : IntKind.i64.wrap (1 + P) = p := by rw [IntKind.wrap_i64]; omega
  have w2 : IntKind.i64.wrap (1 + N) = n := by rw [IntKind.wrap_i64]; omega
  have w3 : IntKind.i64.wrap (k - o) = k - o := by rw [IntKind.wrap_i64]; omega
  have wk4 : IntKind.i64.wrap (k + 1) = k + 1 := by rw [IntKind.wrap_i64]; omega
  have hp0 : ¬ p = 0 := by omega
  have q3 := of_any (k + 1) p n
  have hend : Hid ((k + 1 = n ∧ ofE (k + 1) p n = 50) ∨ (¬ k + 1 = n ∧ ofE (k + 1) p n = 0 ∧ ofN (k + 1) p n = (k + 1) % p)) := by
    by_cases c : k + 1 = n
    · exact .inl ⟨c, of_over hp1 hp2 c⟩
    · have := of_fine hp1 hp2 hn1 hn2 (show 0 ≤ k + 1 by omega) (show k + 1 < n by omega)
      exact .inr ⟨c, this.1, this.2⟩
  have i1' := fun w => i1 w (by omega) (by omega)
  have i2' := fun w => i2 w (by omega) (by omega)
  have i3' := fun w => i3 w hn1 (by omega)
  have i4' := fun w => i4 w hn1 (by omega)
  have i5' := fun w => i5 w hp1 (by omega)
  obtain ⟨r, hr⟩ : ∃ r, r = k % p := ⟨_, rfl⟩
  obtain ⟨s, hs⟩ : ∃ s, s = o % p := ⟨_, rfl⟩
  obtain ⟨d, hd⟩ : ∃ d, d = (k - o) % p := ⟨_, rfl⟩
  rw [← hr] at q1 ba hiff hnext
  rw [← hs] at q2 hiff
  rw [← hd] at i5' hiff
  have w5 : IntKind.i64.wrap (r + 1) = r + 1 := by rw [IntKind.wrap_i64]; omega
  have hr0 : 0 ≤ r := ba.1
  have hrp : r < p := ba.2
  have ht : (r + 1).tmod p = (k + 1) % p := by rw [Int.tmod_eq_emod_of_nonneg (by omega), hnext]
  have HIFF : Hid (r = s ↔ d = 0) := hiff
  clear hiff hnext hr hs hd hP hN hk ho bP bN hp hn hn1 hn2 bk bo i1 i2 i3 i4 i5 ea fa eb fb ba
  go_enter Try.func4, Try.ntmps4
  go_wp2_with fail
  refine (i1' _).mono ?_
  rintro e w' ⟨rfl, rfl⟩
  go_wp2_with fail
  refine (i2' _).mono ?_
  rintro e w' ⟨rfl, rfl⟩
  go_wp2_with fail
  refine (i3' _).mono ?_
  rintro e w' ⟨rfl, rfl⟩
  go_wp2_with fail
  refine (i4' _).mono ?_
  rintro e w' ⟨rfl, rfl⟩
  go_wp2_with fail
  refine (q1 _).mono ?_
  rintro e w1 ⟨rfl, k1⟩
  go_wp2_with fail
  refine (q2 _).mono ?_
  rintro e w2 ⟨rfl, k2'⟩
  have k2 := k1.then k2'
  go_wp2_with fail
  refine (known_any _).mono ?_
  rintro e w3 ⟨rfl, k3'⟩
  have k3 := k2.then k3'
  go_wp2_with fail
  refine (i5' _).mono ?_
  rintro e w' ⟨rfl, rfl⟩
  by_cases c : r = s
  · have c' : d = 0 := HIFF.out.1 c
    subst c c'
    go_wp2_with fail
    refine (q3 _).mono ?_
    rintro e w4 ⟨rfl, k4'⟩
    have k4 := k3.then k4'
    rcases hend.out with ⟨c1, c2⟩ | ⟨c1, c2, c3⟩
    · rw [c2]
      have wk6 : IntKind.i64.wrap n = n := by rw [← c1, wk4]
      go_wp2
      go_ret
      exact ⟨rfl, k4⟩
    · rw [c2, c3]
      go_wp2
      go_ret
      exact ⟨rfl, k4⟩
  · have c' : ¬ d = 0 := fun h => c (HIFF.out.2 h)
    have b1 : (r == s) = false := by simpa using c
    have b2 : (d == 0) = false := by simpa using c'
    go_wp2_with fail
    refine (q3 _).mono ?_
    rintro e w4 ⟨rfl, k4'⟩
    have k4 := k3.then k4'
    rcases hend.out with ⟨c1, c2⟩ | ⟨c1, c2, c3⟩
    · rw [c2]
      have wk6 : IntKind.i64.wrap n = n := by rw [← c1, wk4]
      go_wp2
      go_ret
      exact ⟨rfl, k4⟩
    · rw [c2, c3]
      go_wp2
      go_ret
      exact ⟨rfl, k4⟩
end Go.Proofs.Ytoildbbfnhjfoaa
