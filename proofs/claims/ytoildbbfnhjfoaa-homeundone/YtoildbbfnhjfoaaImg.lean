/-
  OWN WORK. image.Part, Cut, Lay.
-/
import Derived.Test.YtoildbbfnhjfoaaRows
import Derived.Deep.QuietTactic
import Derived.BigQuiet
import Derived.Deep.RegionHeld3
import Derived.Test.YtoildbbfnhjfoaaImgLib
import Derived.Test.YtoildbbfnhjfoaaFam
namespace Go.Proofs.Ytoildbbfnhjfoaa
open Go.RowKit
set_option linter.unusedVariables false

set_option maxHeartbeats 800000 in
theorem imgClone_any (u : Value) (a : List UInt8) (w : World) (hu : Bs w u a) (hl : a.length ≤ 140737488355328) :
    Calls Try.prog 56 #[u] w fun e w' => ∃ v, e = .returned v ∧ w'.ownsRow w.heap.size 5 1 v a.length (u8s a) ∧ Kept [] w w' := by
  have hmk := fun u => run_make_bs (P := Try.prog) u 33 5 Try.underlying33 (by kernel_rfl) a.length a.length (by omega) (by omega)
  have hown0 := own_made w 5 w.heap.size a.length a.length (Nat.le_refl _) (by omega) (by unfold maxLen; omega)
  have hB := hu.kept ((Kept.refl [] w).alloc (.cells (madeCells #[.int .u8 0] a.length) 5))
  obtain ⟨p, c, rfl, h1, h2, -⟩ := id hu
  go_enter Try.func56, Try.ntmps56
  go_wp2_with (refine wpList_copy_bs rfl (.tmp 7) (.tmp 8) 33 rfl _ 5 Try.underlying33 (by kernel_rfl) _ _ _ (by rfl) hown0 _ a (by rfl) hB rfl ?_; intro w1 hown1 hg1)
  go_ret
  exact ⟨_, rfl, hown1, ((Kept.refl [] w).alloc _).grown hg1 fun k hk => .inr (own_ge hown0 k hk)⟩

theorem lay_bad (u v : Value) (a r : List UInt8) (f : Int) (w : World) (hu : Bs w u a) (hv : Bs w v r) (h : layBad a.length f r.length) :
    Calls Try.prog 43 #[u, .int .i64 f, v] w fun e w' => e = .returned (.tuple #[.slice none 0 0, .int .i64 30]) ∧ w' = w := by
  obtain ⟨p, c, rfl, hc0, hc, -⟩ := hu
  obtain ⟨q, d, rfl, hd0, hd, -⟩ := hv
  unfold layBad at h
  have hc' : a.length ≤ 9223372036854775807 := by unfold maxLen at hc; omega
  have hd' : r.length ≤ 9223372036854775807 := by unfold maxLen at hd; omega
  by_cases h1 : f < 0
  · go_enter Try.func43, Try.ntmps43
    go_wp2
    go_ret2
    exact ⟨rfl, rfl⟩
  · have h3 : (a.length : Int) - (r.length : Int) < f := by omega
    go_enter Try.func43, Try.ntmps43
    go_wp2
    go_ret2
    exact ⟨rfl, rfl⟩
set_option maxHeartbeats 800000 in
theorem lay_any (u v : Value) (a r : List UInt8) (f : Nat) (w : World) (hu : Bs w u a) (hv : Bs w v r) (h : f + r.length ≤ a.length) (hl : a.length ≤ 140737488355328) :
    Calls Try.prog 43 #[u, .int .i64 (f : Int), v] w fun e w' => ∃ v', e = .returned (.tuple #[v', .int .i64 0]) ∧ w'.ownsRow w.heap.size 5 1 v' a.length (u8s (over a f r)) ∧ Kept [] w w' := by
  obtain ⟨p, c, rfl, h1, h2, -⟩ := id hu
  obtain ⟨q, d, rfl, h3, h4, -⟩ := id hv
  have c1 : ¬ (f : Int) < 0 := by omega
  have c3 : ¬ (a.length : Int) - (r.length : Int) < (f : Int) := by omega
  have h2' : a.length ≤ 9223372036854775807 := by omega
  go_enter Try.func43, Try.ntmps43
  go_wp2_with fail
  refine (imgClone_any _ a _ hu hl).mono ?_
  rintro e w1 ⟨v, rfl, hown, k1⟩
  obtain ⟨p3, c4, rfl⟩ := own_shape2 hown
  have hcut := fun u => run_cut_from (P := Try.prog) u 33 5 Try.underlying33 (by kernel_rfl) p3 a.length c4 f (by omega)
  obtain ⟨dp, hdp⟩ : ∃ dp, dp = (if c4 = f then p3 else Option.map (fun x : Addr => x.add f) p3) := ⟨_, rfl⟩
  rw [← hdp] at hcut
  have hdp' : Hid (0 < a.length - f → ∃ g, (Value.slice p3 a.length c4).ownBlock = some g ∧ dp = some ⟨g, f, none⟩) := fun hp => by
    rcases hown.2 with ⟨e, hz⟩ | ⟨g', cap, cur, e, hbg, hg, hnc, hcm, hcs, htk⟩
    · omega
    · cases e
      exact ⟨g', rfl, by rw [hdp, if_neg (by omega)]; simp [add_none]⟩
  clear hdp
  go_wp2_with (refine wpList_copy_part rfl (.tmp 24) (.tmp 25) 33 rfl _ 5 Try.underlying33 (by kernel_rfl) _ _ a hown f dp (a.length - f) (c4 - f) (by rfl) hdp'.out _ r (by rfl) (hv.kept k1) (by omega) (by omega) ?_; intro w2 hown2 hg2)
  go_ret2
  exact ⟨_, rfl, hown2, k1.grown hg2 fun k hk => .inr (own_ge hown k hk)⟩
end Go.Proofs.Ytoildbbfnhjfoaa
