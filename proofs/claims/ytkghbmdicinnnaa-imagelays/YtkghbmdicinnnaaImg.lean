/-
  OWN WORK. image.Part, Cut, Lay.
-/
import Derived.Test.YtkghbmdicinnnaaRows
import Derived.Deep.QuietTactic
import Derived.BigQuiet
import Derived.Deep.RegionHeld3
import Derived.Test.YtkghbmdicinnnaaImgLib
import Derived.Test.YtkghbmdicinnnaaFam
namespace Go.Proofs.Ytkghbmdicinnnaa
open Go.RowKit
set_option linter.unusedVariables false

theorem part_unlike (u v : Value) (a b : List UInt8) (w : World) (hu : Bs w u a) (hv : Bs w v b) (h : a.length ≠ b.length) :
    Calls Try.prog 8 #[u, v] w fun e w' => e = .returned (.tuple #[.int .i64 0, .int .i64 0, .int .i64 31]) ∧ w' = w := by
  obtain ⟨p, c, rfl, -⟩ := hu
  obtain ⟨q, d, rfl, -⟩ := hv
  have h' : ¬ (a.length : Int) = (b.length : Int) := by omega
  go_enter Try.func8, Try.ntmps8
  go_wp2
  go_ret3
  exact ⟨rfl, rfl⟩

set_option maxHeartbeats 1600000 in
theorem part_any (u v : Value) (a b : List UInt8) (w : World) (hu : Bs w u a) (hv : Bs w v b) (h : a.length = b.length) :
    Calls Try.prog 8 #[u, v] w fun e w' => ∃ f t : Nat, e = .returned (.tuple #[.int .i64 f, .int .i64 t, .int .i64 0]) ∧ PartIs a b a.length f t ∧ Kept [] w w' := by
  by_cases h0 : a.length = 0
  · have hb0 : b.length = 0 := by omega
    obtain ⟨p, c, rfl, -⟩ := hu
    obtain ⟨q, d, rfl, -⟩ := hv
    rw [h0, hb0]
    go_enter Try.func8, Try.ntmps8
    go_wp2
    refine wp_loop_rounds 1 ?_
    rw [rounds_succ]
    go_wp2
    go_ret3
    exact ⟨0, 0, rfl, PartIs.start a b, Kept.refl _ _⟩
  · obtain ⟨bu, ou, cu, rfl, hu1, hu2, hu3, hcu⟩ := hu.pos (by omega)
    obtain ⟨bv, ov, cv, rfl, hv1, hv2, hv3, hcv⟩ := hv.pos (by omega)
    have hh : (a.length : Int) = (b.length : Int) := by omega
    have hlen : a.length ≤ 9223372036854775807 := by unfold maxLen at hu2; omega
    have HU : Hid (∀ (i : Nat) x, a[i]? = some x → w.cell? ⟨bu, ou + i, none⟩ = some (.int .u8 (x.toNat : Int))) := hcu
    have HV : Hid (∀ (i : Nat) x, b[i]? = some x → w.cell? ⟨bv, ov + i, none⟩ = some (.int .u8 (x.toNat : Int))) := hcv
    clear hcu hcv hu hv
    go_enter Try.func8, Try.ntmps8
    go_wp2
    go_loopw [7, 8, 17] (fun x y i wr => ∃ f t k : Nat, k ≤ a.length ∧ x = .int .i64 f ∧ y = .int .i64 t ∧ i = .int .i64 k ∧ Hid (PartIs a b k f t) ∧ Kept [] w wr) (fun _ _ i _ => a.length - (intOf i).toNat)
    case atStart => exact ⟨0, 0, 0, Nat.zero_le _, rfl, rfl, rfl, PartIs.start a b, Kept.refl _ _⟩
    case round =>
      obtain ⟨f, t, k, hk, rfl, rfl, rfl, hp, kw⟩ := hrel
      by_cases hlt : k < a.length
      · have ca := kw.cell (HU.out k a[k] (List.getElem?_eq_getElem hlt)) (by simp)
        have cb := kw.cell (HV.out k b[k] (List.getElem?_eq_getElem (by omega))) (by simp)
        by_cases he : a[k]? = b[k]?
        · have e1 := byte_eq hlt (by omega) he
          rw [← e1] at cb
          clear e1
          go_wp2
          go_quiet (fail)
          go_wp2
          go_roundw
          case rel => exact ⟨f, t, k + 1, by omega, rfl, rfl, by go_num, hp.out.same he, kw.drewN' _⟩
          case measure => simp [intOf]; omega
        · have e1 := byte_ne hlt (by omega) he
          by_cases ht : t = 0
          · subst ht
            go_wp2
            go_quiet (fail)
            go_wp2
            go_roundw
            case rel => exact ⟨k, k + 1, k + 1, by omega, rfl, by go_num, by go_num, (show PartIs a b (k + 1) k (k + 1) by simpa using hp.out.next he), kw.drewN' _⟩
            case measure => simp [intOf]; omega
          · have ht' : ¬ (t : Int) = 0 := by omega
            go_wp2
            go_quiet (fail)
            go_wp2
            go_roundw
            case rel => exact ⟨f, k + 1, k + 1, by omega, rfl, by go_num, by go_num, by have := hp.out.next he; rw [if_neg ht] at this; exact this, kw.drewN' _⟩
            case measure => simp [intOf]; omega
      · obtain rfl : k = a.length := by omega
        go_wp2
        go_ret3
        exact ⟨f, t, rfl, hp.out, kw⟩

theorem cut_bad (u : Value) (a : List UInt8) (f t : Int) (w : World) (hu : Bs w u a) (h : cutBad a.length f t) :
    Calls Try.prog 11 #[u, .int .i64 f, .int .i64 t] w fun e w' => e = .returned (.tuple #[.slice none 0 0, .int .i64 30]) ∧ w' = w := by
  obtain ⟨p, c, rfl, -⟩ := hu
  unfold cutBad at h
  by_cases h1 : f < 0
  · go_enter Try.func11, Try.ntmps11
    go_wp2
    go_ret2
    exact ⟨rfl, rfl⟩
  · by_cases h2 : t < f
    · go_enter Try.func11, Try.ntmps11
      go_wp2
      go_ret2
      exact ⟨rfl, rfl⟩
    · have h3 : (a.length : Int) < t := by omega
      go_enter Try.func11, Try.ntmps11
      go_wp2
      go_ret2
      exact ⟨rfl, rfl⟩
set_option maxHeartbeats 800000 in
theorem clone_any (u : Value) (a : List UInt8) (w : World) (hu : Bs w u a) (hl : a.length ≤ 140737488355328) :
    Calls Try.prog 19 #[u] w fun e w' => ∃ v, e = .returned v ∧ w'.ownsRow w.heap.size 5 1 v a.length (u8s a) ∧ Kept [] w w' := by
  have hmk := fun u => run_make_bs (P := Try.prog) u 22 5 Try.underlying22 (by kernel_rfl) a.length a.length (by omega) (by omega)
  have hown0 := own_made w 5 w.heap.size a.length a.length (Nat.le_refl _) (by omega) (by unfold maxLen; omega)
  have hB := hu.kept ((Kept.refl [] w).alloc (.cells (madeCells #[.int .u8 0] a.length) 5))
  obtain ⟨p, c, rfl, h1, h2, -⟩ := id hu
  go_enter Try.func19, Try.ntmps19
  go_wp2_with (refine wpList_copy_bs rfl (.tmp 7) (.tmp 8) 22 rfl _ 5 Try.underlying22 (by kernel_rfl) _ _ _ (by rfl) hown0 _ a (by rfl) hB rfl ?_; intro w1 hown1 hg1)
  go_ret
  exact ⟨_, rfl, hown1, ((Kept.refl [] w).alloc _).grown hg1 fun k hk => .inr (own_ge hown0 k hk)⟩

set_option maxHeartbeats 800000 in
theorem cut_any (u : Value) (a : List UInt8) (f m : Nat) (w : World) (hu : Bs w u a) (h : f + m ≤ a.length) (hl : a.length ≤ 140737488355328) :
    Calls Try.prog 11 #[u, .int .i64 (f : Int), .int .i64 ((f : Int) + (m : Int))] w fun e w' => ∃ v, e = .returned (.tuple #[v, .int .i64 0]) ∧ w'.ownsRow w.heap.size 5 1 v m (u8s ((a.drop f).take m)) ∧ Kept [] w w' := by
  obtain ⟨p, c, rfl, h1, h2, -⟩ := id hu
  obtain ⟨p2, hcut, hb2⟩ := hu.mid (P := Try.prog) 22 5 Try.underlying22 (by kernel_rfl) f m (by omega)
  have hbl : ((a.drop f).take m).length = m := by simp; omega
  have c1 : ¬ (f : Int) < 0 := by omega
  have c2 : ¬ (f : Int) + (m : Int) < (f : Int) := by omega
  have c3 : ¬ (a.length : Int) < (f : Int) + (m : Int) := by omega
  go_enter Try.func11, Try.ntmps11
  go_wp2_with fail
  refine (clone_any _ ((a.drop f).take m) _ hb2 (by omega)).mono ?_
  rintro e w1 ⟨v, rfl, hown, k1⟩
  rw [hbl] at hown
  go_wp2
  go_ret2
  exact ⟨_, rfl, hown, k1⟩

theorem lay_bad (u v : Value) (a r : List UInt8) (f : Int) (w : World) (hu : Bs w u a) (hv : Bs w v r) (h : layBad a.length f r.length) :
    Calls Try.prog 12 #[u, .int .i64 f, v] w fun e w' => e = .returned (.tuple #[.slice none 0 0, .int .i64 30]) ∧ w' = w := by
  obtain ⟨p, c, rfl, hc0, hc, -⟩ := hu
  obtain ⟨q, d, rfl, hd0, hd, -⟩ := hv
  unfold layBad at h
  have hc' : a.length ≤ 9223372036854775807 := by unfold maxLen at hc; omega
  have hd' : r.length ≤ 9223372036854775807 := by unfold maxLen at hd; omega
  by_cases h1 : f < 0
  · go_enter Try.func12, Try.ntmps12
    go_wp2
    go_ret2
    exact ⟨rfl, rfl⟩
  · have h3 : (a.length : Int) - (r.length : Int) < f := by omega
    go_enter Try.func12, Try.ntmps12
    go_wp2
    go_ret2
    exact ⟨rfl, rfl⟩
set_option maxHeartbeats 800000 in
theorem lay_any (u v : Value) (a r : List UInt8) (f : Nat) (w : World) (hu : Bs w u a) (hv : Bs w v r) (h : f + r.length ≤ a.length) (hl : a.length ≤ 140737488355328) :
    Calls Try.prog 12 #[u, .int .i64 (f : Int), v] w fun e w' => ∃ v', e = .returned (.tuple #[v', .int .i64 0]) ∧ w'.ownsRow w.heap.size 5 1 v' a.length (u8s (over a f r)) ∧ Kept [] w w' := by
  obtain ⟨p, c, rfl, h1, h2, -⟩ := id hu
  obtain ⟨q, d, rfl, h3, h4, -⟩ := id hv
  have c1 : ¬ (f : Int) < 0 := by omega
  have c3 : ¬ (a.length : Int) - (r.length : Int) < (f : Int) := by omega
  have h2' : a.length ≤ 9223372036854775807 := by omega
  go_enter Try.func12, Try.ntmps12
  go_wp2_with fail
  refine (clone_any _ a _ hu hl).mono ?_
  rintro e w1 ⟨v, rfl, hown, k1⟩
  obtain ⟨p3, c4, rfl⟩ := own_shape2 hown
  have hcut := fun u => run_cut_from (P := Try.prog) u 22 5 Try.underlying22 (by kernel_rfl) p3 a.length c4 f (by omega)
  obtain ⟨dp, hdp⟩ : ∃ dp, dp = (if c4 = f then p3 else Option.map (fun x : Addr => x.add f) p3) := ⟨_, rfl⟩
  rw [← hdp] at hcut
  have hdp' : Hid (0 < a.length - f → ∃ g, (Value.slice p3 a.length c4).ownBlock = some g ∧ dp = some ⟨g, f, none⟩) := fun hp => by
    rcases hown.2 with ⟨e, hz⟩ | ⟨g', cap, cur, e, hbg, hg, hnc, hcm, hcs, htk⟩
    · omega
    · cases e
      exact ⟨g', rfl, by rw [hdp, if_neg (by omega)]; simp [add_none]⟩
  clear hdp
  go_wp2_with (refine wpList_copy_part rfl (.tmp 24) (.tmp 25) 22 rfl _ 5 Try.underlying22 (by kernel_rfl) _ _ a hown f dp (a.length - f) (c4 - f) (by rfl) hdp'.out _ r (by rfl) (hv.kept k1) (by omega) (by omega) ?_; intro w2 hown2 hg2)
  go_ret2
  exact ⟨_, rfl, hown2, k1.grown hg2 fun k hk => .inr (own_ge hown k hk)⟩
end Go.Proofs.Ytkghbmdicinnnaa
