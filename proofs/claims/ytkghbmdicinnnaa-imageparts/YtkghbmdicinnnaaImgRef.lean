/-
  OWN WORK. The document's Part, Cut, Lay.
-/
import Derived.Test.YtkghbmdicinnnaaRows
import Derived.Deep.QuietTactic
import Derived.BigQuiet
import Derived.Test.YtkghbmdicinnnaaImgLib
import Derived.Test.YtkghbmdicinnnaaFam
namespace Go.Proofs.Ytkghbmdicinnnaa
open Go.RowKit
set_option linter.unusedVariables false

theorem refPart_unlike (u v : Value) (a b : List UInt8) (w : World) (hu : Bs w u a) (hv : Bs w v b) (h : a.length ≠ b.length) :
    Calls Try.prog 14 #[u, v] w fun e w' => e = .returned (.tuple #[.int .i64 0, .int .i64 0, .int .i64 31]) ∧ w' = w := by
  obtain ⟨p, c, rfl, -⟩ := hu
  obtain ⟨q, d, rfl, -⟩ := hv
  have h' : ¬ (a.length : Int) = (b.length : Int) := by omega
  go_enter Try.func14, Try.ntmps14
  go_wp2
  go_ret3
  exact ⟨rfl, rfl⟩

set_option maxHeartbeats 1600000 in
theorem refPart_any (u v : Value) (a b : List UInt8) (w : World) (hu : Bs w u a) (hv : Bs w v b) (h : a.length = b.length) :
    Calls Try.prog 14 #[u, v] w fun e w' => ∃ f t : Nat, e = .returned (.tuple #[.int .i64 f, .int .i64 t, .int .i64 0]) ∧ PartIs a b a.length f t ∧ Kept [] w w' := by
  by_cases h0 : a.length = 0
  · have hb0 : b.length = 0 := by omega
    obtain ⟨p, c, rfl, -⟩ := hu
    obtain ⟨q, d, rfl, -⟩ := hv
    rw [h0, hb0]
    go_enter Try.func14, Try.ntmps14
    go_wp2
    refine wp_loop_rounds 1 ?_
    rw [rounds_succ]
    go_wp2
    go_quiet (fail)
    go_wp2
    go_ret3
    exact ⟨0, 0, rfl, PartIs.start a b, (Kept.refl _ _).drewN' _⟩
  · obtain ⟨bu, ou, cu, rfl, hu1, hu2, hu3, hcu⟩ := hu.pos (by omega)
    obtain ⟨bv, ov, cv, rfl, hv1, hv2, hv3, hcv⟩ := hv.pos (by omega)
    obtain ⟨n, hn⟩ : ∃ n, n = a.length := ⟨_, rfl⟩
    have hnb : n = b.length := by omega
    rw [← hn, ← hnb]
    have hlen : n ≤ 9223372036854775807 := by unfold maxLen at hu2; omega
    have HA : Hid (n = a.length) := hn
    have HB : Hid (n = b.length) := hnb
    have HU : Hid (∀ (i : Nat) x, a[i]? = some x → w.cell? ⟨bu, ou + i, none⟩ = some (.int .u8 (x.toNat : Int))) := hcu
    have HV : Hid (∀ (i : Nat) x, b[i]? = some x → w.cell? ⟨bv, ov + i, none⟩ = some (.int .u8 (x.toNat : Int))) := hcv
    clear hcu hcv hu hv hn hnb h h0 hu1 hv1
    go_enter Try.func14, Try.ntmps14
    go_wp2
    go_loopw [7] (fun x wr => ∃ k : Nat, k ≤ n ∧ x = .int .i64 k ∧ Hid (∀ i, i < k → a[i]? = b[i]?) ∧ Kept [] w wr) (fun x _ => n - (intOf x).toNat)
    case atStart => exact ⟨0, Nat.zero_le _, rfl, (show ∀ i, i < 0 → a[i]? = b[i]? by intro i hi; omega), Kept.refl _ _⟩
    case round =>
      obtain ⟨k, hk, rfl, hp, kw⟩ := hrel
      by_cases hlt : k < n
      · have hka : k < a.length := by rw [← HA.out]; exact hlt
        have hkb : k < b.length := by rw [← HB.out]; exact hlt
        have hlt' : (k : Int) < (n : Int) := by omega
        have ca := kw.cell (HU.out k a[k] (List.getElem?_eq_getElem hka)) (by simp)
        have cb := kw.cell (HV.out k b[k] (List.getElem?_eq_getElem hkb)) (by simp)
        by_cases he : a[k]? = b[k]?
        · have e1 := byte_eq hka hkb he
          rw [← e1] at cb
          clear e1
          go_wp2
          go_quiet (fail)
          go_wp2
          go_roundw
          case rel => exact ⟨k + 1, by omega, by go_num, (show ∀ i, i < k + 1 → a[i]? = b[i]? by intro i hi; rcases Nat.lt_or_ge i k with c | c; exact hp.out i c; rw [show i = k by omega]; exact he), kw.drewN' _⟩
          case measure => simp [intOf]; omega
        · have e1 := byte_ne hka hkb he
          have hne : ¬ (k : Int) = (n : Int) := by omega
          have HE : Hid (¬ a[k]? = b[k]?) := he
          clear he
          go_wp2
          go_quiet (fail)
          have kw2 := kw.drewN' nq
          generalize wr.drewN nq = wq at *
          go_wp2
          go_loopw [8] (fun x wr => ∃ t : Nat, k < t ∧ t ≤ n ∧ x = .int .i64 t ∧ Hid (∀ i, i < n → t ≤ i → a[i]? = b[i]?) ∧ Kept [] w wr) (fun x _ => (intOf x).toNat)
          case atStart => exact ⟨n, hlt, Nat.le_refl _, rfl, (show ∀ i, i < n → n ≤ i → a[i]? = b[i]? by intro i h1 h2; omega), kw2⟩
          case round =>
            clear ca cb
            obtain ⟨t, hkt, hta, rfl, hq, kw3⟩ := hrel
            obtain ⟨m, rfl⟩ : ∃ m, t = m + 1 := ⟨t - 1, by omega⟩
            have hma : m < a.length := by rw [← HA.out]; omega
            have hmb : m < b.length := by rw [← HB.out]; omega
            have ca := kw3.cell (HU.out m a[m] (List.getElem?_eq_getElem hma)) (by simp)
            have cb := kw3.cell (HV.out m b[m] (List.getElem?_eq_getElem hmb)) (by simp)
            have hm0 : (0 : Int) ≤ (m : Int) := by omega
            have hmn : (m : Int) < (n : Int) := by omega
            by_cases he : a[m]? = b[m]?
            · have hkm : k ≠ m := fun e => HE.out (by rw [e]; exact he)
              have e2 := byte_eq hma hmb he
              rw [← e2] at cb
              clear e2
              go_wp2
              go_quiet (fail)
              go_wp2
              go_roundw
              case rel => exact ⟨m, by omega, by omega, by go_num, (show ∀ i, i < n → m ≤ i → a[i]? = b[i]? by intro i h1 h2; rcases Nat.lt_or_ge i (m + 1) with c | c; rw [show i = m by omega]; exact he; exact hq.out i h1 c), kw3.drewN' _⟩
              case measure => simp [intOf]
            · have e2 := byte_ne hma hmb he
              go_wp2
              go_quiet (fail)
              go_wp2
              go_ret3
              exact ⟨k, m + 1, rfl, ⟨by omega, by omega, fun i h1 h2 => by rcases h2 with h2 | h2; exact hp.out i h2; exact hq.out i h1 h2, fun _ => ⟨HE.out, he⟩, fun e => by omega⟩, kw3.drewN' _⟩
      · have hkn : k = n := by omega
        subst hkn
        go_wp2
        go_quiet (fail)
        go_wp2
        go_ret3
        exact ⟨0, 0, rfl, ⟨Nat.le_refl _, Nat.zero_le _, fun i h1 _ => hp.out i h1, fun h => by omega, fun _ => rfl⟩, kw.drewN' _⟩

theorem refCut_bad (u : Value) (a : List UInt8) (f t : Int) (w : World) (hu : Bs w u a) (h : cutBad a.length f t) :
    Calls Try.prog 16 #[u, .int .i64 f, .int .i64 t] w fun e w' => e = .returned (.tuple #[.slice none 0 0, .int .i64 30]) ∧ w' = w := by
  obtain ⟨p, c, rfl, -⟩ := hu
  unfold cutBad at h
  by_cases h1 : f < 0
  · go_enter Try.func16, Try.ntmps16
    go_wp2
    go_ret2
    exact ⟨rfl, rfl⟩
  · by_cases h2 : t < f
    · go_enter Try.func16, Try.ntmps16
      go_wp2
      go_ret2
      exact ⟨rfl, rfl⟩
    · have h3 : (a.length : Int) < t := by omega
      go_enter Try.func16, Try.ntmps16
      go_wp2
      go_ret2
      exact ⟨rfl, rfl⟩
set_option maxHeartbeats 800000 in
theorem refCut_any (u : Value) (a : List UInt8) (f m : Nat) (w : World) (hu : Bs w u a) (h : f + m ≤ a.length) (hl : a.length ≤ 140737488355328) :
    Calls Try.prog 16 #[u, .int .i64 (f : Int), .int .i64 ((f : Int) + (m : Int))] w fun e w' => ∃ v, e = .returned (.tuple #[v, .int .i64 0]) ∧ w'.ownsRow w.heap.size 5 1 v m (u8s ((a.drop f).take m)) ∧ Kept [] w w' := by
  obtain ⟨p, c, rfl, h1, h2, -⟩ := id hu
  have c1 : ¬ (f : Int) < 0 := by omega
  have c2 : ¬ (f : Int) + (m : Int) < (f : Int) := by omega
  have c3 : ¬ (a.length : Int) < (f : Int) + (m : Int) := by omega
  go_enter Try.func16, Try.ntmps16
  go_wp2
  go_loopw [8, 9] (fun s i wr => ∃ j : Nat, j ≤ m ∧ i = .int .i64 ((f : Int) + (j : Int)) ∧ wr.ownsRow w.heap.size 5 1 s j (u8s ((a.drop f).take j)) ∧ Kept [] w wr) (fun _ i _ => f + m - (intOf i).toNat)
  case atStart => exact ⟨0, Nat.zero_le _, by simp, by simpa [u8s] using World.ownsRow_nil _ _ _ _, Kept.refl [] _⟩
  case round =>
    obtain ⟨j, hj, rfl, hown, hkept⟩ := hrel
    have hsz := hkept.size
    by_cases hlt : j < m
    · obtain ⟨b, o, c', e', -, -, -, hcell⟩ := hu.pos (by omega)
      simp only [Value.slice.injEq] at e'
      obtain ⟨rfl, -, rfl⟩ := e'
      have hc := hkept.cell (hcell (f + j) a[f + j] (List.getElem?_eq_getElem (by omega))) (by simp)
      have e1 : (((f + j : Nat)) : Int) = (f : Int) + (j : Int) := by omega
      have c4 : (f : Int) + (j : Int) < (f : Int) + (m : Int) := by omega
      have c5 : (f : Int) + (j : Int) < (a.length : Int) := by omega
      have c6 : 0 ≤ (f : Int) + (j : Int) := by omega
      have e2 : ((f : Int) + (j : Int)).toNat = f + j := by omega
      clear hcell
      go_wp2_with (at_builtin; refine wpList_append_bs rfl (.tmp 29) (.tmp 34) 22 rfl w.heap.size 5 Try.underlying22 (by kernel_rfl) _ _ _ (by rfl) (hown.alloc _) _ [a[f + j]] (by rfl) (Bs.one wr 5 _ _ rfl) (by simp; omega) (by simp; omega) ?_; intro v2 w2 hown2 hg2 hat2)
      have hk2 : Kept [] w w2 := (hkept.alloc _).grown hg2 fun j hj => .inr (own_ge hown j hj)
      rw [← u8s_append, cut_succ a f j (by omega)] at hown2
      go_roundw
      case rel => exact ⟨j + 1, by omega, by go_num, hown2, hk2⟩
      case measure => simp [intOf]; omega
    · obtain rfl : j = m := by omega
      go_wp2
      go_ret2
      exact ⟨_, rfl, hown, hkept⟩

theorem refLay_bad (u v : Value) (a r : List UInt8) (f : Int) (w : World) (hu : Bs w u a) (hv : Bs w v r) (h : layBad a.length f r.length) :
    Calls Try.prog 17 #[u, .int .i64 f, v] w fun e w' => e = .returned (.tuple #[.slice none 0 0, .int .i64 30]) ∧ w' = w := by
  obtain ⟨p, c, rfl, hc0, hc, -⟩ := hu
  obtain ⟨q, d, rfl, -, hd, -⟩ := hv
  unfold layBad at h
  have hc' : a.length ≤ 9223372036854775807 := by unfold maxLen at hc; omega
  by_cases h1 : f < 0
  · go_enter Try.func17, Try.ntmps17
    go_wp2
    go_ret2
    exact ⟨rfl, rfl⟩
  · by_cases h2 : (a.length : Int) < f
    · go_enter Try.func17, Try.ntmps17
      go_wp2
      go_ret2
      exact ⟨rfl, rfl⟩
    · have h3 : (a.length : Int) - f < (r.length : Int) := by omega
      go_enter Try.func17, Try.ntmps17
      go_wp2
      go_ret2
      exact ⟨rfl, rfl⟩
set_option maxHeartbeats 1600000 in
theorem refLay_any (u v : Value) (a r : List UInt8) (f : Nat) (w : World) (hu : Bs w u a) (hv : Bs w v r) (h : f + r.length ≤ a.length) (hl : a.length ≤ 140737488355328) :
    Calls Try.prog 17 #[u, .int .i64 (f : Int), v] w fun e w' => ∃ v', e = .returned (.tuple #[v', .int .i64 0]) ∧ w'.ownsRow w.heap.size 5 1 v' a.length (u8s (over a f r)) ∧ Kept [] w w' := by
  obtain ⟨p, c, rfl, h1, h2, -⟩ := id hu
  obtain ⟨q, d, rfl, h3, h4, -⟩ := id hv
  have c1 : ¬ (f : Int) < 0 := by omega
  have c2 : ¬ (a.length : Int) < (f : Int) := by omega
  have c3 : ¬ (a.length : Int) - (f : Int) < (r.length : Int) := by omega
  go_enter Try.func17, Try.ntmps17
  go_wp2
  go_loopw [8, 9] (fun s i wr => ∃ j : Nat, j ≤ a.length ∧ i = .int .i64 (j : Int) ∧ wr.ownsRow w.heap.size 5 1 s j (u8s ((over a f r).take j)) ∧ Kept [] w wr) (fun _ i _ => a.length - (intOf i).toNat)
  case atStart => exact ⟨0, Nat.zero_le _, rfl, by simpa [u8s] using World.ownsRow_nil _ _ _ _, Kept.refl [] _⟩
  case round =>
    obtain ⟨j, hj, rfl, hown, hkept⟩ := hrel
    have hsz := hkept.size
    by_cases hlt : j < a.length
    · have hat := over_at a f r h j
      by_cases hin : f ≤ j ∧ j < f + r.length
      · rw [if_pos hin] at hat
        obtain ⟨b, o, c', e', -, -, -, hcell⟩ := hv.pos (by omega)
        simp only [Value.slice.injEq] at e'
        obtain ⟨rfl, -, rfl⟩ := e'
        obtain ⟨i, rfl⟩ : ∃ i, j = f + i := ⟨j - f, by omega⟩
        rw [show f + i - f = i by omega, List.getElem?_eq_getElem (l := r) (i := i) (by omega)] at hat
        have hc := hkept.cell (hcell i r[i] (List.getElem?_eq_getElem (by omega))) (by simp)
        have c4 : (f : Int) ≤ (((f + i : Nat)) : Int) := by omega
        have c5 : (((f + i : Nat)) : Int) - (f : Int) < (r.length : Int) := by omega
        have e1 : (((f + i : Nat)) : Int) - (f : Int) = (i : Int) := by omega
        have HT : Hid ((over a f r).take (f + i) ++ [r[i]] = (over a f r).take (f + i + 1)) := take_snoc _ _ _ hat
        clear hcell hat
        go_wp2_with (at_builtin; refine wpList_append_bs rfl (.tmp 44) (.tmp 51) 22 rfl w.heap.size 5 Try.underlying22 (by kernel_rfl) _ _ _ (by rfl) (hown.alloc _) _ [r[i]] (by rfl) (Bs.one wr 5 _ _ rfl) (by simp; omega) (by simp; omega) ?_; intro v2 w2 hown2 hg2 hat2)
        have hk2 : Kept [] w w2 := (hkept.alloc _).grown hg2 fun j hj => .inr (own_ge hown j hj)
        rw [← u8s_append, HT.out] at hown2
        go_roundw
        case rel => exact ⟨f + i + 1, by omega, by go_num, hown2, hk2⟩
        case measure => simp [intOf]; omega
      · rw [if_neg hin] at hat
        obtain ⟨b, o, c', e', -, -, -, hcell⟩ := hu.pos (by omega)
        simp only [Value.slice.injEq] at e'
        obtain ⟨rfl, -, rfl⟩ := e'
        rw [List.getElem?_eq_getElem hlt] at hat
        have hc := hkept.cell (hcell j a[j] (List.getElem?_eq_getElem (by omega))) (by simp)
        have HT : Hid ((over a f r).take j ++ [a[j]] = (over a f r).take (j + 1)) := take_snoc _ _ _ hat
        clear hcell hat
        by_cases hf : f ≤ j
        · have c4 : (f : Int) ≤ (j : Int) := by omega
          have c5 : ¬ (j : Int) - (f : Int) < (r.length : Int) := by omega
          go_wp2_with (at_builtin; refine wpList_append_bs rfl (.tmp 53) (.tmp 58) 22 rfl w.heap.size 5 Try.underlying22 (by kernel_rfl) _ _ _ (by rfl) (hown.alloc _) _ [a[j]] (by rfl) (Bs.one wr 5 _ _ rfl) (by simp; omega) (by simp; omega) ?_; intro v2 w2 hown2 hg2 hat2)
          have hk2 : Kept [] w w2 := (hkept.alloc _).grown hg2 fun j hj => .inr (own_ge hown j hj)
          rw [← u8s_append, HT.out] at hown2
          go_roundw
          case rel => exact ⟨j + 1, by omega, by go_num, hown2, hk2⟩
          case measure => simp [intOf]; omega
        · have c4 : ¬ (f : Int) ≤ (j : Int) := by omega
          go_wp2_with (at_builtin; refine wpList_append_bs rfl (.tmp 53) (.tmp 58) 22 rfl w.heap.size 5 Try.underlying22 (by kernel_rfl) _ _ _ (by rfl) (hown.alloc _) _ [a[j]] (by rfl) (Bs.one wr 5 _ _ rfl) (by simp; omega) (by simp; omega) ?_; intro v2 w2 hown2 hg2 hat2)
          have hk2 : Kept [] w w2 := (hkept.alloc _).grown hg2 fun j hj => .inr (own_ge hown j hj)
          rw [← u8s_append, HT.out] at hown2
          go_roundw
          case rel => exact ⟨j + 1, by omega, by go_num, hown2, hk2⟩
          case measure => simp [intOf]; omega
    · obtain rfl : j = a.length := by omega
      rw [List.take_of_length_le (by rw [over_length _ _ _ h]; omega)] at hown
      go_wp2
      go_ret2
      exact ⟨_, rfl, hown, hkept⟩
end Go.Proofs.Ytkghbmdicinnnaa
