/-
  OWN WORK. Contracts of the small functions: same, width, lowestFirst, Clone.
-/
import Derived.Test.YtppdidimhchlgaaRows
import Derived.Test.YtppdidimhchlgaaLib
import Derived.Test.YtppdidimhchlgaaNum
import Derived.Test.YtppdidimhchlgaaLaws
namespace Go.Proofs.Ytppdidimhchlgaa
open Go.RowKit
set_option linter.unusedVariables false

theorem same_any (u v : Value) (a b : List UInt8) (w : World) (ha : Bs w u a) (hb : Bs w v b) :
    Calls Try.prog 10 #[u, v] w fun e w' => e = .returned (.bool (a == b)) ∧ w' = w := by
  have h1 := ha.convert (P := Try.prog) (src := 25) (dst := 9) (e := 5) Try.underlying25 Try.underlying5 Try.underlying9
  have h2 := hb.convert (P := Try.prog) (src := 25) (dst := 9) (e := 5) Try.underlying25 Try.underlying5 Try.underlying9
  obtain ⟨p, c, rfl, -⟩ := ha
  obtain ⟨q, d, rfl, -⟩ := hb
  go_enter Try.func10, Try.ntmps10
  go_wp2
  go_ret
  exact ⟨rfl, rfl⟩


set_option maxHeartbeats 400000 in
theorem low_any (v : Value) (l : List UInt8) (w : World) (hv : Bs w v l) (h8 : l.length ≤ 8) :
    Calls Try.prog 37 #[v] w fun e w' => e = .returned (.int .u64 (low l : Int)) ∧ w' = w := by
  by_cases h0 : l.length = 0
  · obtain rfl : l = [] := List.eq_nil_of_length_eq_zero h0
    obtain ⟨p, c, rfl, -⟩ := hv
    go_enter Try.func37, Try.ntmps37
    go_wp2
    refine wp_loop_rounds 1 ?_
    rw [rounds_succ]
    go_wp2
    go_ret
    exact ⟨rfl, rfl⟩
  · obtain ⟨b, o, c, rfl, hc1, hc2, hb, hcell⟩ := hv.pos (by omega)
    go_enter Try.func37, Try.ntmps37
    go_wp2
    go_loop [3, 8] (fun s i => ∃ k : Nat, k ≤ l.length ∧ i = .int .i64 k ∧ s = .int .u64 (low (l.take k) : Int)) (fun _ i => l.length - (intOf i).toNat)
    case atStart => exact ⟨0, Nat.zero_le _, rfl, rfl⟩
    case round =>
      obtain ⟨k, hk, rfl, rfl⟩ := hrel
      by_cases hlt : k < l.length
      · have hck := hcell k l[k] (List.getElem?_eq_getElem hlt)
        go_wp2
        go_round
        case rel => exact ⟨k + 1, by omega, by go_num, by rw [low_or l k hlt h8]⟩
        case measure => simp [intOf]; omega
      · go_wp2
        go_ret
        have : l.take k = l := List.take_of_length_le (by omega)
        rw [this]
        exact ⟨rfl, rfl⟩

set_option maxHeartbeats 400000 in
/-- bytes.Clone: nil stays nil; else a new row of the same bytes -/
theorem clone_any (v : Value) (l : List UInt8) (w : World) (hv : Bs w v l) (hl : l.length ≤ 140737488355328) :
    Calls Try.prog 35 #[v] w fun e w' => ∃ v', e = .returned v' ∧ w'.ownsRow w.heap.size 5 1 v' l.length (u8s l) ∧ Kept [] w w' := by
  have q22 : ∀ (w : World) (a : Option Addr) (n c n' c' : Nat), (binOp .eql 25 (.slice a n c) (.slice none n' c')).run Try.prog w = .ok (.bool a.isNone) w := fun w a n c n' c' => Lib.run_eql_slice_nil w _ _ a n c n' c' Try.underlying25
  obtain ⟨p, c, rfl, h1, h2, h3, h4⟩ := hv
  cases p with
  | none =>
    obtain rfl := h3 rfl
    obtain rfl : l = [] := List.eq_nil_of_length_eq_zero (by omega)
    go_enter Try.func35, Try.ntmps35
    go_wp2
    go_ret
    exact ⟨_, rfl, World.ownsRow_nil _ _ _ _, Kept.refl _ _⟩
  | some a =>
    go_enter Try.func35, Try.ntmps35
    have hB : Bs (w.alloc (.cells #[] 5)) (.slice (some a) l.length c) l := Bs.kept ⟨some a, c, rfl, h1, h2, h3, h4⟩ ((Kept.refl [] w).alloc _)
    go_wp2_with (at_builtin; refine wpList_append_bs rfl _ _ 25 rfl w.heap.size 5 Try.underlying25 (by kernel_rfl) _ _ _ rfl (World.ownsRow_made w #[] 0 (Nat.le_refl _) (by decide) rfl) _ l rfl hB (by omega) (by simp) ?_; intro v' w1 hown hg hat)
    go_ret
    exact ⟨_, rfl, by simpa using hown, ((Kept.refl [] w).alloc _).grown hg fun k hk => .inr (own_ge (World.ownsRow_made (base := w.heap.size) (e := 5) (size := 1) w #[] 0 (Nat.le_refl _) (by decide) rfl) k hk)⟩
end Go.Proofs.Ytppdidimhchlgaa
