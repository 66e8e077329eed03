/-
  OWN WORK. The law's small functions: num, lent, whole, alive.
-/
import Derived.Test.YtkghbmdicinnnaaRows
import Derived.Deep.QuietTactic
import Derived.BigQuiet
import Derived.Deep.RegionHeld3
import Derived.Test.YtkghbmdicinnnaaImg
import Derived.Test.YtkghbmdicinnnaaMark
namespace Go.Proofs.Ytkghbmdicinnnaa
open Go.RowKit
set_option linter.unusedVariables false

/-- the 120 marks of the spare room -/
def spare : List UInt8 := (List.range 120).map fun j => UInt8.ofNat (129 + j)
theorem spare_length : spare.length = 120 := rfl
theorem spare_at (j : Nat) (h : j < 120) : spare[j]? = some (UInt8.ofNat (129 + j)) := by simp [spare, h]
/-- lent, the first k bytes laid -/
def lent1 (p : List UInt8) (k : Nat) : List UInt8 := p.take k ++ List.replicate (p.length + 120 - k) 0
theorem lent1_zero (p : List UInt8) : lent1 p 0 = List.replicate (p.length + 120) 0 := by simp [lent1]
theorem lent1_length (p : List UInt8) (k : Nat) (h : k ≤ p.length) : (lent1 p k).length = p.length + 120 := by simp [lent1]; omega
theorem lent1_succ (p : List UInt8) (k : Nat) (h : k < p.length) : (lent1 p k).set k p[k] = lent1 p (k + 1) := by
  unfold lent1
  rw [List.set_append_right _ _ (by simp; omega), show p.length + 120 - k = (p.length + 120 - (k + 1)) + 1 by omega, List.replicate_succ]
  have : k - (p.take k).length = 0 := by simp; omega
  rw [this, List.set_cons_zero, List.take_succ_eq_append_getElem h, List.append_assoc]
  rfl
/-- and behind them j marks -/
def lent2 (p : List UInt8) (j : Nat) : List UInt8 := p ++ (spare.take j ++ List.replicate (120 - j) 0)
theorem lent2_zero (p : List UInt8) : lent2 p 0 = lent1 p p.length := by simp [lent2, lent1]
theorem lent2_all (p : List UInt8) : lent2 p 120 = p ++ spare := by
  unfold lent2
  rw [List.take_of_length_le (by rw [spare_length]; omega)]
  simp
theorem lent2_length (p : List UInt8) (j : Nat) (h : j ≤ 120) : (lent2 p j).length = p.length + 120 := by simp [lent2, spare_length]; omega
theorem lent2_succ (p : List UInt8) (j : Nat) (h : j < 120) : (lent2 p j).set (p.length + j) (UInt8.ofNat (129 + j)) = lent2 p (j + 1) := by
  unfold lent2
  rw [List.set_append_right _ _ (by omega), show p.length + j - p.length = j by omega, List.set_append_right _ _ (by simp; exact Nat.min_le_left _ _), show 120 - j = (120 - (j + 1)) + 1 by omega, List.replicate_succ]
  have : j - (spare.take j).length = 0 := by simp [spare_length]; omega
  rw [this, List.set_cons_zero]
  obtain ⟨hj, e⟩ := List.getElem?_eq_some_iff.1 (spare_at j h)
  rw [List.take_succ_eq_append_getElem hj, e]
  simp
theorem mark_byte (n j : Nat) : (129 + ((n + j : Nat) : Int) - (n : Int)) % 256 = ((UInt8.ofNat (129 + j)).toNat : Int) := by
  rw [UInt8.toNat_ofNat']
  omega
set_option maxHeartbeats 1600000 in
theorem lent_any (u : Value) (p : List UInt8) (w : World) (hu : Bs w u p) (hl : p.length ≤ 140737488355000) :
    Calls Try.prog 13 #[u] w fun e w' => ∃ v, e = .returned v ∧ w'.ownsRow w.heap.size 5 1 v (p.length + 120) (u8s (p ++ spare)) ∧ Kept [] w w' := by
  have hmk := fun u => run_make_bs (P := Try.prog) u 22 5 Try.underlying22 (by kernel_rfl) (p.length + 120) (p.length + 120) (by omega) (by omega)
  have ec : ((p.length + 120 : Nat) : Int) = (p.length : Int) + 120 := by omega
  rw [ec] at hmk
  have hown0 := own_made w 5 w.heap.size (p.length + 120) (p.length + 120) (Nat.le_refl _) (by omega) (by unfold maxLen; omega)
  rw [← lent1_zero] at hown0
  obtain ⟨q, c, rfl, h1, h2, -⟩ := id hu
  go_enter Try.func13, Try.ntmps13
  go_wp2
  go_loopw [4] (fun i wr => ∃ k : Nat, k ≤ p.length ∧ i = .int .i64 k ∧ wr.ownsRow w.heap.size 5 1 (.slice (some ⟨w.heap.size, 0, none⟩) (p.length + 120) (p.length + 120)) (p.length + 120) (u8s (lent1 p k)) ∧ Kept [] w wr) (fun i _ => p.length - (intOf i).toNat)
  case atStart => exact ⟨0, Nat.zero_le _, rfl, hown0, (Kept.refl _ _).alloc _⟩
  case round =>
    clear hown0 hmk
    obtain ⟨k, hk, rfl, hown, hkept⟩ := hrel
    by_cases hlt : k < p.length
    · obtain ⟨b, o, c', e', -, -, -, hcell⟩ := hu.pos (by omega)
      simp only [Value.slice.injEq] at e'
      obtain ⟨rfl, -, rfl⟩ := e'
      have hc := hkept.cell (hcell k p[k] (List.getElem?_eq_getElem (by omega))) (by simp)
      have hpl : k < (lent1 p k).length := by rw [lent1_length _ _ hk]; omega
      have hcc := hown.cellAt k (by omega)
      rw [show (u8s (lent1 p k))[k]? = some (.int .u8 (((lent1 p k)[k]).toNat : Int)) from by simp [u8s, List.getElem?_eq_getElem hpl]] at hcc
      have hf := hown.frozenAt k
      obtain ⟨ow2, kw2⟩ := set_own hown k p[k] _ rfl
      rw [lent1_succ p k hlt] at ow2
      have kw3 := hkept.trans kw2 (by simp)
      clear hcell kw2 hown
      go_wp2
      go_roundw
      case rel => exact ⟨k + 1, by omega, by go_num, ow2, kw3⟩
      case measure => simp [intOf]; omega
    · obtain rfl : k = p.length := by omega
      rw [← lent2_zero] at hown
      go_wp2
      generalize wr = w1 at *
      go_loopw [5] (fun i wr => ∃ k : Nat, k ≤ 120 ∧ i = .int .i64 ((p.length : Int) + (k : Int)) ∧ wr.ownsRow w.heap.size 5 1 (.slice (some ⟨w.heap.size, 0, none⟩) (p.length + 120) (p.length + 120)) (p.length + 120) (u8s (lent2 p k)) ∧ Kept [] w wr) (fun i _ => p.length + 120 - (intOf i).toNat)
      case atStart => exact ⟨0, Nat.zero_le _, by simp, hown, hkept⟩
      case round =>
        clear hown hkept
        obtain ⟨j, hj, rfl, hown, hkept⟩ := hrel
        by_cases hlt : j < 120
        · have hpl : p.length + j < (lent2 p j).length := by rw [lent2_length _ _ hj]; omega
          have ew1 : IntKind.i64.wrap (129 + ((p.length : Int) + (j : Int))) = 129 + ((p.length : Int) + (j : Int)) := by rw [IntKind.wrap_i64]; omega
          have ew2 : IntKind.i64.wrap (129 + ((p.length : Int) + (j : Int)) - (p.length : Int)) = 129 + (j : Int) := by rw [IntKind.wrap_i64]; omega
          have ew3 : IntKind.i64.wrap ((p.length : Int) + (j : Int) + 1) = (p.length : Int) + (j : Int) + 1 := by rw [IntKind.wrap_i64]; omega
          have en : ((p.length : Int) + (j : Int)).toNat = p.length + j := by omega
          have e0 : 0 ≤ (p.length : Int) + (j : Int) := by omega
          have et : (p.length : Int) + (j : Int) < (p.length : Int) + 120 := by omega
          have HL : Hid (p.length ≤ 140737488355000) := hl
          have HT : Hid (j < 120) := hlt
          clear hl hlt
          have hcc := hown.cellAt (p.length + j) (by omega)
          rw [show (u8s (lent2 p j))[p.length + j]? = some (.int .u8 (((lent2 p j)[p.length + j]).toNat : Int)) from by simp [u8s, List.getElem?_eq_getElem hpl]] at hcc
          have hf := hown.frozenAt (p.length + j)
          go_wp2
          obtain ⟨ow2, kw2⟩ := set_own hown (p.length + j) (UInt8.ofNat (129 + j)) (129 + (j : Int)) (by rw [UInt8.toNat_ofNat']; omega)
          rw [lent2_succ p j HT.out] at ow2
          go_roundw
          case rel => exact ⟨j + 1, HT.out, by go_num, ow2, hkept.trans kw2 (by simp)⟩
          case measure => have := HT.out; simp [intOf]; omega
        · obtain rfl : j = 120 := by omega
          rw [lent2_all] at hown
          go_wp2
          go_ret
          exact ⟨_, rfl, hown, hkept⟩

/-- 'string(b)' -/
theorem Bs.text {w : World} {v : Value} {l : List UInt8} (h : Bs w v l) : (Go.convert 22 9 v).run Try.prog w = .ok (.string ⟨l.toArray⟩) w := h.convert Try.underlying22 Try.underlying5 Try.underlying9
theorem num_any (z : Int) (w : World) : Calls Try.prog 10 #[.int .i64 z] w fun e w' => e = .returned (.int .i64 z) ∧ w' = w := by
  go_enter Try.func10, Try.ntmps10
  go_wp2
  go_ret
  exact ⟨rfl, rfl⟩
set_option maxHeartbeats 1600000 in
theorem whole_any (u v : Value) (l p : List UInt8) (w : World) (hu : Bs w u l) (hv : Bs w v p) (hl : p.length ≤ 140737488355000) :
    Calls Try.prog 15 #[u, v] w fun e w' => e = .returned (.bool (l == p ++ spare)) ∧ Kept [] w w' := by
  have hcv : ∀ w', Kept [] w w' → (convert 22 9 u).run Try.prog w' = .ok (.string ⟨l.toArray⟩) w' := fun w' k => (hu.kept k).text
  obtain ⟨pu, cu, rfl, -⟩ := id hu
  obtain ⟨pv, cv, rfl, -⟩ := id hv
  go_enter Try.func15, Try.ntmps15
  go_wp2
  have hcd := hcv w.drew (Kept.refl [] w).drew
  go_region_with ((go_at_call 13; refine (lent_any _ p _ (by exact hv.heap rfl) hl).mono ?_; rintro e w1 ⟨v1, rfl, O1, k1⟩; obtain ⟨p1, c1, rfl⟩ := own_shape2 O1; have hc1 := (Bs.ofOwn O1).text; have hc2 := hcv w1 ((Kept.refl [] w).drew.then k1)))
  all_goals
    go_wp2
    go_ret
    exact ⟨rfl, (Kept.refl [] w).drew.then k1⟩
end Go.Proofs.Ytkghbmdicinnnaa
