/-
  OWN WORK. What Part, Cut and Lay answer, in plain words.
-/
import Derived.Test.YtoildbbfnhjfoaaLaws3
namespace Go.Proofs.Ytoildbbfnhjfoaa
set_option linter.unusedVariables false

/-- f, t is the least range outside of which the first n places of a and b agree; 0, 0 where there is none -/
structure PartIs (a b : List UInt8) (n f t : Nat) : Prop where
  le : f ≤ t
  top : t ≤ n
  out : ∀ i, i < n → (i < f ∨ t ≤ i) → a[i]? = b[i]?
  ends : f < t → a[f]? ≠ b[f]? ∧ a[t - 1]? ≠ b[t - 1]?
  zero : f = t → t = 0
theorem PartIs.start (a b : List UInt8) : PartIs a b 0 0 0 := ⟨Nat.le_refl _, Nat.le_refl _, fun i h => by omega, fun h => by omega, fun _ => rfl⟩
theorem PartIs.same {a b : List UInt8} {n f t : Nat} (h : PartIs a b n f t) (e : a[n]? = b[n]?) : PartIs a b (n + 1) f t :=
  ⟨h.le, Nat.le_succ_of_le h.top, fun i hi ho => by rcases Nat.lt_or_ge i n with c | c; exact h.out i c ho; rw [show i = n by omega]; exact e, h.ends, h.zero⟩
theorem PartIs.next {a b : List UInt8} {n f t : Nat} (h : PartIs a b n f t) (e : a[n]? ≠ b[n]?) : PartIs a b (n + 1) (if t = 0 then n else f) (n + 1) := by
  have hle := h.le
  have htop := h.top
  by_cases ht : t = 0
  · rw [if_pos ht]
    exact ⟨by omega, Nat.le_refl _, fun i hi ho => h.out i (by omega) (by omega), fun _ => ⟨e, by simpa using e⟩, fun h => by omega⟩
  · rw [if_neg ht]
    have hft : f < t := by
      rcases Nat.lt_or_ge f t with c | c
      · exact c
      · have := h.zero (by omega); omega
    exact ⟨by omega, Nat.le_refl _, fun i hi ho => h.out i (by omega) (by omega), fun _ => ⟨(h.ends hft).1, by simpa using e⟩, fun h => by omega⟩
theorem PartIs.uniq {a b : List UInt8} {n f t f' t' : Nat} (h : PartIs a b n f t) (k : PartIs a b n f' t') : f = f' ∧ t = t' := by
  have h1 := h.le; have h2 := h.top; have k1 := k.le; have k2 := k.top
  by_cases c : f < t
  · obtain ⟨e1, e2⟩ := h.ends c
    by_cases c' : f' < t'
    · obtain ⟨e1', e2'⟩ := k.ends c'
      have a1 : ¬ (f < f' ∨ t' ≤ f) := fun x => e1 (k.out f (by omega) x)
      have a2 : ¬ (t - 1 < f' ∨ t' ≤ t - 1) := fun x => e2 (k.out (t - 1) (by omega) x)
      have b1 : ¬ (f' < f ∨ t ≤ f') := fun x => e1' (h.out f' (by omega) x)
      have b2 : ¬ (t' - 1 < f ∨ t ≤ t' - 1) := fun x => e2' (h.out (t' - 1) (by omega) x)
      omega
    · have := k.zero (by omega)
      exact absurd (k.out f (by omega) (by omega)) e1
  · have := h.zero (by omega)
    by_cases c' : f' < t'
    · obtain ⟨e1', e2'⟩ := k.ends c'
      exact absurd (h.out f' (by omega) (by omega)) e1'
    · have := k.zero (by omega)
      omega
/-- the range that parts them, laid over the one, makes the other -/
theorem PartIs.turn {a b : List UInt8} {f t : Nat} (h : PartIs a b a.length f t) (hl : a.length = b.length) : over a f ((b.drop f).take (t - f)) = b := by
  have h1 := h.le; have h2 := h.top
  have hr : ((b.drop f).take (t - f)).length = t - f := by simp; omega
  apply List.ext_getElem?
  intro i
  rw [over_at _ _ _ (by rw [hr]; omega), hr]
  split
  · rw [List.getElem?_take, if_pos (by omega), List.getElem?_drop]
    congr 1; omega
  · by_cases hi : i < a.length
    · exact h.out i hi (by omega)
    · rw [List.getElem?_eq_none (by omega), List.getElem?_eq_none (by omega)]
theorem PartIs.symm {a b : List UInt8} {n f t : Nat} (h : PartIs a b n f t) : PartIs b a n f t :=
  ⟨h.le, h.top, fun i hi ho => (h.out i hi ho).symm, fun c => ⟨(h.ends c).1.symm, (h.ends c).2.symm⟩, h.zero⟩
/-- equal bytes, as the walk holds them against each other -/
theorem byte_ne {l m : List UInt8} {i : Nat} (h : i < l.length) (k : i < m.length) (hne : l[i]? ≠ m[i]?) : ¬ ((l[i].toNat : Int) = (m[i].toNat : Int)) := fun e => by
  apply hne
  rw [List.getElem?_eq_getElem h, List.getElem?_eq_getElem k]
  congr 1
  exact UInt8.toNat_inj.1 (by omega)
theorem byte_eq {l m : List UInt8} {i : Nat} (h : i < l.length) (k : i < m.length) (he : l[i]? = m[i]?) : (l[i].toNat : Int) = (m[i].toNat : Int) := by
  rw [List.getElem?_eq_getElem h, List.getElem?_eq_getElem k] at he
  simp only [Option.some.injEq] at he
  rw [he]
/-- what Cut refuses -/
def cutBad (n : Nat) (f t : Int) : Prop := f < 0 ∨ t < f ∨ (n : Int) < t
/-- what Lay refuses -/
def layBad (n : Nat) (f : Int) (m : Nat) : Prop := f < 0 ∨ (n : Int) < f ∨ (n : Int) - f < (m : Int)
/-- the first byte more of what is cut -/
theorem cut_succ (a : List UInt8) (f j : Nat) (h : f + j < a.length) : (a.drop f).take j ++ [a[f + j]] = (a.drop f).take (j + 1) := by
  rw [List.take_succ_eq_append_getElem (by simp; omega)]
  simp
theorem take_snoc (l : List UInt8) (k : Nat) (x : UInt8) (h : l[k]? = some x) : l.take k ++ [x] = l.take (k + 1) := by
  obtain ⟨hk, rfl⟩ := List.getElem?_eq_some_iff.1 h
  rw [List.take_succ_eq_append_getElem hk]
/-- what Part answers -/
def PartAns (a b : List UInt8) (f t : Nat) (z : Int) : Prop := (a.length ≠ b.length ∧ f = 0 ∧ t = 0 ∧ z = 31) ∨ (a.length = b.length ∧ z = 0 ∧ PartIs a b a.length f t)
theorem PartAns.uniq {a b : List UInt8} {f t f' t' : Nat} {z z' : Int} (h : PartAns a b f t z) (k : PartAns a b f' t' z') : f = f' ∧ t = t' ∧ z = z' := by
  rcases h with ⟨h0, rfl, rfl, rfl⟩ | ⟨h0, rfl, h1⟩
  · rcases k with ⟨k0, rfl, rfl, rfl⟩ | ⟨k0, -⟩
    · exact ⟨rfl, rfl, rfl⟩
    · exact absurd k0 h0
  · rcases k with ⟨k0, -⟩ | ⟨k0, rfl, k1⟩
    · exact absurd h0 k0
    · obtain ⟨rfl, rfl⟩ := h1.uniq k1
      exact ⟨rfl, rfl, rfl⟩
instance (n : Nat) (f t : Int) : Decidable (cutBad n f t) := by unfold cutBad; infer_instance
instance (n : Nat) (f : Int) (m : Nat) : Decidable (layBad n f m) := by unfold layBad; infer_instance
/-- what Cut answers: the bytes, and the error's number -/
def cutL (a : List UInt8) (f t : Int) : List UInt8 := if cutBad a.length f t then [] else (a.drop f.toNat).take (t - f).toNat
def cutE (a : List UInt8) (f t : Int) : Int := if cutBad a.length f t then 30 else 0
/-- what Lay answers -/
def layL (a : List UInt8) (f : Int) (r : List UInt8) : List UInt8 := if layBad a.length f r.length then [] else over a f.toNat r
def layE (a : List UInt8) (f : Int) (r : List UInt8) : Int := if layBad a.length f r.length then 30 else 0
theorem cutL_le (a : List UInt8) (f t : Int) : (cutL a f t).length ≤ a.length := by
  unfold cutL
  split
  · simp
  · simp; omega
theorem layL_le (a : List UInt8) (f : Int) (r : List UInt8) : (layL a f r).length ≤ a.length := by
  unfold layL
  split
  · simp
  · rename_i h
    unfold layBad at h
    rw [over_length _ _ _ (by omega)]
    omega
end Go.Proofs.Ytoildbbfnhjfoaa
