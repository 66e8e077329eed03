/-
  OWN WORK. A page's bytes, in plain words.
-/
import Derived.Test.YtoildbbfnhjfoaaLaws3
import Derived.Test.YtoildbbfnhjfoaaNum
namespace Go.Proofs.Ytoildbbfnhjfoaa
set_option linter.unusedVariables false

/-- how many slots the bytes have; 0: they are no page's -/
def slotsOf (a : List UInt8) : Nat := if 40 ≤ a.length ∧ a.length ≤ 152 ∧ (a.length - 24) % 16 = 0 then (a.length - 24) / 16 else 0
def usedAt (a : List UInt8) (i : Nat) : Bool := decide (a[16 + 16 * i]? = some 1)
def keyAt (a : List UInt8) (i : Nat) : Nat := low ((a.drop (20 + 16 * i)).take 4)
def valAt (a : List UInt8) (i : Nat) : Nat := low ((a.drop (24 + 16 * i)).take 8)
theorem slots_le (a : List UInt8) : slotsOf a ≤ 8 := by
  unfold slotsOf
  split <;> omega
theorem slots_len (a : List UInt8) (h : slotsOf a ≠ 0) : a.length = 24 + 16 * slotsOf a := by
  unfold slotsOf at h ⊢
  split at h
  · rename_i c
    rw [if_pos c]
    omega
  · exact absurd rfl h
theorem slots_eq (a : List UInt8) (s : Nat) (h1 : 1 ≤ s) (h8 : s ≤ 8) (h : a.length = 24 + 16 * s) : slotsOf a = s := by
  unfold slotsOf
  rw [if_pos (by omega)]
  omega
theorem slots_none (a : List UInt8) (h : ∀ s, 1 ≤ s → s ≤ 8 → a.length ≠ 24 + 16 * s) : slotsOf a = 0 := by
  rcases Nat.eq_zero_or_pos (slotsOf a) with c | c
  · exact c
  · exact absurd (slots_len a (by omega)) (h _ c (slots_le a))
theorem slots_of_len {a b : List UInt8} (h : a.length = b.length) : slotsOf a = slotsOf b := by
  unfold slotsOf
  rw [h]
theorem keyAt_lt (a : List UInt8) (i : Nat) : keyAt a i < 4294967296 := by
  have h := low_lt ((a.drop (20 + 16 * i)).take 4)
  have : ((a.drop (20 + 16 * i)).take 4).length ≤ 4 := by simp; omega
  exact Nat.lt_of_lt_of_le h (Nat.pow_le_pow_right (by omega) this)
theorem valAt_lt (a : List UInt8) (i : Nat) : valAt a i < 18446744073709551616 := low_lt64 _ (by simp; omega)
/-- the error of a slot's place -/
def placeE (a : List UInt8) (i : Int) : Int := if slotsOf a = 0 then 40 else if i < 0 ∨ (slotsOf a : Int) ≤ i then 41 else 0
theorem placeE_ok {a : List UInt8} {i : Int} (h : placeE a i = 0) : ∃ j : Nat, i = (j : Int) ∧ j < slotsOf a ∧ slotsOf a ≠ 0 := by
  unfold placeE at h
  split at h
  · omega
  · split at h
    · omega
    · exact ⟨i.toNat, by omega, by omega, by assumption⟩
theorem placeE_at {a : List UInt8} {j : Nat} (h : j < slotsOf a) : placeE a (j : Int) = 0 := by
  unfold placeE
  rw [if_neg (by omega), if_neg (by omega)]
/-- the bytes of a slot -/
def rowOf (k v : Nat) : List UInt8 := [1, 0, 0, 0] ++ lay 4 k ++ lay 8 v
def zeros (n : Nat) : List UInt8 := List.replicate n 0
theorem rowOf_length (k v : Nat) : (rowOf k v).length = 16 := by simp [rowOf, lay_length]
theorem zeros_length (n : Nat) : (zeros n).length = n := by simp [zeros]
/-- a page with another slot -/
def withSlot (a : List UInt8) (i : Nat) (r : List UInt8) : List UInt8 := over a (16 + 16 * i) r
theorem withSlot_length {a : List UInt8} {i : Nat} {r : List UInt8} (hr : r.length = 16) (h : i < slotsOf a) : (withSlot a i r).length = a.length := by
  have := slots_len a (by omega)
  exact over_length _ _ _ (by omega)
theorem withSlot_slots {a : List UInt8} {i : Nat} {r : List UInt8} (hr : r.length = 16) (h : i < slotsOf a) : slotsOf (withSlot a i r) = slotsOf a := slots_of_len (withSlot_length hr h)
/-- what Slot, Fill and Free answer -/
def slotU (a : List UInt8) (i : Int) : Bool := decide (placeE a i = 0) && usedAt a i.toNat
def slotK (a : List UInt8) (i : Int) : Nat := if slotU a i = true then keyAt a i.toNat else 0
def slotV (a : List UInt8) (i : Int) : Nat := if slotU a i = true then valAt a i.toNat else 0
def fillE (a : List UInt8) (i : Int) (k : Int) : Int := if placeE a i = 0 then (if k < 0 ∨ 4294967295 < k then 50 else 0) else placeE a i
def fillL (a : List UInt8) (i : Int) (k : Int) (v : Nat) : List UInt8 := if fillE a i k = 0 then withSlot a i.toNat (rowOf k.toNat v) else []
def freeL (a : List UInt8) (i : Int) : List UInt8 := if placeE a i = 0 then withSlot a i.toNat (zeros 16) else []
theorem slotU_at {a : List UInt8} {j : Nat} (h : j < slotsOf a) : slotU a (j : Int) = usedAt a j := by simp [slotU, placeE_at h]
theorem slotK_at {a : List UInt8} {j : Nat} (h : j < slotsOf a) (hu : usedAt a j = true) : slotK a (j : Int) = keyAt a j := by simp [slotK, slotU_at h, hu]
theorem slotV_at {a : List UInt8} {j : Nat} (h : j < slotsOf a) (hu : usedAt a j = true) : slotV a (j : Int) = valAt a j := by simp [slotV, slotU_at h, hu]
/-- the first slot from k on that is used and has the key -/
def findFrom (a : List UInt8) (key : Int) : Nat → Nat → Option Nat
  | _, 0 => none
  | k, n + 1 => if usedAt a k = true ∧ (keyAt a k : Int) = key then some k else findFrom a key (k + 1) n
def findIn (a : List UInt8) (key : Int) : Option Nat := findFrom a key 0 (slotsOf a)
/-- the first slot from k on that is not used -/
def freeFrom (a : List UInt8) : Nat → Nat → Option Nat
  | _, 0 => none
  | k, n + 1 => if usedAt a k = false then some k else freeFrom a (k + 1) n
def freeIn (a : List UInt8) : Option Nat := freeFrom a 0 (slotsOf a)
theorem findFrom_some {a : List UInt8} {key : Int} {n k i : Nat} (h : findFrom a key k n = some i) : k ≤ i ∧ i < k + n ∧ usedAt a i = true ∧ (keyAt a i : Int) = key := by
  induction n generalizing k with
  | zero => cases h
  | succ n ih =>
    unfold findFrom at h
    split at h
    · rename_i c
      obtain rfl : k = i := by simpa using h
      exact ⟨Nat.le_refl _, by omega, c⟩
    · obtain ⟨h1, h2, h3⟩ := ih h
      exact ⟨by omega, by omega, h3⟩
theorem findFrom_none {a : List UInt8} {key : Int} {n k : Nat} (h : findFrom a key k n = none) (i : Nat) (h1 : k ≤ i) (h2 : i < k + n) : ¬ (usedAt a i = true ∧ (keyAt a i : Int) = key) := by
  induction n generalizing k with
  | zero => omega
  | succ n ih =>
    unfold findFrom at h
    split at h
    · cases h
    · rename_i c
      rcases Nat.eq_or_lt_of_le h1 with e | e
      · rw [← e]; exact c
      · exact ih h (by omega) (by omega)
theorem findFrom_first {a : List UInt8} {key : Int} {n k i : Nat} (h : findFrom a key k n = some i) (j : Nat) (h1 : k ≤ j) (h2 : j < i) : ¬ (usedAt a j = true ∧ (keyAt a j : Int) = key) := by
  induction n generalizing k with
  | zero => cases h
  | succ n ih =>
    unfold findFrom at h
    split at h
    · rename_i c
      obtain rfl : k = i := by simpa using h
      omega
    · rename_i c
      rcases Nat.eq_or_lt_of_le h1 with e | e
      · rw [← e]; exact c
      · exact ih h (by omega)
theorem findIn_eq_some {a : List UInt8} {key : Int} {i : Nat} (h : i < slotsOf a) (hu : usedAt a i = true) (hk : (keyAt a i : Int) = key) (hf : ∀ j, j < i → ¬ (usedAt a j = true ∧ (keyAt a j : Int) = key)) : findIn a key = some i := by
  unfold findIn
  cases e : findFrom a key 0 (slotsOf a) with
  | none => exact absurd ⟨hu, hk⟩ (findFrom_none e i (by omega) (by omega))
  | some j =>
    obtain ⟨-, h2, h3⟩ := findFrom_some e
    have h4 := findFrom_first e
    rcases Nat.lt_trichotomy i j with c | c | c
    · exact absurd ⟨hu, hk⟩ (h4 i (by omega) c)
    · rw [c]
    · exact absurd h3 (hf j c)
theorem findIn_eq_none {a : List UInt8} {key : Int} (hf : ∀ j, j < slotsOf a → ¬ (usedAt a j = true ∧ (keyAt a j : Int) = key)) : findIn a key = none := by
  unfold findIn
  cases e : findFrom a key 0 (slotsOf a) with
  | none => rfl
  | some j =>
    obtain ⟨-, h2, h3⟩ := findFrom_some e
    exact absurd h3 (hf j (by omega))
theorem findIn_some {a : List UInt8} {key : Int} {i : Nat} (h : findIn a key = some i) : i < slotsOf a ∧ usedAt a i = true ∧ (keyAt a i : Int) = key ∧ ∀ j, j < i → ¬ (usedAt a j = true ∧ (keyAt a j : Int) = key) := by
  obtain ⟨-, h2, h3, h4⟩ := findFrom_some h
  exact ⟨by omega, h3, h4, fun j hj => findFrom_first h j (by omega) hj⟩
theorem findIn_none {a : List UInt8} {key : Int} (h : findIn a key = none) (j : Nat) (hj : j < slotsOf a) : ¬ (usedAt a j = true ∧ (keyAt a j : Int) = key) := findFrom_none h j (by omega) (by omega)
theorem freeFrom_some {a : List UInt8} {n k i : Nat} (h : freeFrom a k n = some i) : k ≤ i ∧ i < k + n ∧ usedAt a i = false ∧ ∀ j, k ≤ j → j < i → usedAt a j = true := by
  induction n generalizing k with
  | zero => cases h
  | succ n ih =>
    unfold freeFrom at h
    split at h
    · rename_i c
      obtain rfl : k = i := by simpa using h
      exact ⟨Nat.le_refl _, by omega, c, fun j h1 h2 => by omega⟩
    · rename_i c
      obtain ⟨h1, h2, h3, h4⟩ := ih h
      refine ⟨by omega, by omega, h3, fun j g1 g2 => ?_⟩
      rcases Nat.eq_or_lt_of_le g1 with e | e
      · rw [← e]; simpa using c
      · exact h4 j (by omega) g2
theorem freeFrom_none {a : List UInt8} {n k : Nat} (h : freeFrom a k n = none) (i : Nat) (h1 : k ≤ i) (h2 : i < k + n) : usedAt a i = true := by
  induction n generalizing k with
  | zero => omega
  | succ n ih =>
    unfold freeFrom at h
    split at h
    · cases h
    · rename_i c
      rcases Nat.eq_or_lt_of_le h1 with e | e
      · rw [← e]; simpa using c
      · exact ih h (by omega) (by omega)
theorem freeIn_eq_some {a : List UInt8} {i : Nat} (h : i < slotsOf a) (hu : usedAt a i = false) (hf : ∀ j, j < i → usedAt a j = true) : freeIn a = some i := by
  unfold freeIn
  cases e : freeFrom a 0 (slotsOf a) with
  | none => have := freeFrom_none e i (by omega) (by omega); rw [hu] at this; cases this
  | some j =>
    obtain ⟨-, h2, h3, h4⟩ := freeFrom_some e
    rcases Nat.lt_trichotomy i j with c | c | c
    · have := h4 i (by omega) c; rw [hu] at this; cases this
    · rw [c]
    · have := hf j c; rw [h3] at this; cases this
theorem freeIn_eq_none {a : List UInt8} (hf : ∀ j, j < slotsOf a → usedAt a j = true) : freeIn a = none := by
  unfold freeIn
  cases e : freeFrom a 0 (slotsOf a) with
  | none => rfl
  | some j =>
    obtain ⟨-, h2, h3, h4⟩ := freeFrom_some e
    have := hf j (by omega); rw [h3] at this; cases this
theorem freeIn_some {a : List UInt8} {i : Nat} (h : freeIn a = some i) : i < slotsOf a ∧ usedAt a i = false ∧ ∀ j, j < i → usedAt a j = true := by
  obtain ⟨-, h2, h3, h4⟩ := freeFrom_some h
  exact ⟨by omega, h3, fun j hj => h4 j (by omega) hj⟩
theorem freeIn_none {a : List UInt8} (h : freeIn a = none) (j : Nat) (hj : j < slotsOf a) : usedAt a j = true := freeFrom_none h j (by omega) (by omega)
/-- where a put lays its row -/
def putAt (a : List UInt8) (key : Int) : Option Nat := match findIn a key with
  | some i => some i
  | none => freeIn a
theorem putAt_lt {a : List UInt8} {key : Int} {i : Nat} (h : putAt a key = some i) : i < slotsOf a := by
  unfold putAt at h
  split at h
  · rename_i j hj
    obtain rfl : j = i := by simpa using h
    exact (findIn_some hj).1
  · exact (freeIn_some h).1
/-- what Put answers -/
def putE (a : List UInt8) (key : Int) : Int := if slotsOf a = 0 then 40 else if key < 0 ∨ 4294967295 < key then 50 else match putAt a key with
  | some _ => 0
  | none => 42
def putL (a : List UInt8) (key : Int) (v : Nat) : List UInt8 := if putE a key = 0 then match putAt a key with
  | some i => withSlot a i (rowOf key.toNat v)
  | none => []
  else []
def delL (a : List UInt8) (key : Int) : List UInt8 := match findIn a key with
  | some i => withSlot a i (zeros 16)
  | none => []
def findI (a : List UInt8) (key : Int) : Nat := (findIn a key).getD 0
def findB (a : List UInt8) (key : Int) : Bool := (findIn a key).isSome
def valI (a : List UInt8) (key : Int) : Nat := match findIn a key with
  | some i => valAt a i
  | none => 0
theorem putL_len (a : List UInt8) (key : Int) (v : Nat) : (putL a key v).length = if putE a key = 0 then a.length else 0 := by
  unfold putL
  split
  · rename_i h
    cases e : putAt a key with
    | none =>
      exfalso
      unfold putE at h
      rw [e] at h
      split at h
      · omega
      · split at h
        · omega
        · simp at h
    | some i => exact withSlot_length (rowOf_length _ _) (putAt_lt e)
  · rfl
theorem delL_len (a : List UInt8) (key : Int) : (delL a key).length = if findB a key = true then a.length else 0 := by
  unfold delL findB
  cases e : findIn a key with
  | none => rfl
  | some i => exact withSlot_length (zeros_length _) (findIn_some e).1
end Go.Proofs.Ytoildbbfnhjfoaa
