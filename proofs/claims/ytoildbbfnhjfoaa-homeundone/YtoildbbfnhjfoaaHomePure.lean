/-
  OWN WORK. Slots that are laid and taken away: what follows, of bytes alone.
-/
import Derived.Test.YtoildbbfnhjfoaaPageLib
namespace Go.Proofs.Ytoildbbfnhjfoaa
set_option linter.unusedVariables false

/-- a slot's bytes -/
def slotB (a : List UInt8) (i : Nat) : List UInt8 := (a.drop (16 + 16 * i)).take 16
theorem slotB_length {a : List UInt8} {i : Nat} (h : i < slotsOf a) : (slotB a i).length = 16 := by
  have := slots_len a (by omega)
  simp [slotB]; omega
theorem slotB_at {a : List UInt8} {i j : Nat} (h : j < 16) : (slotB a i)[j]? = a[16 + 16 * i + j]? := by
  simp [slotB, h]
theorem withSlot_at {a r : List UInt8} {i : Nat} (hr : r.length = 16) (h : i < slotsOf a) (t : Nat) : (withSlot a i r)[t]? = if 16 + 16 * i ≤ t ∧ t < 32 + 16 * i then r[t - (16 + 16 * i)]? else a[t]? := by
  have := slots_len a (by omega)
  unfold withSlot
  rw [over_at _ _ _ (by omega), hr]
  by_cases c : 16 + 16 * i ≤ t ∧ t < 32 + 16 * i
  · rw [if_pos c, if_pos (by omega)]
  · rw [if_neg c, if_neg (by omega)]
theorem withSlot_same {a r : List UInt8} {i : Nat} (hr : r.length = 16) (h : i < slotsOf a) : slotB (withSlot a i r) i = r := by
  apply List.ext_getElem?
  intro j
  by_cases hj : j < 16
  · rw [slotB_at hj, withSlot_at hr h, if_pos (by omega), show 16 + 16 * i + j - (16 + 16 * i) = j by omega]
  · rw [List.getElem?_eq_none (by rw [slotB_length (by rw [withSlot_slots hr h]; exact h)]; omega), List.getElem?_eq_none (by omega)]
theorem withSlot_other {a r : List UInt8} {i j : Nat} (hr : r.length = 16) (h : i < slotsOf a) (hj : j < slotsOf a) (hij : i ≠ j) : slotB (withSlot a i r) j = slotB a j := by
  apply List.ext_getElem?
  intro k
  by_cases hk : k < 16
  · rw [slotB_at hk, slotB_at hk, withSlot_at hr h, if_neg (by omega)]
  · rw [List.getElem?_eq_none (by rw [slotB_length (by rw [withSlot_slots hr h]; exact hj)]; omega), List.getElem?_eq_none (by rw [slotB_length hj]; omega)]
theorem withSlot_twice {a r s : List UInt8} {i : Nat} (hr : r.length = 16) (hs : s.length = 16) (h : i < slotsOf a) : withSlot (withSlot a i r) i s = withSlot a i s := by
  apply List.ext_getElem?
  intro t
  rw [withSlot_at hs (by rw [withSlot_slots hr h]; exact h), withSlot_at hs h, withSlot_at hr h]
  split
  · rfl
  · rfl
theorem withSlot_back {a r : List UInt8} {i : Nat} (hr : slotB a i = r) (h : i < slotsOf a) : withSlot a i r = a := by
  subst hr
  apply List.ext_getElem?
  intro t
  rw [withSlot_at (slotB_length h) h]
  split
  · rename_i c
    rw [slotB_at (by omega)]
    congr 1; omega
  · rfl
/-- what a slot's bytes say -/
def usedR (r : List UInt8) : Bool := decide (r[0]? = some 1)
def keyR (r : List UInt8) : Nat := low ((r.drop 4).take 4)
def valR (r : List UInt8) : Nat := low ((r.drop 8).take 8)
theorem usedAt_R (a : List UInt8) (i : Nat) : usedAt a i = usedR (slotB a i) := by unfold usedAt usedR; rw [slotB_at (by omega)]; rfl
theorem keyAt_R (a : List UInt8) (i : Nat) : keyAt a i = keyR (slotB a i) := by
  unfold keyAt keyR slotB
  rw [List.drop_take, List.drop_drop, List.take_take, show 20 + 16 * i = 16 + 16 * i + 4 by omega]
  congr 2
theorem valAt_R (a : List UInt8) (i : Nat) : valAt a i = valR (slotB a i) := by
  unfold valAt valR slotB
  rw [List.drop_take, List.drop_drop, List.take_take, show 24 + 16 * i = 16 + 16 * i + 8 by omega]
  congr 2
theorem usedR_row (k v : Nat) : usedR (rowOf k v) = true := by simp [usedR, rowOf]
theorem keyR_row {k v : Nat} (h : k < 4294967296) : keyR (rowOf k v) = k := by
  have e : ((rowOf k v).drop 4).take 4 = lay 4 k := by
    have h1 : (rowOf k v).drop 4 = lay 4 k ++ lay 8 v := by simp [rowOf]
    have h2 := take_left (lay 4 k) (lay 8 v)
    rw [lay_length] at h2
    rw [h1, h2]
  unfold keyR
  rw [e, low_lay_lt 4 k (by omega)]
theorem valR_row {k v : Nat} (h : v < 18446744073709551616) : valR (rowOf k v) = v := by
  have e : ((rowOf k v).drop 8).take 8 = lay 8 v := by
    have h1 : (rowOf k v).drop 8 = lay 8 v := by
      have h2 := drop_left ([1, 0, 0, 0] ++ lay 4 k) (lay 8 v)
      rw [List.length_append, lay_length] at h2
      exact h2
    rw [h1, List.take_of_length_le (by rw [lay_length]; omega)]
  unfold valR
  rw [e, low_lay_lt 8 v (by omega)]
theorem usedR_zeros : usedR (zeros 16) = false := by decide
theorem find_congr {a b : List UInt8} {key : Int} {i : Nat} (hs : slotsOf a = slotsOf b) (h : i < slotsOf a) (hu : usedAt b i = true) (hk : (keyAt b i : Int) = key)
    (hf : ∀ j, j < i → ¬ (usedAt a j = true ∧ (keyAt a j : Int) = key)) (he : ∀ j, j < i → slotB b j = slotB a j) : findIn b key = some i :=
  findIn_eq_some (by rw [← hs]; exact h) hu hk fun j hj => by
    have := hf j hj
    rw [usedAt_R, keyAt_R] at this ⊢
    rw [he j hj]; exact this
/-- a page whose slots were laid by Fill and Free alone -/
def Tidy (a : List UInt8) : Prop := ∀ i, i < slotsOf a → slotB a i = zeros 16 ∨ ∃ k v, k < 4294967296 ∧ v < 18446744073709551616 ∧ slotB a i = rowOf k v
theorem zeros_slot (n i : Nat) (h1 : 1 ≤ n) (h8 : n ≤ 8) (hi : i < n) : slotB (zeros (24 + 16 * n)) i = zeros 16 := by
  apply List.ext_getElem?
  intro j
  by_cases hj : j < 16
  · rw [slotB_at hj]
    unfold zeros
    rw [List.getElem?_replicate, List.getElem?_replicate, if_pos (by omega), if_pos (by omega)]
  · rw [List.getElem?_eq_none, List.getElem?_eq_none]
    · rw [zeros_length]; omega
    · simp [slotB]; omega
theorem zeros_slots (n : Nat) (h1 : 1 ≤ n) (h8 : n ≤ 8) : slotsOf (zeros (24 + 16 * n)) = n := slots_eq _ n h1 h8 (zeros_length _)
theorem Tidy.start (n : Nat) (h1 : 1 ≤ n) (h8 : n ≤ 8) : Tidy (zeros (24 + 16 * n)) := fun i hi => .inl (zeros_slot n i h1 h8 (by rw [zeros_slots n h1 h8] at hi; exact hi))
theorem Tidy.lay {a r : List UInt8} {i : Nat} (h : Tidy a) (hr : r.length = 16) (hi : i < slotsOf a) (hw : r = zeros 16 ∨ ∃ k v, k < 4294967296 ∧ v < 18446744073709551616 ∧ r = rowOf k v) : Tidy (withSlot a i r) := fun j hj => by
  rw [withSlot_slots hr hi] at hj
  by_cases e : i = j
  · subst e
    rw [withSlot_same hr hi]; exact hw
  · rw [withSlot_other hr hi hj e]; exact h j hj
/-- what Put does, where it is not refused -/
theorem put_ok {a : List UInt8} {key : Int} (h : putE a key = 0) : ∃ (k i : Nat), key = (k : Int) ∧ k < 4294967296 ∧ putAt a key = some i ∧ i < slotsOf a ∧ ∀ v, putL a key v = withSlot a i (rowOf k v) := by
  have h' := h
  unfold putE at h
  split at h
  · omega
  · split at h
    · omega
    · cases e : putAt a key with
      | none => rw [e] at h; simp at h
      | some i => exact ⟨key.toNat, i, by omega, by omega, rfl, putAt_lt e, fun v => by unfold putL; rw [if_pos h', e]⟩
theorem put_not {a : List UInt8} {key : Int} {k : Nat} (h0 : slotsOf a ≠ 0) (hk : key = (k : Int)) (hb : k < 4294967296) (h : ¬ putE a key = 0) : putE a key = 42 ∧ putAt a key = none ∧ ∀ v, putL a key v = [] := by
  have e : putAt a key = none := by
    cases e : putAt a key with
    | none => rfl
    | some i => exact absurd (by unfold putE; rw [if_neg h0, if_neg (by omega), e]) h
  exact ⟨by unfold putE; rw [if_neg h0, if_neg (by omega), e], e, fun v => by unfold putL; rw [if_neg h]⟩
theorem del_ok {a : List UInt8} {key : Int} (h : findB a key = true) : ∃ i, findIn a key = some i ∧ i < slotsOf a ∧ delL a key = withSlot a i (zeros 16) := by
  unfold findB at h
  cases e : findIn a key with
  | none => rw [e] at h; cases h
  | some i => exact ⟨i, rfl, (findIn_some e).1, by unfold delL; rw [e]⟩
theorem Tidy.put {a : List UInt8} {key : Int} (h : Tidy a) (hp : putE a key = 0) (v : Nat) (hv : v < 18446744073709551616) : Tidy (putL a key v) ∧ slotsOf (putL a key v) = slotsOf a ∧ (putL a key v).length = a.length := by
  obtain ⟨k, i, rfl, hk, -, hi, hL⟩ := put_ok hp
  rw [hL]
  exact ⟨h.lay (rowOf_length _ _) hi (.inr ⟨k, v, hk, hv, rfl⟩), withSlot_slots (rowOf_length _ _) hi, withSlot_length (rowOf_length _ _) hi⟩
theorem Tidy.del {a : List UInt8} {key : Int} (h : Tidy a) (hp : findB a key = true) : Tidy (delL a key) ∧ slotsOf (delL a key) = slotsOf a ∧ (delL a key).length = a.length := by
  obtain ⟨i, -, hi, hL⟩ := del_ok hp
  rw [hL]
  exact ⟨h.lay (zeros_length _) hi (.inl rfl), withSlot_slots (zeros_length _) hi, withSlot_length (zeros_length _) hi⟩
/-- a put into a free slot is undone by a delete -/
theorem undone_del {a : List UInt8} {key : Int} (h : Tidy a) (hp : putE a key = 0) (hf : findB a key = false) (v : Nat) : findB (putL a key v) key = true ∧ delL (putL a key v) key = a := by
  obtain ⟨k, i, rfl, hk, hat, hi, hL⟩ := put_ok hp
  have hno : findIn a (k : Int) = none := by unfold findB at hf; cases e : findIn a (k : Int) with
    | none => rfl
    | some j => rw [e] at hf; cases hf
  have hfree : freeIn a = some i := by unfold putAt at hat; rw [hno] at hat; exact hat
  obtain ⟨-, hu, hlt⟩ := freeIn_some hfree
  have hz : slotB a i = zeros 16 := by
    rcases h i hi with c | ⟨k', v', -, -, c⟩
    · exact c
    · rw [usedAt_R, c, usedR_row] at hu; cases hu
  have hfi : findIn (putL a (k : Int) v) (k : Int) = some i := by
    rw [hL]
    refine find_congr (withSlot_slots (rowOf_length _ _) hi).symm hi ?_ ?_ (fun j hj => findIn_none hno j (by omega)) fun j hj => withSlot_other (rowOf_length _ _) hi (by omega) (by omega)
    · rw [usedAt_R, withSlot_same (rowOf_length _ _) hi, usedR_row]
    · rw [keyAt_R, withSlot_same (rowOf_length _ _) hi, keyR_row hk]
  refine ⟨by unfold findB; rw [hfi]; rfl, ?_⟩
  unfold delL
  rw [hfi, hL]
  simp only []
  rw [withSlot_twice (rowOf_length _ _) (zeros_length _) hi, withSlot_back hz hi]
/-- a put over a value is undone by a put of the old one -/
theorem undone_put {a : List UInt8} {key : Int} (h : Tidy a) (hp : putE a key = 0) (hf : findB a key = true) (v : Nat) : putE (putL a key v) key = 0 ∧ putL (putL a key v) key (valI a key) = a := by
  obtain ⟨k, i, rfl, hk, hat, hi, hL⟩ := put_ok hp
  obtain ⟨j, hj, -, -⟩ := del_ok hf
  have hij : j = i := by unfold putAt at hat; rw [hj] at hat; simpa using hat
  subst hij
  obtain ⟨-, hu, hkey, hlt⟩ := findIn_some hj
  have hfi : findIn (putL a (k : Int) v) (k : Int) = some j := by
    rw [hL]
    refine find_congr (withSlot_slots (rowOf_length _ _) hi).symm hi ?_ ?_ hlt fun x hx => withSlot_other (rowOf_length _ _) hi (by omega) (by omega)
    · rw [usedAt_R, withSlot_same (rowOf_length _ _) hi, usedR_row]
    · rw [keyAt_R, withSlot_same (rowOf_length _ _) hi, keyR_row hk]
  have hat2 : putAt (putL a (k : Int) v) (k : Int) = some j := by unfold putAt; rw [hfi]
  have hs2 : slotsOf (putL a (k : Int) v) = slotsOf a := by rw [hL]; exact withSlot_slots (rowOf_length _ _) hi
  have hp2 : putE (putL a (k : Int) v) (k : Int) = 0 := by unfold putE; rw [hs2, if_neg (by omega), if_neg (by omega), hat2]
  refine ⟨hp2, ?_⟩
  have hrow : slotB a j = rowOf k (valI a (k : Int)) := by
    have hv : valI a (k : Int) = valAt a j := by unfold valI; rw [hj]
    rcases h j hi with c | ⟨k', v', hk', hv', c⟩
    · rw [usedAt_R, c, usedR_zeros] at hu; cases hu
    · rw [hv, valAt_R, c, valR_row hv']
      rw [keyAt_R, c, keyR_row hk'] at hkey
      rw [show k' = k by omega]
  obtain ⟨k3, i3, e3, hk3, hat3, hi3, hL3⟩ := put_ok hp2
  have e4 : i3 = j := by rw [hat2] at hat3; simpa using hat3.symm
  have e5 : k3 = k := by omega
  subst e4 e5
  rw [hL3, hL, withSlot_twice (rowOf_length _ _) (rowOf_length _ _) hi, withSlot_back hrow hi]
end Go.Proofs.Ytoildbbfnhjfoaa
