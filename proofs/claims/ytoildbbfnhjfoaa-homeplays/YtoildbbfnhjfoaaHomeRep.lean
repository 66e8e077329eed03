/-
  OWN WORK. A page that tells just the keys of a plain list.
-/
import Derived.Test.YtoildbbfnhjfoaaHomePure
namespace Go.Proofs.Ytoildbbfnhjfoaa
set_option linter.unusedVariables false

/-- THE PAGE L OF n SLOTS TELLS JUST THE LIST hs: of keys, values, slots. -/
structure Rep (L : List UInt8) (hs : List (Nat × Nat × Nat)) (n : Nat) : Prop where
  s : slotsOf L = n
  pos : 1 ≤ n
  held : ∀ (i : Nat) x, hs[i]? = some x → x.2.2 < n ∧ usedAt L x.2.2 = true ∧ keyAt L x.2.2 = x.1 ∧ valAt L x.2.2 = x.2.1
  keys : ∀ (i j : Nat) x y, hs[i]? = some x → hs[j]? = some y → x.1 = y.1 → i = j
  used : ∀ t, t < n → usedAt L t = true → ∃ (i : Nat) (x : Nat × Nat × Nat), hs[i]? = some x ∧ x.2.2 = t
theorem Rep.slots {L : List UInt8} {hs : List (Nat × Nat × Nat)} {n : Nat} (h : Rep L hs n) {i j : Nat} {x y : Nat × Nat × Nat} (hx : hs[i]? = some x) (hy : hs[j]? = some y) (e : x.2.2 = y.2.2) : i = j := by
  refine h.keys i j x y hx hy ?_
  rw [← (h.held i x hx).2.2.1, ← (h.held j y hy).2.2.1, e]
theorem Rep.find {L : List UInt8} {hs : List (Nat × Nat × Nat)} {n : Nat} (h : Rep L hs n) {i : Nat} {x : Nat × Nat × Nat} (hx : hs[i]? = some x) : findIn L (x.1 : Int) = some x.2.2 := by
  obtain ⟨h1, h2, h3, h4⟩ := h.held i x hx
  refine findIn_eq_some (by rw [h.s]; exact h1) h2 (by rw [h3]) fun j hj hc => ?_
  obtain ⟨k, y, hy, e⟩ := h.used j (by omega) hc.1
  subst e
  have e1 := (h.held k y hy).2.2.1
  have : i = k := h.keys i k x y hx hy (by have := hc.2; omega)
  subst this
  rw [hx] at hy
  cases hy
  omega
theorem Rep.nofind {L : List UInt8} {hs : List (Nat × Nat × Nat)} {n : Nat} (h : Rep L hs n) {key : Nat} (hno : ∀ (i : Nat) x, hs[i]? = some x → x.1 ≠ key) : findIn L (key : Int) = none := by
  refine findIn_eq_none fun j hj hc => ?_
  obtain ⟨k, y, hy, e⟩ := h.used j (by rw [← h.s]; exact hj) hc.1
  subst e
  have e1 := (h.held k y hy).2.2.1
  exact hno k y hy (by have := hc.2; omega)
theorem at_with {L r : List UInt8} {t : Nat} (hr : r.length = 16) (ht : t < slotsOf L) (j : Nat) (hj : j < slotsOf L) :
    usedAt (withSlot L t r) j = (if j = t then usedR r else usedAt L j) ∧ keyAt (withSlot L t r) j = (if j = t then keyR r else keyAt L j) ∧ valAt (withSlot L t r) j = (if j = t then valR r else valAt L j) := by
  rw [usedAt_R, keyAt_R, valAt_R]
  by_cases e : j = t
  · subst e
    rw [withSlot_same hr ht, if_pos rfl, if_pos rfl, if_pos rfl]
    exact ⟨rfl, rfl, rfl⟩
  · rw [withSlot_other hr ht hj (Ne.symm e), if_neg e, if_neg e, if_neg e, usedAt_R, keyAt_R, valAt_R]
    exact ⟨rfl, rfl, rfl⟩
theorem Rep.put_old {L : List UInt8} {hs : List (Nat × Nat × Nat)} {n : Nat} (h : Rep L hs n) {i : Nat} {x : Nat × Nat × Nat} (hx : hs[i]? = some x) {v : Nat} (hv : v < 18446744073709551616) :
    putE L (x.1 : Int) = 0 ∧ putL L (x.1 : Int) v = withSlot L x.2.2 (rowOf x.1 v) ∧ Rep (withSlot L x.2.2 (rowOf x.1 v)) (hs.set i (x.1, v, x.2.2)) n := by
  obtain ⟨h1, h2, h3, h4⟩ := h.held i x hx
  have hi : i < hs.length := (List.getElem?_eq_some_iff.1 hx).1
  have hk : x.1 < 4294967296 := by rw [← h3]; exact keyAt_lt _ _
  have hat : putAt L (x.1 : Int) = some x.2.2 := by unfold putAt; rw [h.find hx]
  have hE : putE L (x.1 : Int) = 0 := by unfold putE; rw [if_neg (by rw [h.s]; have := h.pos; omega), if_neg (by omega), hat]
  have hL : putL L (x.1 : Int) v = withSlot L x.2.2 (rowOf x.1 v) := by unfold putL; rw [if_pos hE, hat]; rfl
  have ht : x.2.2 < slotsOf L := by rw [h.s]; exact h1
  have hset : ∀ (j : Nat) y, (hs.set i (x.1, v, x.2.2))[j]? = some y → (j = i ∧ y = (x.1, v, x.2.2)) ∨ (j ≠ i ∧ hs[j]? = some y) := by
    intro j y hy
    rw [List.getElem?_set] at hy
    by_cases e : i = j
    · rw [if_pos e, if_pos (by omega)] at hy
      cases hy
      exact .inl ⟨e.symm, rfl⟩
    · rw [if_neg e] at hy
      exact .inr ⟨Ne.symm e, hy⟩
  refine ⟨hE, hL, (withSlot_slots (rowOf_length _ _) ht).trans h.s, h.pos, fun j y hy => ?_, fun j k y z hy hz e => ?_, fun t htn hu => ?_⟩
  · rcases hset j y hy with ⟨-, rfl⟩ | ⟨hne, hy'⟩
    · obtain ⟨a1, a2, a3⟩ := at_with (rowOf_length x.1 v) ht x.2.2 ht
      rw [if_pos rfl] at a1 a2 a3
      exact ⟨h1, by rw [a1, usedR_row], by rw [a2, keyR_row hk], by rw [a3, valR_row hv]⟩
    · obtain ⟨b1, b2, b3, b4⟩ := h.held j y hy'
      obtain ⟨a1, a2, a3⟩ := at_with (rowOf_length x.1 v) ht y.2.2 (by rw [h.s]; exact b1)
      have hn : ¬ y.2.2 = x.2.2 := fun e => hne (h.slots hy' hx e)
      rw [if_neg hn] at a1 a2 a3
      exact ⟨b1, by rw [a1, b2], by rw [a2, b3], by rw [a3, b4]⟩
  · rcases hset j y hy with ⟨rfl, rfl⟩ | ⟨_, hy'⟩ <;> rcases hset k z hz with ⟨rfl, rfl⟩ | ⟨_, hz'⟩
    · rfl
    · exact h.keys _ _ _ _ hx hz' e
    · exact h.keys _ _ _ _ hy' hx e
    · exact h.keys _ _ _ _ hy' hz' e
  · by_cases e : t = x.2.2
    · exact ⟨i, (x.1, v, x.2.2), by rw [List.getElem?_set, if_pos rfl, if_pos hi], e.symm⟩
    · obtain ⟨a1, a2, a3⟩ := at_with (rowOf_length x.1 v) ht t (by rw [h.s]; exact htn)
      rw [if_neg e] at a1
      obtain ⟨k, y, hy, ey⟩ := h.used t htn (by rw [← a1]; exact hu)
      have hki : ¬ i = k := fun e' => by subst e'; rw [hx] at hy; cases hy; exact e ey.symm
      exact ⟨k, y, by rw [List.getElem?_set, if_neg hki]; exact hy, ey⟩
theorem Rep.put_new {L : List UInt8} {hs : List (Nat × Nat × Nat)} {n : Nat} (h : Rep L hs n) {key t : Nat} (hkb : key < 4294967296) (hno : ∀ (i : Nat) x, hs[i]? = some x → x.1 ≠ key) (ht : t < n) (hlow : ∀ j, j < t → usedAt L j = true) (hfr : usedAt L t = false) {v : Nat} (hv : v < 18446744073709551616) :
    putE L (key : Int) = 0 ∧ putL L (key : Int) v = withSlot L t (rowOf key v) ∧ Rep (withSlot L t (rowOf key v)) (hs ++ [(key, v, t)]) n := by
  have hts : t < slotsOf L := by rw [h.s]; exact ht
  have hat : putAt L (key : Int) = some t := by unfold putAt; rw [h.nofind hno]; exact freeIn_eq_some hts hfr hlow
  have hE : putE L (key : Int) = 0 := by unfold putE; rw [if_neg (by omega), if_neg (by omega), hat]
  have hL : putL L (key : Int) v = withSlot L t (rowOf key v) := by unfold putL; rw [if_pos hE, hat]; rfl
  have hcase : ∀ (j : Nat) y, (hs ++ [(key, v, t)])[j]? = some y → (j = hs.length ∧ y = (key, v, t)) ∨ (j < hs.length ∧ hs[j]? = some y) := by
    intro j y hy
    by_cases c : j < hs.length
    · rw [List.getElem?_append_left c] at hy
      exact .inr ⟨c, hy⟩
    · rw [List.getElem?_append_right (by omega)] at hy
      have : j - hs.length = 0 := by
        have := (List.getElem?_eq_some_iff.1 hy).1
        simp at this
        omega
      rw [this] at hy
      exact .inl ⟨by omega, by simpa using hy.symm⟩
  refine ⟨hE, hL, (withSlot_slots (rowOf_length _ _) hts).trans h.s, h.pos, fun j y hy => ?_, fun j k y z hy hz e => ?_, fun r hrn hu => ?_⟩
  · rcases hcase j y hy with ⟨-, rfl⟩ | ⟨hne, hy'⟩
    · obtain ⟨a1, a2, a3⟩ := at_with (rowOf_length key v) hts t hts
      rw [if_pos rfl] at a1 a2 a3
      exact ⟨ht, by rw [a1, usedR_row], by rw [a2, keyR_row hkb], by rw [a3, valR_row hv]⟩
    · obtain ⟨b1, b2, b3, b4⟩ := h.held j y hy'
      obtain ⟨a1, a2, a3⟩ := at_with (rowOf_length key v) hts y.2.2 (by rw [h.s]; exact b1)
      have hn : ¬ y.2.2 = t := fun e => by rw [e, hfr] at b2; cases b2
      rw [if_neg hn] at a1 a2 a3
      exact ⟨b1, by rw [a1, b2], by rw [a2, b3], by rw [a3, b4]⟩
  · rcases hcase j y hy with ⟨rfl, rfl⟩ | ⟨_, hy'⟩ <;> rcases hcase k z hz with ⟨rfl, rfl⟩ | ⟨_, hz'⟩
    · rfl
    · exact absurd e.symm (hno k z hz')
    · exact absurd e (hno j y hy')
    · exact h.keys _ _ _ _ hy' hz' e
  · by_cases e : r = t
    · exact ⟨hs.length, (key, v, t), by simp, e.symm⟩
    · obtain ⟨a1, a2, a3⟩ := at_with (rowOf_length key v) hts r (by rw [h.s]; exact hrn)
      rw [if_neg e] at a1
      obtain ⟨k, y, hy, ey⟩ := h.used r hrn (by rw [← a1]; exact hu)
      exact ⟨k, y, by rw [List.getElem?_append_left (List.getElem?_eq_some_iff.1 hy).1]; exact hy, ey⟩
theorem Rep.put_full {L : List UInt8} {hs : List (Nat × Nat × Nat)} {n : Nat} (h : Rep L hs n) {key : Nat} (hkb : key < 4294967296) (hno : ∀ (i : Nat) x, hs[i]? = some x → x.1 ≠ key) (hall : ∀ j, j < n → usedAt L j = true) (v : Nat) : putE L (key : Int) = 42 ∧ putL L (key : Int) v = [] := by
  have hat : putAt L (key : Int) = none := by unfold putAt; rw [h.nofind hno]; exact freeIn_eq_none fun j hj => hall j (by rw [← h.s]; exact hj)
  have hE : putE L (key : Int) = 42 := by unfold putE; rw [if_neg (by rw [h.s]; have := h.pos; omega), if_neg (by omega), hat]
  exact ⟨hE, by unfold putL; rw [if_neg (by rw [hE]; omega)]⟩
theorem Rep.del {L : List UInt8} {hs : List (Nat × Nat × Nat)} {n : Nat} (h : Rep L hs n) {i : Nat} {x : Nat × Nat × Nat} (hx : hs[i]? = some x) :
    findB L (x.1 : Int) = true ∧ delL L (x.1 : Int) = withSlot L x.2.2 (zeros 16) ∧ Rep (withSlot L x.2.2 (zeros 16)) (hs.take i ++ hs.drop (i + 1)) n := by
  obtain ⟨h1, h2, h3, h4⟩ := h.held i x hx
  have hi : i < hs.length := (List.getElem?_eq_some_iff.1 hx).1
  have hf := h.find hx
  have ht : x.2.2 < slotsOf L := by rw [h.s]; exact h1
  have hget : ∀ (j : Nat) y, (hs.take i ++ hs.drop (i + 1))[j]? = some y → ∃ k, k ≠ i ∧ hs[k]? = some y ∧ (k = if j < i then j else j + 1) := by
    intro j y hy
    have hl : (hs.take i).length = i := by simp; omega
    by_cases c : j < i
    · rw [List.getElem?_append_left (by omega), List.getElem?_take, if_pos c] at hy
      exact ⟨j, by omega, hy, by rw [if_pos c]⟩
    · rw [List.getElem?_append_right (by omega), List.getElem?_drop, hl] at hy
      exact ⟨i + 1 + (j - i), by omega, hy, by rw [if_neg c]; omega⟩
  refine ⟨by unfold findB; rw [hf]; rfl, by unfold delL; rw [hf], (withSlot_slots (zeros_length _) ht).trans h.s, h.pos, fun j y hy => ?_, fun j k y z hy hz e => ?_, fun t htn hu => ?_⟩
  · obtain ⟨k, hk, hy', -⟩ := hget j y hy
    obtain ⟨b1, b2, b3, b4⟩ := h.held k y hy'
    obtain ⟨a1, a2, a3⟩ := at_with (zeros_length 16) ht y.2.2 (by rw [h.s]; exact b1)
    have hn : ¬ y.2.2 = x.2.2 := fun e => hk (h.slots hy' hx e)
    rw [if_neg hn] at a1 a2 a3
    exact ⟨b1, by rw [a1, b2], by rw [a2, b3], by rw [a3, b4]⟩
  · obtain ⟨k1, _, hy', e1⟩ := hget j y hy
    obtain ⟨k2, _, hz', e2⟩ := hget k z hz
    have := h.keys _ _ _ _ hy' hz' e
    subst this
    split at e1 <;> split at e2 <;> omega
  · obtain ⟨a1, a2, a3⟩ := at_with (zeros_length 16) ht t (by rw [h.s]; exact htn)
    by_cases e : t = x.2.2
    · rw [if_pos e] at a1
      rw [a1, usedR_zeros] at hu
      cases hu
    · rw [if_neg e] at a1
      obtain ⟨k, y, hy, ey⟩ := h.used t htn (by rw [← a1]; exact hu)
      have hki : k ≠ i := fun e' => by subst e'; rw [hx] at hy; cases hy; exact e ey.symm
      have hl : (hs.take i).length = i := by simp; omega
      by_cases c : k < i
      · exact ⟨k, y, by rw [List.getElem?_append_left (by omega), List.getElem?_take, if_pos c]; exact hy, ey⟩
      · exact ⟨k - 1, y, by rw [List.getElem?_append_right (by omega), List.getElem?_drop, hl, show i + 1 + (k - 1 - i) = k by omega]; exact hy, ey⟩
theorem Rep.nodel {L : List UInt8} {hs : List (Nat × Nat × Nat)} {n : Nat} (h : Rep L hs n) {key : Nat} (hno : ∀ (i : Nat) x, hs[i]? = some x → x.1 ≠ key) : findB L (key : Int) = false ∧ delL L (key : Int) = [] := by
  have hf := h.nofind hno
  exact ⟨by unfold findB; rw [hf]; rfl, by unfold delL; rw [hf]⟩
/-- numbers that are all unlike and below n are at most n -/
theorem pigeon (n : Nat) (l : List Nat) (hd : ∀ (i j : Nat) x, l[i]? = some x → l[j]? = some x → i = j) (hb : ∀ x ∈ l, x < n) : l.length ≤ n := by
  have hn : l.Nodup := by
    unfold List.Nodup
    rw [List.pairwise_iff_getElem]
    intro i j hi hj hij e
    have := hd i j l[j] (by rw [List.getElem?_eq_getElem hi, e]) (List.getElem?_eq_getElem hj)
    omega
  have hs : l ⊆ List.range n := fun x hx => List.mem_range.2 (hb x hx)
  have := hn.length_le_of_subset hs
  simpa using this
theorem Rep.len {L : List UInt8} {hs : List (Nat × Nat × Nat)} {n : Nat} (h : Rep L hs n) : hs.length ≤ n := by
  have := pigeon n (hs.map fun x => x.2.2) (fun i j x hi hj => ?_) (fun x hx => ?_)
  · simpa using this
  · rw [List.getElem?_map] at hi hj
    obtain ⟨y, hy, rfl⟩ := Option.map_eq_some_iff.1 hi
    obtain ⟨z, hz, e⟩ := Option.map_eq_some_iff.1 hj
    exact h.slots hy hz e.symm
  · obtain ⟨y, hy, rfl⟩ := List.mem_map.1 hx
    obtain ⟨i, hi, rfl⟩ := List.mem_iff_getElem.1 hy
    exact (h.held i _ (List.getElem?_eq_getElem hi)).1
theorem Rep.start {L : List UInt8} {n : Nat} (hs : slotsOf L = n) (h1 : 1 ≤ n) (hz : ∀ i, i < n → usedAt L i = false) : Rep L [] n :=
  ⟨hs, h1, fun i x hx => by simp at hx, fun i j x y hx => by simp at hx, fun t ht hu => by rw [hz t ht] at hu; cases hu⟩
end Go.Proofs.Ytoildbbfnhjfoaa
