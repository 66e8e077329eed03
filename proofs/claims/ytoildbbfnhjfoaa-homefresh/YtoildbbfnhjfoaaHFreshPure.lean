/-
  OWN WORK. A page with one key: put again, taken away, its key turned.
-/
import Derived.Test.YtoildbbfnhjfoaaHomePure
import Derived.Test.YtoildbbfnhjfoaaFam
namespace Go.Proofs.Ytoildbbfnhjfoaa
set_option linter.unusedVariables false

/-- a page of n slots with one key in the first slot -/
structure One (L : List UInt8) (n q v : Nat) : Prop where
  s : slotsOf L = n
  pos : 1 ≤ n
  row : slotB L 0 = rowOf q v
  qb : q < 4294967296
  rest : ∀ j, 0 < j → j < n → usedAt L j = false
theorem One.find {L : List UInt8} {n q v : Nat} (h : One L n q v) : findIn L (q : Int) = some 0 := by
  refine findIn_eq_some (by rw [h.s]; exact h.pos) ?_ ?_ (fun j hj => by omega)
  · rw [usedAt_R, h.row, usedR_row]
  · rw [keyAt_R, h.row, keyR_row h.qb]
theorem One.has {L : List UInt8} {n q v : Nat} (h : One L n q v) : findB L (q : Int) = true := by unfold findB; rw [h.find]; rfl
theorem One.put {L : List UInt8} {n q v : Nat} (h : One L n q v) (u : Nat) : putE L (q : Int) = 0 ∧ putL L (q : Int) u = withSlot L 0 (rowOf q u) := by
  have hat : putAt L (q : Int) = some 0 := by unfold putAt; rw [h.find]
  have hE : putE L (q : Int) = 0 := by unfold putE; rw [if_neg (by rw [h.s]; have := h.pos; omega), if_neg (by have := h.qb; omega), hat]
  exact ⟨hE, by unfold putL; rw [if_pos hE, hat]; rfl⟩
theorem One.put_same {L : List UInt8} {n q v : Nat} (h : One L n q v) : putL L (q : Int) v = L := by
  rw [(h.put v).2, withSlot_back h.row (by rw [h.s]; exact h.pos)]
theorem One.put_len {L : List UInt8} {n q v : Nat} (h : One L n q v) (u : Nat) : (putL L (q : Int) u).length = L.length := by
  rw [(h.put u).2]; exact withSlot_length (rowOf_length _ _) (by rw [h.s]; exact h.pos)
theorem One.del_len {L : List UInt8} {n q v : Nat} (h : One L n q v) : (delL L (q : Int)).length = L.length := by rw [delL_len, if_pos h.has]
theorem One.start (n q v : Nat) (h1 : 1 ≤ n) (h8 : n ≤ 8) (hq : q < 4294967296) : putE (zeros (24 + 16 * n)) (q : Int) = 0 ∧ One (putL (zeros (24 + 16 * n)) (q : Int) v) n q v := by
  have hs := zeros_slots n h1 h8
  have hno : ∀ j, j < slotsOf (zeros (24 + 16 * n)) → usedAt (zeros (24 + 16 * n)) j = false := fun j hj => by
    rw [usedAt_R, zeros_slot n j h1 h8 (by rw [hs] at hj; exact hj), usedR_zeros]
  have h0 : 0 < slotsOf (zeros (24 + 16 * n)) := by rw [hs]; exact h1
  have hf : findIn (zeros (24 + 16 * n)) (q : Int) = none := findIn_eq_none fun j hj hc => by rw [hno j hj] at hc; cases hc.1
  have hat : putAt (zeros (24 + 16 * n)) (q : Int) = some 0 := by unfold putAt; rw [hf]; exact freeIn_eq_some h0 (hno 0 h0) (fun j hj => by omega)
  have hE : putE (zeros (24 + 16 * n)) (q : Int) = 0 := by unfold putE; rw [if_neg (by omega), if_neg (by omega), hat]
  have hL : putL (zeros (24 + 16 * n)) (q : Int) v = withSlot (zeros (24 + 16 * n)) 0 (rowOf q v) := by unfold putL; rw [if_pos hE, hat]; rfl
  refine ⟨hE, ?_⟩
  rw [hL]
  have hs2 := withSlot_slots (rowOf_length q v) h0
  refine ⟨hs2.trans hs, h1, withSlot_same (rowOf_length _ _) h0, hq, fun j hj0 hjn => ?_⟩
  rw [usedAt_R, withSlot_other (rowOf_length _ _) h0 (by rw [hs]; exact hjn) (by omega), ← usedAt_R]
  exact hno j (by rw [hs]; exact hjn)
/-- with the key's first byte turned the key is gone -/
theorem One.turned {L : List UInt8} {n q v : Nat} (h : One L n q v) (y : UInt8) (hy : L[20]? = some y) : findB (L.set 20 (y + 1)) (q : Int) = false := by
  have hl := slots_len L (by rw [h.s]; have := h.pos; omega)
  rw [h.s] at hl
  have hp := h.pos
  have hs : slotsOf (L.set 20 (y + 1)) = slotsOf L := slots_of_len (by rw [List.length_set])
  unfold findB
  rw [findIn_eq_none]
  · rfl
  intro j hj hc
  rw [hs, h.s] at hj
  by_cases e : j = 0
  · subst e
    have hk : keyAt L 0 = q := by rw [keyAt_R, h.row, keyR_row h.qb]
    have e1 : L.drop 20 = y :: L.drop 21 := by
      obtain ⟨h20, rfl⟩ := List.getElem?_eq_some_iff.1 hy
      exact List.drop_eq_getElem_cons h20
    have e2 : (L.set 20 (y + 1)).drop 20 = (y + 1) :: L.drop 21 := by
      rw [List.drop_set, if_neg (by omega), Nat.sub_self, e1, List.set_cons_zero]
    have k1 : keyAt L 0 = y.toNat + 256 * low ((L.drop 21).take 3) := by
      unfold keyAt
      rw [show 20 + 16 * 0 = 20 from rfl, e1]
      rfl
    have k2 : keyAt (L.set 20 (y + 1)) 0 = (y + 1).toNat + 256 * low ((L.drop 21).take 3) := by
      unfold keyAt
      rw [show 20 + 16 * 0 = 20 from rfl, e2]
      rfl
    have hc2 := hc.2
    have hne : (y + 1).toNat ≠ y.toNat := by
      rw [UInt8.toNat_add]
      have := y.toNat_lt
      simp
      omega
    rw [k2] at hc2
    rw [k1] at hk
    omega
  · have hu := h.rest j (by omega) hj
    have : usedAt (L.set 20 (y + 1)) j = usedAt L j := by
      unfold usedAt
      rw [List.getElem?_set, if_neg (by omega)]
    rw [this, hu] at hc
    cases hc.1
/-- the front of an owned row -/
theorem cut_bs {w : World} {base b n c : Nat} {l r : List UInt8} (ho : w.ownsRow base 5 1 (.slice (some ⟨b, 0, none⟩) n c) n (u8s (l ++ r))) : Bs w (.slice (some ⟨b, 0, none⟩) l.length c) l := by
  have hn : n = l.length + r.length := by have := ho.1; rw [u8s_length] at this; simp at this; omega
  have hb := Bs.ofOwn ho
  obtain ⟨p, c', e, h1, h2, h3, h4⟩ := hb
  simp at e
  obtain ⟨rfl, e2, rfl⟩ := e
  refine ⟨_, c, rfl, by simp at h1; omega, h2, fun e => (by cases e), fun a ha i x hx => h4 a ha i x ?_⟩
  rw [List.getElem?_append_left (List.getElem?_eq_some_iff.1 hx).1]
  exact hx
theorem byte_up (y : UInt8) : ((y.toNat : Int) + 1) % 256 = ((y + 1).toNat : Int) := by
  rw [UInt8.toNat_add]
  simp
theorem snoc_rep (k : Nat) (y : UInt8) (l : List UInt8) : (l ++ List.replicate k y) ++ [y] = l ++ List.replicate (k + 1) y := by rw [List.append_assoc, ← List.replicate_succ']
theorem wide_at (L : List UInt8) (j : Nat) (h : j < 200) : (u8s (L ++ List.replicate 200 165))[L.length + j]? = some (.int .u8 165) := by
  unfold u8s
  rw [List.getElem?_map, List.getElem?_append_right (by omega), show L.length + j - L.length = j by omega, List.getElem?_replicate, if_pos h]
  rfl
theorem wide_set (L R : List UInt8) (i : Nat) (y : UInt8) (h : i < L.length) : (L ++ R).set i y = L.set i y ++ R := List.set_append_left i y h
theorem wide_get (L R : List UInt8) (i : Nat) (y : UInt8) (h : L[i]? = some y) : (u8s (L ++ R))[i]? = some (.int .u8 (y.toNat : Int)) := by
  unfold u8s
  rw [List.getElem?_map, List.getElem?_append_left (List.getElem?_eq_some_iff.1 h).1, h]
  rfl
theorem nn_of (ls : List (List UInt8)) (M : Nat) (h : ∀ l ∈ ls, l.length ≤ M) (j : Nat) : (ls.getD j []).length ≤ M := by
  skip
  rw [List.getD]
  cases e : ls[j]? with
  | none => simp
  | some l => exact h l (List.mem_of_getElem? e)
end Go.Proofs.Ytoildbbfnhjfoaa
