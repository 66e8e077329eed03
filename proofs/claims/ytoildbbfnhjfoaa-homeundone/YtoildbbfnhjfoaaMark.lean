/-
  OWN WORK. Marks: a family of rows, each written full of a mark of its own.
-/
import Derived.Test.YtoildbbfnhjfoaaRows
import Derived.Test.YtoildbbfnhjfoaaFam
namespace Go.Proofs.Ytoildbbfnhjfoaa
open Go.RowKit
set_option linter.unusedVariables false

def mk (k : Nat) : UInt8 := UInt8.ofNat (k + 1)
theorem mk_int (k : Nat) : ((k : Int) + 1) % 256 = ((mk k).toNat : Int) := by
  unfold mk
  rw [UInt8.toNat_ofNat']
  omega
def rep (n k : Nat) : List UInt8 := List.replicate n (mk k)
theorem rep_length (n k : Nat) : (rep n k).length = n := by simp [rep]
theorem rep_get {n k i : Nat} (h : i < n) : (rep n k)[i]? = some (mk k) := by simp [rep, h]
theorem rep_snoc (n k : Nat) : rep n k ++ [mk k] = rep (n + 1) k := by unfold rep; rw [List.replicate_succ']
/-- the first i bytes written over -/
def part (l : List UInt8) (i k : Nat) : List UInt8 := List.replicate i (mk k) ++ l.drop i
theorem part_zero (l : List UInt8) (k : Nat) : part l 0 k = l := by simp [part]
theorem part_length (l : List UInt8) (i k : Nat) (h : i ≤ l.length) : (part l i k).length = l.length := by simp [part]; omega
theorem part_all (l : List UInt8) (k : Nat) : part l l.length k = rep l.length k := by simp [part, rep]
theorem part_succ (l : List UInt8) (i k : Nat) (h : i < l.length) : (part l i k).set i (mk k) = part l (i + 1) k := by
  unfold part
  rw [List.set_append_right _ _ (by simp), List.length_replicate, Nat.sub_self, List.drop_eq_getElem_cons h, List.set_cons_zero, List.replicate_succ', List.append_assoc]
  rfl
/-- the first k rows marked -/
def nn (ls : List (List UInt8)) (j : Nat) : Nat := (ls.getD j []).length
def midl (ls : List (List UInt8)) (k : Nat) : List (List UInt8) := (List.range ls.length).map fun j => if j < k then rep (nn ls j) j else ls.getD j []
theorem midl_length (ls : List (List UInt8)) (k : Nat) : (midl ls k).length = ls.length := by simp [midl]
theorem midl_get (ls : List (List UInt8)) (k j : Nat) (h : j < ls.length) : (midl ls k)[j]? = some (if j < k then rep (nn ls j) j else ls.getD j []) := by simp [midl, h]
theorem midl_zero (ls : List (List UInt8)) : midl ls 0 = ls := by
  apply List.ext_getElem? 
  intro j
  by_cases h : j < ls.length
  · rw [midl_get ls 0 j h]
    simp [List.getD, List.getElem?_eq_getElem h]
  · rw [List.getElem?_eq_none (by rw [midl_length]; omega), List.getElem?_eq_none (by omega)]
theorem midl_succ (ls : List (List UInt8)) (k : Nat) (h : k < ls.length) : (midl ls k).set k (rep (nn ls k) k) = midl ls (k + 1) := by
  apply List.ext_getElem?
  intro j
  by_cases hj : j < ls.length
  · rw [midl_get ls (k + 1) j hj, List.getElem?_set]
    by_cases e : k = j
    · subst e
      rw [if_pos rfl, if_pos (by rw [midl_length]; exact h), if_pos (by omega)]
    · rw [if_neg e, midl_get ls k j hj]
      by_cases hjk : j < k
      · rw [if_pos hjk, if_pos (by omega)]
      · rw [if_neg hjk, if_neg (by omega)]
  · rw [List.getElem?_eq_none (by rw [List.length_set, midl_length]; omega), List.getElem?_eq_none (by rw [midl_length]; omega)]

/-- one row of the family is written -/
theorem Fam.set {w w' : World} {base : Nat} {vs : List Value} {ls : List (List UInt8)} (h : Fam w base vs ls) (k : Nat) (v : Value) (l' : List UInt8) (hv : vs[k]? = some v) (kp : Kept v.ownBlock.toList w w') (ho : w'.ownsRow base 5 1 v l'.length (u8s l')) : Fam w' base vs (ls.set k l') := by
  refine ⟨by rw [List.length_set]; exact h.len, fun i u m hu hm => ?_, h.apart⟩
  rw [List.getElem?_set] at hm
  by_cases e : k = i
  · subst e
    rw [if_pos rfl] at hm
    split at hm
    · simp at hm
      subst hm
      rw [hv] at hu
      simp at hu
      subst hu
      exact ho
    · cases hm
  · rw [if_neg e] at hm
    refine own_of_kept (h.own i u m hu hm) kp fun x hx hmem => ?_
    have hvx : v.ownBlock = some x := by simpa using hmem
    rcases Nat.lt_or_ge i k with hik | hik
    · exact h.apart i k u v x hik hu hv hx hvx
    · exact h.apart k i v u x (by omega) hv hu hvx hx
/-- the blocks of a family -/
def blocks (vs : List Value) : List Nat := vs.filterMap Value.ownBlock
theorem mem_blocks {vs : List Value} {k x : Nat} {v : Value} (hv : vs[k]? = some v) (hx : v.ownBlock = some x) : x ∈ blocks vs := by
  unfold blocks
  rw [List.mem_filterMap]
  exact ⟨v, List.mem_of_getElem? hv, hx⟩
theorem blocks_mem {vs : List Value} {x : Nat} (h : x ∈ blocks vs) : ∃ (k : Nat) (v : Value), vs[k]? = some v ∧ v.ownBlock = some x := by
  unfold blocks at h
  rw [List.mem_filterMap] at h
  obtain ⟨v, hv, hx⟩ := h
  obtain ⟨k, hk⟩ := List.getElem?_of_mem hv
  exact ⟨k, v, hk, hx⟩
theorem Fam.not8 {w : World} {base : Nat} {vs : List Value} {ls : List (List UInt8)} (h : Fam w base vs ls) {x : Nat} (hx : x ∈ blocks vs) : ¬ Not8 w x ∧ base ≤ x ∧ x < w.heap.size := by
  obtain ⟨k, v, hv, ho⟩ := blocks_mem hx
  have hk : k < ls.length := by rw [← h.len]; exact (List.getElem?_eq_some_iff.1 hv).1
  have hw := h.own k v ls[k] hv (List.getElem?_eq_getElem hk)
  exact ⟨fun hn => own_is8 hw x ho hn, own_ge hw x ho, own_lt hw x ho⟩
/-- a byte of an owned row is set -/
theorem set_own {w : World} {base e b n cap : Nat} {l : List UInt8} (ow : w.ownsRow base e 1 (.slice (some ⟨b, 0, none⟩) n cap) n (u8s l)) (k : Nat) (y : UInt8) (z : Int) (hz : z = (y.toNat : Int)) :
    (w.setCell ⟨b, k, none⟩ (.int .u8 z)).ownsRow base e 1 (.slice (some ⟨b, 0, none⟩) n cap) n (u8s (l.set k y)) ∧ Kept [b] w (w.setCell ⟨b, k, none⟩ (.int .u8 z)) := by
  subst hz
  have h := ow.stored k (.int .u8 (y.toNat : Int))
  refine ⟨?_, Kept.ofGrown h.2 (by intro x hx _; simp at hx; simp [hx])⟩
  have e : (u8s l).set k (.int .u8 (y.toNat : Int)) = u8s (l.set k y) := by simp [u8s, List.map_set]
  rw [← e]
  exact h.1
end Go.Proofs.Ytoildbbfnhjfoaa
