/-
  OWN WORK. A family of rows of bytes of the call's own, each in a block of its own.
-/
import Derived.Test.YtoildbbfnhjfoaaRows
import Derived.Test.YtoildbbfnhjfoaaLaws2
import Derived.Test.YtoildbbfnhjfoaaCuts
import Derived.Test.YtoildbbfnhjfoaaBss
namespace Go.Proofs.Ytoildbbfnhjfoaa
open Go.RowKit
set_option linter.unusedVariables false

/-- block k is no row of bytes -/
def Not8 (w : World) (k : Nat) : Prop := ∀ cur m, w.heap[k]? ≠ some (.cells cur 5 m)
theorem own_not8 {w : World} {base e n : Nat} {v : Value} {xs : List Value} (h : w.ownsRow base e 1 v n xs) (he : e ≠ 5) (k : Nat) (hk : v.ownBlock = some k) : Not8 w k := by
  rcases h.2 with ⟨rfl, _⟩ | ⟨g, cap, cur, rfl, h2, h3, h4⟩
  · simp [Value.ownBlock] at hk
  · simp [Value.ownBlock] at hk
    subst hk
    intro cur m h5
    rw [h3] at h5
    simp at h5
    exact he h5.2.1

structure Fam (w : World) (base : Nat) (vs : List Value) (ls : List (List UInt8)) : Prop where
  len : vs.length = ls.length
  own : ∀ (i : Nat) v l, vs[i]? = some v → ls[i]? = some l → w.ownsRow base 5 1 v l.length (u8s l)
  apart : ∀ (i j : Nat) u v x, i < j → vs[i]? = some u → vs[j]? = some v → u.ownBlock = some x → v.ownBlock ≠ some x

theorem own_of_kept {w w' : World} {base e size : Nat} {v : Value} {n : Nat} {xs : List Value} {S : List Nat} (h : w.ownsRow base e size v n xs) (k : Kept S w w') (hS : ∀ x, v.ownBlock = some x → x ∉ S) : w'.ownsRow base e size v n xs := by
  refine ⟨h.1, ?_⟩
  rcases h.2 with h | ⟨g, cap, cur, rfl, h2, h3, h4⟩
  · exact .inl h
  · exact .inr ⟨g, cap, cur, rfl, h2, (k.block g (Array.getElem?_eq_some_iff.1 h3).1 (hS g rfl)).trans h3, h4⟩
theorem own_lt {w : World} {base e size : Nat} {v : Value} {n : Nat} {xs : List Value} (h : w.ownsRow base e size v n xs) (x : Nat) (hx : v.ownBlock = some x) : x < w.heap.size := (h.lt x hx).2
theorem own_is8 {w : World} {base n : Nat} {v : Value} {xs : List Value} (h : w.ownsRow base 5 1 v n xs) (k : Nat) (hk : v.ownBlock = some k) (hn : Not8 w k) : False := by
  rcases h.2 with ⟨rfl, _⟩ | ⟨g, cap, cur, rfl, h2, h3, h4⟩
  · simp [Value.ownBlock] at hk
  · simp [Value.ownBlock] at hk
    subst hk
    exact hn _ _ h3

theorem Fam.nil (w : World) (base : Nat) : Fam w base [] [] := ⟨rfl, by simp, by simp⟩
theorem Fam.lt {w : World} {base : Nat} {vs : List Value} {ls : List (List UInt8)} (h : Fam w base vs ls) (i : Nat) (v : Value) (x : Nat) (hv : vs[i]? = some v) (hx : v.ownBlock = some x) : base ≤ x ∧ x < w.heap.size := by
  have hi : i < ls.length := by rw [← h.len]; exact (List.getElem?_eq_some_iff.1 hv).1
  exact (h.own i v ls[i] hv (List.getElem?_eq_getElem hi)).lt x hx
theorem Fam.kept {w w' : World} {base : Nat} {vs : List Value} {ls : List (List UInt8)} {S : List Nat} (h : Fam w base vs ls) (k : Kept S w w') (hS : ∀ x ∈ S, Not8 w x ∨ w.heap.size ≤ x ∨ x < base) : Fam w' base vs ls := by
  refine ⟨h.len, fun i v l hv hl => ?_, h.apart⟩
  have ho := h.own i v l hv hl
  refine own_of_kept ho k fun x hx hm => ?_
  rcases hS x hm with h1 | h1 | h1
  · exact own_is8 ho x hx h1
  · have := own_lt ho x hx; omega
  · have := own_ge ho x hx; omega
/-- one row more, made just now -/
theorem Fam.snoc {w w' : World} {base : Nat} {vs : List Value} {ls : List (List UInt8)} {S : List Nat} {v : Value} {l : List UInt8} {n : Nat} (h : Fam w base vs ls) (hb : base ≤ w.heap.size) (k : Kept S w w') (hS : ∀ x ∈ S, Not8 w x ∨ w.heap.size ≤ x ∨ x < base)
    (ho : w'.ownsRow w.heap.size 5 1 v n (u8s l)) : Fam w' base (vs ++ [v]) (ls ++ [l]) := by
  have hk := h.kept k hS
  have hn : n = l.length := by have := ho.1; rw [u8s_length] at this; omega
  subst hn
  refine ⟨by simp [h.len], fun i u m hu hm => ?_, fun i j u u' x hij hu hu' hx => ?_⟩
  · rw [List.getElem?_append] at hu hm
    by_cases hi : i < vs.length
    · rw [if_pos hi] at hu
      rw [if_pos (by rw [← h.len]; exact hi)] at hm
      exact hk.own i u m hu hm
    · rw [if_neg hi] at hu
      rw [if_neg (by rw [← h.len]; exact hi)] at hm
      rw [← h.len] at hm
      rcases hd : i - vs.length with _ | d
      · rw [hd] at hu hm
        simp at hu hm
        subst hu; subst hm
        refine ⟨ho.1, ?_⟩
        rcases ho.2 with h1 | ⟨g, cap, cur, h1, h2, h3⟩
        · exact .inl h1
        · exact .inr ⟨g, cap, cur, h1, Nat.le_trans hb h2, h3⟩
      · rw [hd] at hu
        simp at hu
  · rw [List.getElem?_append] at hu hu'
    by_cases hj : j < vs.length
    · rw [if_pos hj] at hu'
      rw [if_pos (by omega)] at hu
      exact h.apart i j u u' x hij hu hu' hx
    · rw [if_neg hj] at hu'
      rcases hd : j - vs.length with _ | d
      · rw [hd] at hu'
        simp at hu'
        subst hu'
        rw [if_pos (by omega)] at hu
        intro hy
        have h1 := (h.lt i u x hu hx).2
        have h2 := own_ge ho x hy
        omega
      · rw [hd] at hu'
        simp at hu'
/-- the whole in memory: a row of the slices -/
theorem Fam.bs {w : World} {base : Nat} {vs : List Value} {ls : List (List UInt8)} (h : Fam w base vs ls) (i : Nat) (v : Value) (l : List UInt8) (hv : vs[i]? = some v) (hl : ls[i]? = some l) : Bs w v l := Bs.ofOwn (h.own i v l hv hl)
end Go.Proofs.Ytoildbbfnhjfoaa
