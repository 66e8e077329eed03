/-
  OWN WORK. Small laws for OctetFresh.
-/
import Derived.Test.YtppdidimhchlgaaRows
import Derived.Test.YtppdidimhchlgaaMarked
import Derived.Test.YtppdidimhchlgaaKnown
namespace Go.Proofs.Ytppdidimhchlgaa
open Go.RowKit
set_option linter.unusedVariables false

theorem Kept.drewN' {S : List Nat} {a w : World} (h : Kept S a w) (n : Nat) : Kept S a (w.drewN n) := ⟨h.os, h.tape, h.output, h.size, h.block⟩
/-- of two rows that lie apart one grows -/
theorem pair_grow {wr W w' : World} {base n : Nat} {va vb va' : Value} {xs : List Value} (hW : Kept [] wr W) (ob : wr.ownsRow base 5 1 vb n xs) (hap : ∀ x, va.ownBlock = some x → vb.ownBlock ≠ some x) (hg : W.grownBy w' va.ownBlock)
    (hat : va'.ownBlock = va.ownBlock ∨ (va'.ownBlock = some W.heap.size ∧ W.grownBy w' none)) : w'.ownsRow base 5 1 vb n xs ∧ (∀ x, va'.ownBlock = some x → vb.ownBlock ≠ some x) := by
  have h1 := own_of_kept ob hW (by simp)
  refine ⟨own_of_kept (S := va.ownBlock.toList) h1 (Kept.ofGrown hg (by intro x hx _; simp [hx])) (fun x hx hm => hap x (by simpa using hm) hx), fun x hx hb => ?_⟩
  rcases hat with hat | ⟨hat, _⟩
  · exact hap x (by rw [← hat]; exact hx) hb
  · rw [hat] at hx
    simp at hx
    have := own_lt h1 x hb
    omega
/-- the front of an owned row -/
theorem cut_bs {w : World} {base b n c : Nat} {l r : List UInt8} (ho : w.ownsRow base 5 1 (.slice (some ⟨b, 0, none⟩) n c) n (u8s (l ++ r))) : Bs w (.slice (some ⟨b, 0, none⟩) l.length c) l := by
  have hn : n = l.length + r.length := by have := ho.1; rw [u8s_length] at this; simp at this; omega
  have hb := Bs.ofOwn ho
  obtain ⟨p, c', e, h1, h2, h3, h4⟩ := hb
  simp at e
  obtain ⟨rfl, e2, rfl⟩ := e
  refine ⟨_, c, rfl, by simp at h1; omega, h2, fun e => (by cases e), fun a ha i x hx => h4 a ha i x ?_⟩
  rw [List.getElem?_append_left (List.getElem?_eq_some_iff.1 hx).1]
  exact hx
theorem Fam.append {w : World} {b1 b2 : Nat} {vs us : List Value} {ls ms : List (List UInt8)} (h1 : Fam w b1 vs ls) (h2 : Fam w b2 us ms) (hb : b1 ≤ b2) (hlt : ∀ (i : Nat) v x, vs[i]? = some v → v.ownBlock = some x → x < b2) : Fam w b1 (vs ++ us) (ls ++ ms) := by
  refine ⟨by simp [h1.len, h2.len], fun i v l hv hl => ?_, fun i j u v x hij hu hv hx => ?_⟩
  · rw [List.getElem?_append] at hv hl
    by_cases hi : i < vs.length
    · rw [if_pos hi] at hv
      rw [if_pos (by rw [← h1.len]; exact hi)] at hl
      exact h1.own i v l hv hl
    · rw [if_neg hi] at hv
      rw [if_neg (by rw [← h1.len]; exact hi)] at hl
      rw [← h1.len] at hl
      have ho := h2.own _ v l hv hl
      refine ⟨ho.1, ?_⟩
      rcases ho.2 with e | ⟨g, cap, cur, k1, k2, k3⟩
      · exact .inl e
      · exact .inr ⟨g, cap, cur, k1, Nat.le_trans hb k2, k3⟩
  · rw [List.getElem?_append] at hu hv
    by_cases hj : j < vs.length
    · rw [if_pos hj] at hv
      rw [if_pos (by omega)] at hu
      exact h1.apart i j u v x hij hu hv hx
    · rw [if_neg hj] at hv
      by_cases hi : i < vs.length
      · rw [if_pos hi] at hu
        intro hy
        have a1 := hlt i u x hu hx
        have a2 := (h2.lt _ v x hv hy).1
        omega
      · rw [if_neg hi] at hu
        exact h2.apart _ _ u v x (by omega) hu hv hx
theorem byte_up (y : UInt8) : ((y.toNat : Int) + 1) % 256 = ((y + 1).toNat : Int) := by
  rw [UInt8.toNat_add]
  simp
/-- the text of these bytes -/
def tx (l : List UInt8) : Value := .string ⟨l.toArray⟩
theorem snoc_rep (k : Nat) (y : UInt8) (l : List UInt8) : (l ++ List.replicate k y) ++ [y] = l ++ List.replicate (k + 1) y := by rw [List.append_assoc, ← List.replicate_succ']
theorem ans_nn (lb lc : List UInt8) (x : Nat) (hb : lb.length ≤ 1500000) (hc : lc.length ≤ 1500000) (j : Nat) : nn (ans lb lc x ++ ans lb lc x) j ≤ 6000000 := by
  unfold nn
  have h8 := lay_length 8 x
  have h1 := lay_length 1 (x % 256)
  have hf2 : (flat [lb, lc]).length = lb.length + lc.length := by simp [flat]
  have hf1 : (flat [lb]).length = lb.length := by simp [flat]
  have hf3 : (flat [lc, lb, lc]).length = lc.length + (lb.length + lc.length) := by simp [flat]
  have key : ∀ l ∈ ans lb lc x ++ ans lb lc x, l.length ≤ 6000000 := by
    intro l hl
    have hl' : l ∈ ans lb lc x := by
      rcases List.mem_append.1 hl with h | h <;> exact h
    simp only [ans, List.mem_cons, List.not_mem_nil, or_false] at hl'
    rcases hl' with rfl | rfl | rfl | rfl | rfl | rfl | rfl | rfl
    · rw [List.length_append]; omega
    · rw [List.length_append]; omega
    · omega
    · omega
    · omega
    · rw [List.length_take]; omega
    · rw [List.length_take, List.length_drop]; omega
    · rw [List.length_take]; omega
  by_cases hj : j < (ans lb lc x ++ ans lb lc x).length
  · rw [List.getD, List.getElem?_eq_getElem hj]
    exact key _ (List.getElem_mem hj)
  · rw [List.getD, List.getElem?_eq_none (by omega)]
    simp
end Go.Proofs.Ytppdidimhchlgaa
