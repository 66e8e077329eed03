/-
  OWN WORK. A slice of slices of bytes; rows of the call's own.
-/
import Derived.Test.YtoildbbfnhjfoaaCuts
namespace Go.Proofs.Ytoildbbfnhjfoaa
open Go.RowKit
set_option linter.unusedVariables false

theorem Kept.drewN' {S : List Nat} {a w : World} (h : Kept S a w) (n : Nat) : Kept S a (w.drewN n) := ⟨h.os, h.tape, h.output, h.size, h.block⟩
/-- THE VALUE v IS A SLICE OF SLICES OF THESE BYTES IN w. -/
def Bss (w : World) (v : Value) (ls : List (List UInt8)) : Prop :=
  ∃ (p : Option Addr) (c : Nat), v = .slice p ls.length c ∧ ls.length ≤ c ∧ c ≤ maxLen ∧ (p = none → c = 0) ∧
    ∀ a, p = some a → ∀ (i : Nat) l, ls[i]? = some l → ∃ q d, w.cell? (a.add i) = some (.slice q l.length d) ∧ Bs w (.slice q l.length d) l
theorem Bss.pos {w : World} {v : Value} {ls : List (List UInt8)} (h : Bss w v ls) (hl : 0 < ls.length) :
    ∃ b o c, v = .slice (some ⟨b, o, none⟩) ls.length c ∧ ls.length ≤ c ∧ c ≤ maxLen ∧ b < w.heap.size ∧
      ∀ (i : Nat) l, ls[i]? = some l → ∃ q d, w.cell? ⟨b, o + i, none⟩ = some (.slice q l.length d) ∧ Bs w (.slice q l.length d) l := by
  obtain ⟨p, c, rfl, h1, h2, h3, h4⟩ := h
  cases p with
  | none => have := h3 rfl; omega
  | some a =>
    obtain ⟨q, d, hc, _⟩ := h4 a rfl 0 ls[0] (List.getElem?_eq_getElem hl)
    have hs := spot_of_cell hc
    have hs' : a.spot = none := by
      unfold Addr.add at hs
      split at hs <;> simp_all
    have hb := lt_of_cell hc
    rw [add_block] at hb
    refine ⟨a.block, a.off, c, by obtain ⟨b, o, s⟩ := a; simp_all, h1, h2, hb, fun i x hx => ?_⟩
    rw [← add_none hs' i]
    exact h4 a rfl i x hx
theorem Bss.kept {w w' : World} {v : Value} {ls : List (List UInt8)} (h : Bss w v ls) (k : Kept [] w w') : Bss w' v ls := by
  obtain ⟨p, c, rfl, h1, h2, h3, h4⟩ := h
  refine ⟨p, c, rfl, h1, h2, h3, fun a e i l hl => ?_⟩
  obtain ⟨q, d, hc, hb⟩ := h4 a e i l hl
  exact ⟨q, d, k.cell hc (by simp), hb.kept k⟩
/-- a literal's slices in a block of their own -/
theorem Bss.lit (w : World) (e : TypeId) (vs : List Value) (ls : List (List UInt8)) (hl : vs.length = ls.length) (hm : ls.length ≤ maxLen) (hB : ∀ (i : Nat) v l, vs[i]? = some v → ls[i]? = some l → Bs w v l) (H : Nat) (hH : w.heap.size = H) :
    Bss (w.alloc (.cells vs.toArray e)) (.slice (some ⟨H, 0, none⟩) ls.length ls.length) ls := by
  subst hH
  refine ⟨_, ls.length, rfl, Nat.le_refl _, hm, fun e => (by cases e), fun a ha i l hi => ?_⟩
  cases ha
  have hv : i < vs.length := by rw [hl]; exact (List.getElem?_eq_some_iff.1 hi).1
  have hb := hB i vs[i] l (List.getElem?_eq_getElem hv) hi
  obtain ⟨q, d, hq, -⟩ := id hb
  refine ⟨q, d, ?_, ?_⟩
  · have := World.news_of_block (heap_alloc_new w (.cells vs.toArray e)) i vs[i] (by simp)
    rw [← hq]
    exact this
  · rw [← hq]
    exact hb.kept ((Kept.refl [] w).alloc _)
/-- the rows one behind the other -/
def flat (ls : List (List UInt8)) : List UInt8 := ls.flatten
theorem flat_nil : flat [] = [] := rfl
theorem flat_take (ls : List (List UInt8)) (k : Nat) (l : List UInt8) (h : ls[k]? = some l) : flat (ls.take (k + 1)) = flat (ls.take k) ++ l := by
  obtain ⟨hk, rfl⟩ := List.getElem?_eq_some_iff.1 h
  unfold flat
  rw [List.take_succ_eq_append_getElem hk, List.flatten_append]
  simp
theorem flat_le (ls : List (List UInt8)) (k : Nat) : (flat (ls.take k)).length ≤ (flat ls).length := by
  unfold flat
  have : ls.flatten = (ls.take k).flatten ++ (ls.drop k).flatten := by rw [← List.flatten_append, List.take_append_drop]
  rw [this, List.length_append]; omega

theorem own_shape2 {w : World} {base e size : Nat} {v : Value} {n : Nat} {xs : List Value} (h : w.ownsRow base e size v n xs) : ∃ p c, v = .slice p n c := by
  rcases h.2 with ⟨rfl, rfl⟩ | ⟨g, cap, cur, rfl, _⟩
  · exact ⟨_, _, rfl⟩
  · exact ⟨_, _, rfl⟩
theorem Bss.lit1 (w : World) (e : TypeId) (a : Value) (la : List UInt8) (ha : Bs w a la) (H : Nat) (hH : w.heap.size = H) : Bss (w.alloc (.cells #[a] e)) (.slice (some ⟨H, 0, none⟩) 1 1) [la] :=
  Bss.lit w e [a] [la] rfl (by simp [maxLen]) (by
    intro i v l h1 h2
    match i, h1, h2 with
    | 0, h1, h2 => simp at h1 h2; subst h1; subst h2; exact ha
    | i + 1, h1, h2 => simp at h1) H hH
theorem Bss.lit2 (w : World) (e : TypeId) (a b : Value) (la lb : List UInt8) (ha : Bs w a la) (hb : Bs w b lb) (H : Nat) (hH : w.heap.size = H) : Bss (w.alloc (.cells #[a, b] e)) (.slice (some ⟨H, 0, none⟩) 2 2) [la, lb] :=
  Bss.lit w e [a, b] [la, lb] rfl (by simp [maxLen]) (by
    intro i v l h1 h2
    match i, h1, h2 with
    | 0, h1, h2 => simp at h1 h2; subst h1; subst h2; exact ha
    | 1, h1, h2 => simp at h1 h2; subst h1; subst h2; exact hb
    | i + 2, h1, h2 => simp at h1) H hH
theorem Bss.lit3 (w : World) (e : TypeId) (a b c : Value) (la lb lc : List UInt8) (ha : Bs w a la) (hb : Bs w b lb) (hc : Bs w c lc) (H : Nat) (hH : w.heap.size = H) : Bss (w.alloc (.cells #[a, b, c] e)) (.slice (some ⟨H, 0, none⟩) 3 3) [la, lb, lc] :=
  Bss.lit w e [a, b, c] [la, lb, lc] rfl (by simp [maxLen]) (by
    intro i v l h1 h2
    match i, h1, h2 with
    | 0, h1, h2 => simp at h1 h2; subst h1; subst h2; exact ha
    | 1, h1, h2 => simp at h1 h2; subst h1; subst h2; exact hb
    | 2, h1, h2 => simp at h1 h2; subst h1; subst h2; exact hc
    | i + 3, h1, h2 => simp at h1) H hH
/-- rows made behind a literal's block -/
theorem own_late {w w' : World} {o : Obj} {e n : Nat} {v : Value} {xs : List Value} (h : w'.ownsRow (w.alloc o).heap.size e 1 v n xs) : w'.ownsRow w.heap.size e 1 v n xs := by
  refine ⟨h.1, ?_⟩
  rcases h.2 with h1 | ⟨g, cap, cur, h1, h2, h3⟩
  · exact .inl h1
  · exact .inr ⟨g, cap, cur, h1, Nat.le_trans (by simp) h2, h3⟩

end Go.Proofs.Ytoildbbfnhjfoaa
