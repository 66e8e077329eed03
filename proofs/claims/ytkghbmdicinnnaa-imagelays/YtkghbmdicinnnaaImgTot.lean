/-
  OWN WORK. Part, Cut, Lay of whatever is handed in: the program's, and the document's.
-/
import Derived.Test.YtkghbmdicinnnaaRows
import Derived.Test.YtkghbmdicinnnaaImg
import Derived.Test.YtkghbmdicinnnaaImgRef
namespace Go.Proofs.Ytkghbmdicinnnaa
open Go.RowKit
set_option linter.unusedVariables false

theorem part_tot (u v : Value) (a b : List UInt8) (w : World) (hu : Bs w u a) (hv : Bs w v b) :
    Calls Try.prog 8 #[u, v] w fun e w' => ∃ (f t : Nat) (z : Int), e = .returned (.tuple #[.int .i64 f, .int .i64 t, .int .i64 z]) ∧ PartAns a b f t z ∧ Kept [] w w' := by
  by_cases h : a.length = b.length
  · exact (part_any u v a b w hu hv h).mono fun e w' ⟨f, t, he, hp, k⟩ => ⟨f, t, 0, he, .inr ⟨h, rfl, hp⟩, k⟩
  · exact (part_unlike u v a b w hu hv h).mono fun e w' ⟨he, k⟩ => ⟨0, 0, 31, he, .inl ⟨h, rfl, rfl, rfl⟩, k ▸ Kept.refl _ _⟩
theorem cut_tot (u : Value) (a : List UInt8) (f t : Int) (w : World) (hu : Bs w u a) (hl : a.length ≤ 140737488355328) :
    Calls Try.prog 11 #[u, .int .i64 f, .int .i64 t] w fun e w' => ∃ v, e = .returned (.tuple #[v, .int .i64 (cutE a f t)]) ∧ w'.ownsRow w.heap.size 5 1 v (cutL a f t).length (u8s (cutL a f t)) ∧ Kept [] w w' := by
  by_cases h : cutBad a.length f t
  · refine (cut_bad u a f t w hu h).mono fun e w' ⟨he, k⟩ => ⟨.slice none 0 0, by rw [he, cutE, if_pos h], ?_, k ▸ Kept.refl _ _⟩
    rw [cutL, if_pos h]
    exact World.ownsRow_nil _ _ _ _
  · have h' := h
    unfold cutBad at h'
    obtain ⟨n, rfl⟩ : ∃ n : Nat, f = (n : Int) := ⟨f.toNat, by omega⟩
    obtain ⟨m, rfl⟩ : ∃ m : Nat, t = (n : Int) + (m : Int) := ⟨(t - n).toNat, by omega⟩
    have e1 : cutL a (n : Int) ((n : Int) + (m : Int)) = (a.drop n).take m := by
      rw [cutL, if_neg h]
      congr 1
      omega
    have e2 : ((a.drop n).take m).length = m := by simp; omega
    refine (cut_any u a n m w hu (by omega) hl).mono fun e w' ⟨v, he, o, k⟩ => ⟨v, by rw [he, cutE, if_neg h], ?_, k⟩
    rw [e1, e2]
    exact o
theorem lay_tot (u v : Value) (a r : List UInt8) (f : Int) (w : World) (hu : Bs w u a) (hv : Bs w v r) (hl : a.length ≤ 140737488355328) :
    Calls Try.prog 12 #[u, .int .i64 f, v] w fun e w' => ∃ v', e = .returned (.tuple #[v', .int .i64 (layE a f r)]) ∧ w'.ownsRow w.heap.size 5 1 v' (layL a f r).length (u8s (layL a f r)) ∧ Kept [] w w' := by
  by_cases h : layBad a.length f r.length
  · refine (lay_bad u v a r f w hu hv h).mono fun e w' ⟨he, k⟩ => ⟨.slice none 0 0, by rw [he, layE, if_pos h], ?_, k ▸ Kept.refl _ _⟩
    rw [layL, if_pos h]
    exact World.ownsRow_nil _ _ _ _
  · have h' := h
    unfold layBad at h'
    obtain ⟨n, rfl⟩ : ∃ n : Nat, f = (n : Int) := ⟨f.toNat, by omega⟩
    have e1 : layL a (n : Int) r = over a n r := by rw [layL, if_neg h]; rfl
    refine (lay_any u v a r n w hu hv (by omega) hl).mono fun e w' ⟨v', he, o, k⟩ => ⟨v', by rw [he, layE, if_neg h], ?_, k⟩
    rw [e1, over_length _ _ _ (by omega)]
    exact o

theorem refPart_tot (u v : Value) (a b : List UInt8) (w : World) (hu : Bs w u a) (hv : Bs w v b) :
    Calls Try.prog 14 #[u, v] w fun e w' => ∃ (f t : Nat) (z : Int), e = .returned (.tuple #[.int .i64 f, .int .i64 t, .int .i64 z]) ∧ PartAns a b f t z ∧ Kept [] w w' := by
  by_cases h : a.length = b.length
  · exact (refPart_any u v a b w hu hv h).mono fun e w' ⟨f, t, he, hp, k⟩ => ⟨f, t, 0, he, .inr ⟨h, rfl, hp⟩, k⟩
  · exact (refPart_unlike u v a b w hu hv h).mono fun e w' ⟨he, k⟩ => ⟨0, 0, 31, he, .inl ⟨h, rfl, rfl, rfl⟩, k ▸ Kept.refl _ _⟩
theorem refCut_tot (u : Value) (a : List UInt8) (f t : Int) (w : World) (hu : Bs w u a) (hl : a.length ≤ 140737488355328) :
    Calls Try.prog 16 #[u, .int .i64 f, .int .i64 t] w fun e w' => ∃ v, e = .returned (.tuple #[v, .int .i64 (cutE a f t)]) ∧ w'.ownsRow w.heap.size 5 1 v (cutL a f t).length (u8s (cutL a f t)) ∧ Kept [] w w' := by
  by_cases h : cutBad a.length f t
  · refine (refCut_bad u a f t w hu h).mono fun e w' ⟨he, k⟩ => ⟨.slice none 0 0, by rw [he, cutE, if_pos h], ?_, k ▸ Kept.refl _ _⟩
    rw [cutL, if_pos h]
    exact World.ownsRow_nil _ _ _ _
  · have h' := h
    unfold cutBad at h'
    obtain ⟨n, rfl⟩ : ∃ n : Nat, f = (n : Int) := ⟨f.toNat, by omega⟩
    obtain ⟨m, rfl⟩ : ∃ m : Nat, t = (n : Int) + (m : Int) := ⟨(t - n).toNat, by omega⟩
    have e1 : cutL a (n : Int) ((n : Int) + (m : Int)) = (a.drop n).take m := by
      rw [cutL, if_neg h]
      congr 1
      omega
    have e2 : ((a.drop n).take m).length = m := by simp; omega
    refine (refCut_any u a n m w hu (by omega) hl).mono fun e w' ⟨v, he, o, k⟩ => ⟨v, by rw [he, cutE, if_neg h], ?_, k⟩
    rw [e1, e2]
    exact o
theorem refLay_tot (u v : Value) (a r : List UInt8) (f : Int) (w : World) (hu : Bs w u a) (hv : Bs w v r) (hl : a.length ≤ 140737488355328) :
    Calls Try.prog 17 #[u, .int .i64 f, v] w fun e w' => ∃ v', e = .returned (.tuple #[v', .int .i64 (layE a f r)]) ∧ w'.ownsRow w.heap.size 5 1 v' (layL a f r).length (u8s (layL a f r)) ∧ Kept [] w w' := by
  by_cases h : layBad a.length f r.length
  · refine (refLay_bad u v a r f w hu hv h).mono fun e w' ⟨he, k⟩ => ⟨.slice none 0 0, by rw [he, layE, if_pos h], ?_, k ▸ Kept.refl _ _⟩
    rw [layL, if_pos h]
    exact World.ownsRow_nil _ _ _ _
  · have h' := h
    unfold layBad at h'
    obtain ⟨n, rfl⟩ : ∃ n : Nat, f = (n : Int) := ⟨f.toNat, by omega⟩
    have e1 : layL a (n : Int) r = over a n r := by rw [layL, if_neg h]; rfl
    refine (refLay_any u v a r n w hu hv (by omega) hl).mono fun e w' ⟨v', he, o, k⟩ => ⟨v', by rw [he, layE, if_neg h], ?_, k⟩
    rw [e1, over_length _ _ _ (by omega)]
    exact o
end Go.Proofs.Ytkghbmdicinnnaa
