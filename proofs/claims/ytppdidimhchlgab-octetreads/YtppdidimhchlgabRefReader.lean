/-
  OWN WORK. The document's reader: a box of two cells (the bytes, how many have been taken).
-/
import Derived.Test.YtppdidimhchlgabRows
import Derived.Test.YtppdidimhchlgabRef
import Derived.Deep.QuietTactic
import Derived.BigQuiet
namespace Go.Proofs.Ytppdidimhchlgab
open Go.RowKit
set_option linter.unusedVariables false

/-- THE DOCUMENT's READER: what is left of its bytes. -/
def RR (t : TypeId) (w : World) (g : Nat) (R : List UInt8) : Prop :=
  ∃ p n c at_, ∃ B : List UInt8, w.heap[g]? = some (.cells #[.slice p n c, .int .i64 (at_ : Nat)] t (0, 0)) ∧ Bs w (.slice p n c) B ∧ at_ ≤ B.length ∧ R = B.drop at_
theorem Kept.drewN {S : List Nat} {a w : World} (h : Kept S a w) (n : Nat) : Kept S a (w.drewN n) := ⟨h.os, h.tape, h.output, h.size, h.block⟩
theorem two_cells {w : World} {g : Nat} {u v : Value} {t : TypeId} (h : w.heap[g]? = some (.cells #[u, v] t (0, 0))) :
    w.cell? ⟨g, 0, none⟩ = some u ∧ w.cell? ⟨g, 1, none⟩ = some v ∧ w.frozen? ⟨g, 1, none⟩ = false := by
  refine ⟨?_, ?_, ?_⟩
  · simp [World.cell?, h]
  · simp [World.cell?, h]
  · simp [World.frozen?, h]

/-- no byte lies in block k -/
def NoByte (w : World) (k : Nat) : Prop := ∀ a : Addr, a.block = k → ∀ x : Int, w.cell? a ≠ some (.int .u8 x)
theorem Box.noByte {w : World} {k : Nat} (h : Box w k) : NoByte w k := by
  obtain ⟨p, n, c, t, m, hb⟩ := h
  intro a ha x hx
  subst ha
  simp only [World.cell?, hb] at hx
  split at hx
  · cases hx
  · rcases ho : a.off with _ | j
    · simp [ho] at hx
    · simp [ho] at hx
theorem noByte_two {w : World} {g : Nat} {p : Option Addr} {n c : Nat} {a : Int} {t : TypeId} {m : Nat × Nat} (h : w.heap[g]? = some (.cells #[.slice p n c, .int .i64 a] t m)) : NoByte w g := by
  intro b hb x hx
  subst hb
  simp only [World.cell?, h] at hx
  split at hx
  · cases hx
  · rcases ho : b.off with _ | _ | j
    · simp [ho] at hx
    · simp [ho] at hx
    · simp [ho] at hx
theorem Bs.keptNB {w w' : World} {v : Value} {l : List UInt8} {S : List Nat} (h : Bs w v l) (k : Kept S w w') (hS : ∀ x ∈ S, NoByte w x ∨ w.heap.size ≤ x) : Bs w' v l := h.carry fun a x hx _ => k.cell hx fun hm => by
  rcases hS _ hm with hb | hb
  · exact hb a rfl _ hx
  · have := lt_of_cell hx; omega
theorem Rd.keptNB {t : TypeId} {w w' : World} {g : Nat} {l : List UInt8} {S : List Nat} (h : Rd t w g l) (k : Kept S w w') (hS : ∀ x ∈ S, x ≠ g ∧ (NoByte w x ∨ w.heap.size ≤ x)) : Rd t w' g l := by
  have hl := h.lt
  obtain ⟨p, n, c, h1, h2⟩ := h
  exact ⟨p, n, c, (k.block g hl (fun hm => (hS g hm).1 rfl)).trans h1, h2.keptNB k fun x hx => (hS x hx).2⟩
theorem RR.lt {t : TypeId} {w : World} {g : Nat} {R : List UInt8} (h : RR t w g R) : g < w.heap.size := by
  obtain ⟨p, n, c, a, B, h1, _⟩ := h
  exact (Array.getElem?_eq_some_iff.1 h1).1
theorem RR.noByte {t : TypeId} {w : World} {g : Nat} {R : List UInt8} (h : RR t w g R) : NoByte w g := by
  obtain ⟨p, n, c, a, B, h1, _⟩ := h
  exact noByte_two h1
theorem RR.keptNB {t : TypeId} {w w' : World} {g : Nat} {l : List UInt8} {S : List Nat} (h : RR t w g l) (k : Kept S w w') (hS : ∀ x ∈ S, x ≠ g ∧ (NoByte w x ∨ w.heap.size ≤ x)) : RR t w' g l := by
  have hl := h.lt
  obtain ⟨p, n, c, a, B, h1, h2, h3⟩ := h
  exact ⟨p, n, c, a, B, (k.block g hl (fun hm => (hS g hm).1 rfl)).trans h1, h2.keptNB k (fun x hx => (hS x hx).2), h3⟩
theorem two_setCell {w : World} {b : Nat} {u v z : Value} {t : TypeId} (h : w.heap[b]? = some (.cells #[u, v] t (0, 0))) : (w.setCell ⟨b, 1, none⟩ z).heap[b]? = some (.cells #[u, z] t (0, 0)) := by
  have hlt := (Array.getElem?_eq_some_iff.1 h).1
  have h' : w.heap[b] = .cells #[u, v] t (0, 0) := by simpa [Array.getElem?_eq_getElem hlt] using h
  show (w.heap.modify b _)[b]? = _
  rw [Array.getElem?_eq_getElem (by simpa using hlt), Array.getElem_modify]
  simp [h']
/-- the count is written -/
theorem RR.set {t : TypeId} {w : World} {g : Nat} {p : Option Addr} {n c a a' : Nat} {B : List UInt8} (h : w.heap[g]? = some (.cells #[.slice p n c, .int .i64 (a : Nat)] t (0, 0))) (hb : Bs w (.slice p n c) B) (ha : a' ≤ B.length) :
    RR t (w.setCell ⟨g, 1, none⟩ (.int .i64 (a' : Int))) g (B.drop a') ∧ Kept [g] w (w.setCell ⟨g, 1, none⟩ (.int .i64 (a' : Int))) := by
  have hk : Kept [g] w (w.setCell ⟨g, 1, none⟩ (.int .i64 (a' : Int))) := (Kept.refl [g] w).setCell (.inl (by simp)) _
  refine ⟨⟨p, n, c, a', B, two_setCell h, hb.keptNB hk (fun x hx => .inl ?_), ha, rfl⟩, hk⟩
  simp at hx; subst hx
  exact noByte_two h

theorem refLeft_any (g : Nat) (R : List UInt8) (w : World) (hr : RR 40 w g R) :
    Calls Try.prog 9 #[.pointer (some ⟨g, 0, none⟩)] w fun e w' => e = .returned (.int .i64 (R.length : Int)) ∧ ∃ n, w' = w.drewN n := by
  obtain ⟨p, n, c, a, B, hg, hb, ha, rfl⟩ := hr
  obtain ⟨p', c', e', h1, h2, -⟩ := id hb
  cases e'
  obtain ⟨hc0, hc1, -⟩ := two_cells hg
  have ha' : (a : Int) ≤ (B.length : Int) := by omega
  unfold maxLen at h2
  go_enter Try.func9, Try.ntmps9
  go_wp2
  go_quiet (fail)
  go_wp2
  go_ret
  exact ⟨congrArg (fun z : Int => Ending.returned (Value.int .i64 z)) (by rw [List.length_drop]; omega), nq, rfl⟩
theorem refEnd_any (g : Nat) (R : List UInt8) (w : World) (hr : RR 40 w g R) :
    Calls Try.prog 22 #[.pointer (some ⟨g, 0, none⟩)] w fun e w' => e = .returned (.int .i64 (if R.length = 0 then 0 else 11)) ∧ ∃ n, w' = w.drewN n := by
  obtain ⟨p, n, c, a, B, hg, hb, ha, rfl⟩ := hr
  obtain ⟨p', c', e', h1, h2, -⟩ := id hb
  cases e'
  obtain ⟨hc0, hc1, -⟩ := two_cells hg
  unfold maxLen at h2
  by_cases h0 : (B.drop a).length = 0
  · rw [if_pos h0]
    have h0' : ¬ (a : Int) < (B.length : Int) := by rw [List.length_drop] at h0; omega
    clear h0
    go_enter Try.func22, Try.ntmps22
    go_wp2
    go_quiet (fail)
    go_wp2
    go_ret
    exact ⟨rfl, nq, rfl⟩
  · rw [if_neg h0]
    have h0' : (a : Int) < (B.length : Int) := by rw [List.length_drop] at h0; omega
    clear h0
    go_enter Try.func22, Try.ntmps22
    go_wp2
    go_quiet (fail)
    go_wp2
    go_ret
    exact ⟨rfl, nq, rfl⟩
set_option maxHeartbeats 400000 in
theorem refNew_any (v : Value) (l : List UInt8) (w : World) (hv : Bs w v l) (hl : l.length ≤ 140737488355328) :
    Calls Try.prog 5 #[v] w fun e w' => ∃ g p n c, e = .returned (.pointer (some ⟨g, 0, none⟩)) ∧ w.heap.size ≤ g ∧ RR 40 w' g l ∧
      w'.heap[g]? = some (.cells #[.slice p n c, .int .i64 0] 40 (0, 0)) ∧ (∀ x, (Value.slice p n c).ownBlock = some x → w.heap.size ≤ x) ∧ Kept [] w w' := by
  obtain ⟨p, c, rfl, -⟩ := id hv
  go_enter Try.func5, Try.ntmps5
  go_wp2_with (at_builtin; refine wpList_append_bs rfl (.tmp 4) (.tmp 5) 22 rfl w.heap.size 5 Try.underlying22 (by kernel_rfl) _ _ _ (by rfl) (World.ownsRow_nil w _ _ _) _ l (by rfl) hv (by omega) (Nat.le_refl _) ?_; intro v1 w1 hown1 hg1 hat1; obtain ⟨p1, n1, c1, rfl⟩ : ∃ p n c, v1 = Value.slice p n c := by {
    rcases hown1.2 with ⟨rfl, _⟩ | ⟨_, _, _, rfl, _⟩
    · exact ⟨_, _, _, rfl⟩
    · exact ⟨_, _, _, rfl⟩ })
  go_ret
  simp only [Nat.zero_add, List.nil_append] at hown1
  have hk1 : Kept [] w w1 := (Kept.refl [] w).grown hg1 fun m hm => .inr (own_ge (World.ownsRow_nil w w.heap.size 5 1) m hm)
  have hh := heap_alloc_new w1 (.cells #[.slice p1 n1 c1, .int .i64 0] 40)
  exact ⟨w1.heap.size, p1, n1, c1, rfl, hk1.size, ⟨p1, n1, c1, 0, l, hh, (Bs.ofOwn hown1).kept ((Kept.refl [] _).alloc _), Nat.zero_le _, by simp⟩, hh, fun x hx => own_ge hown1 x hx, hk1.alloc _⟩
end Go.Proofs.Ytppdidimhchlgab
