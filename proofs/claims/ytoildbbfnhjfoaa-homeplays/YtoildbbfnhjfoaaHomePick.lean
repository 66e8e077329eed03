/-
  OWN WORK. home.first, by any pick; has, unused.
-/
import Derived.Shelf.Abstract
import Derived.Test.YtoildbbfnhjfoaaPage3
namespace Go.Proofs.Ytoildbbfnhjfoaa
open Go.RowKit
set_option linter.unusedVariables false

/-- f is a function that tells, of an entry and whether it is used, what p tells; it only reads -/
def Picks (w : World) (f : Value) (p : Nat → Nat → Bool → Bool) : Prop :=
  ∃ (gf : Nat) (lb : Array Value), f = .func (.func gf) #[] lb ∧ (∀ args w, (callFunc gf args).run Try.prog w = .ok (.enter gf args) w) ∧
    ∀ (k v : Nat) (u : Bool) (W : World), Kept [] w W → Calls Try.prog gf (#[.agg #[.int .i64 (k : Int), .int .u64 (v : Int)], .bool u] ++ lb) W fun e W' => e = .returned (.bool (p k v u)) ∧ Kept [] W W'
theorem Picks.kept {w w' : World} {f : Value} {p : Nat → Nat → Bool → Bool} (h : Picks w f p) (k : Kept [] w w') : Picks w' f p := by
  obtain ⟨gf, lb, h1, h2, h3⟩ := h
  exact ⟨gf, lb, h1, h2, fun x v u W hk => h3 x v u W (k.then hk)⟩
def pickAt (p : Nat → Nat → Bool → Bool) (a : List UInt8) (j : Nat) : Bool := p (slotK a (j : Int)) (slotV a (j : Int)) (slotU a (j : Int))
def firstIn (p : Nat → Nat → Bool → Bool) (a : List UInt8) : Option Nat := (List.range (slotsOf a)).find? (pickAt p a)
theorem firstIn_some {p : Nat → Nat → Bool → Bool} {a : List UInt8} {i : Nat} : firstIn p a = some i ↔ i < slotsOf a ∧ pickAt p a i = true ∧ ∀ j, j < i → pickAt p a j = false := by
  unfold firstIn
  rw [List.find?_range_eq_some]
  simp
  constructor
  · rintro ⟨h1, h2, h3⟩; exact ⟨h2, h1, h3⟩
  · rintro ⟨h1, h2, h3⟩; exact ⟨h2, h1, h3⟩
theorem firstIn_none {p : Nat → Nat → Bool → Bool} {a : List UInt8} : firstIn p a = none ↔ ∀ j, j < slotsOf a → pickAt p a j = false := by
  unfold firstIn
  rw [List.find?_range_eq_none]
  simp
def fir {α : Type} (p : Nat → Nat → Bool → Bool) (a : List UInt8) (z : α) (g : Nat → α) : α := match firstIn p a with
  | some i => g i
  | none => z
theorem fir_some {α : Type} {p : Nat → Nat → Bool → Bool} {a : List UInt8} {i : Nat} (h : firstIn p a = some i) (z : α) (g : Nat → α) : fir p a z g = g i := by unfold fir; rw [h]
theorem fir_none {α : Type} {p : Nat → Nat → Bool → Bool} {a : List UInt8} (h : firstIn p a = none) (z : α) (g : Nat → α) : fir p a z g = z := by unfold fir; rw [h]

theorem hasFn_any (key : Int) (g k v : Nat) (u : Bool) (w : World) (hc : w.cell? ⟨g, 0, none⟩ = some (.int .i64 key)) :
    Calls Try.prog 46 #[.agg #[.int .i64 (k : Int), .int .u64 (v : Int)], .bool u, .pointer (some ⟨g, 0, none⟩)] w fun e w' => e = .returned (.bool (u && decide ((k : Int) = key))) ∧ Kept [] w w' := by
  have hl := lt_of_cell hc
  have hc2 := (World.cell?_alloc_lt w (.cells #[.int .i64 (k : Int), .int .u64 (v : Int)] 61) _ hl).trans hc
  have k1 := (Kept.refl [] w).alloc (.cells #[.int .i64 (k : Int), .int .u64 (v : Int)] 61)
  cases u with
  | false =>
    go_enter Try.func46, Try.ntmps46
    go_wp2
    go_ret
    exact ⟨rfl, k1⟩
  | true =>
    by_cases h : (k : Int) = key
    · subst h
      go_enter Try.func46, Try.ntmps46
      go_wp2
      go_ret
      exact ⟨by simp, k1⟩
    · have h' : ((k : Int) == key) = false := by simpa using h
      rw [show (true && decide ((k : Int) = key)) = false by simpa using h]
      go_enter Try.func46, Try.ntmps46
      go_wp2
      go_ret
      exact ⟨by first | rfl | simpa using h, k1⟩
theorem unused_any (k v : Nat) (u : Bool) (w : World) :
    Calls Try.prog 32 #[.agg #[.int .i64 (k : Int), .int .u64 (v : Int)], .bool u] w fun e w' => e = .returned (.bool (!u)) ∧ Kept [] w w' := by
  have k1 := (Kept.refl [] w).alloc (.cells #[.int .i64 (k : Int), .int .u64 (v : Int)] 61)
  go_enter Try.func32, Try.ntmps32
  go_wp2
  go_ret
  exact ⟨by simp, k1⟩
/-- has hands a pick over the key -/
theorem has_any (key : Int) (w : World) :
    Calls Try.prog 31 #[.int .i64 key] w fun e w' => ∃ f, e = .returned f ∧ Picks w' f (fun k _ u => u && decide ((k : Int) = key)) ∧ Kept [] w w' := by
  have hmf : ∀ (fn : Fn) (first cap : Array Value) (w : World), (Instr.makeFunc fn first cap).run Try.prog w = .ok (.func fn first cap) w := fun _ _ _ _ => rfl
  have k1 := (Kept.refl [] w).alloc (.cells #[.int .i64 key] 3)
  go_enter Try.func31, Try.ntmps31
  go_wp2
  go_ret
  refine ⟨_, rfl, ⟨46, _, rfl, enters_of Try.func46 (by kernel_rfl) rfl, fun k v u W hk => ?_⟩, k1⟩
  exact hasFn_any key w.heap.size k v u W (hk.cell (by simp [go_sem]) (by simp))
theorem unused_picks (w : World) : Picks w (.func (.func 32) #[] #[]) (fun _ _ u => !u) :=
  ⟨32, #[], rfl, enters_of Try.func32 (by kernel_rfl) rfl, fun k v u W hk => unused_any k v u W⟩
end Go.Proofs.Ytoildbbfnhjfoaa
