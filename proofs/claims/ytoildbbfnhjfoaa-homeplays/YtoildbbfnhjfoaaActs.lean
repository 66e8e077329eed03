/-
  OWN WORK. A script of puts and deletes that came in.
-/
import Derived.Test.YtoildbbfnhjfoaaRows
import Derived.Test.YtoildbbfnhjfoaaOpen
import Derived.Deep.Slices
namespace Go.Proofs.Ytoildbbfnhjfoaa
open Go.ChangeShapes Go.WideShapes Go.ChangeAt Go.RowKit Go.Deep
set_option linter.unusedVariables false

/-- THE VALUE v IS A SLICE OF THESE ACTS IN w. -/
def Acs (w : World) (v : Value) (ss : List (Bool × Int × Nat)) : Prop :=
  ∃ (p : Option Addr) (c : Nat), v = .slice p ss.length c ∧ ss.length ≤ c ∧ c ≤ maxLen ∧ (p = none → c = 0) ∧
    ∀ a, p = some a → ∀ (i : Nat) s, ss[i]? = some s → w.cell? (a.add (i * 3)) = some (.bool s.1) ∧ w.cell? (a.add (i * 3 + 1)) = some (.int .i64 s.2.1) ∧ w.cell? (a.add (i * 3 + 2)) = some (.int .u64 (s.2.2 : Int)) ∧ s.2.2 < 18446744073709551616
theorem Acs.kept {w w' : World} {v : Value} {ss : List (Bool × Int × Nat)} (h : Acs w v ss) (k : Kept [] w w') : Acs w' v ss := by
  obtain ⟨p, c, rfl, h1, h2, h3, h4⟩ := h
  refine ⟨p, c, rfl, h1, h2, h3, fun a e i s hs => ?_⟩
  obtain ⟨x, y, z, b⟩ := h4 a e i s hs
  exact ⟨k.cell x (by simp), k.cell y (by simp), k.cell z (by simp), b⟩
theorem Acs.pos {w : World} {v : Value} {ss : List (Bool × Int × Nat)} (h : Acs w v ss) (hl : 0 < ss.length) :
    ∃ b o c, v = .slice (some ⟨b, o, none⟩) ss.length c ∧ ss.length ≤ c ∧ c ≤ maxLen ∧ b < w.heap.size ∧
      ∀ (i : Nat) s, ss[i]? = some s → w.cell? ⟨b, o + i * 3, none⟩ = some (.bool s.1) ∧ w.cell? ⟨b, o + i * 3 + 1, none⟩ = some (.int .i64 s.2.1) ∧ w.cell? ⟨b, o + i * 3 + 2, none⟩ = some (.int .u64 (s.2.2 : Int)) ∧ s.2.2 < 18446744073709551616 := by
  obtain ⟨p, c, rfl, h1, h2, h3, h4⟩ := h
  cases p with
  | none => have := h3 rfl; omega
  | some a =>
    have hc := (h4 a rfl 0 ss[0] (List.getElem?_eq_getElem hl)).1
    have hs := spot_of_cell hc
    have hs' : a.spot = none := by
      unfold Addr.add at hs
      split at hs <;> simp_all
    have hb := lt_of_cell hc
    rw [add_block] at hb
    refine ⟨a.block, a.off, c, by obtain ⟨b, o, s⟩ := a; simp_all, h1, h2, hb, fun i x hx => ?_⟩
    have := h4 a rfl i x hx
    rw [add_none hs', add_none hs', add_none hs'] at this
    exact this

theorem three_of {α : Type} {l : List α} (h : l.length = 3) : ∃ a b c, l = [a, b, c] := by
  match l, h with
  | [a, b, c], _ => exact ⟨a, b, c, rfl⟩
theorem acs_open {H : Type} {enc : TypeId × Value → H} {W : World} {t e : TypeId} {f0 f1 f2 : Field} {ao : Option Addr} {len cap : Nat} {d : DataW H} {p : List MemPlace} (ht : Try.prog.underlying t = some (.slice e)) (he : Try.prog.underlying e = some (.struct #[f0, f1, f2]))
    (ce : Try.prog.cellsOf e = 3) (o0 : f0.offset = 0) (o1 : f1.offset = 1) (o2 : f2.offset = 2) (c0 : Try.prog.cellsOf f0.type = 1) (c1 : Try.prog.cellsOf f1.type = 1) (c2 : Try.prog.cellsOf f2.type = 1)
    (t0 : Try.prog.underlying f0.type = some .bool) (t1 : Try.prog.underlying f1.type = some (.int .i64)) (t2 : Try.prog.underlying f2.type = some (.int .u64))
    (h : DataW.Trod enc Try.prog W 0 (fun _ => true) true t (.slice ao len cap) d p) : ∃ ss : List (Bool × Int × Nat), Acs W (.slice ao len cap) ss := by
  obtain ⟨fuel, hf⟩ := h
  rcases open_slice ht hf with ⟨hcs, hx⟩ | ⟨a, l, c, m, n, D, Pl, hcs, hb, hl, hm, hmm, hx, hel⟩
  · simp [Value.cells] at hcs
    obtain ⟨rfl, rfl, rfl⟩ := hcs
    exact ⟨[], none, 0, rfl, Nat.le_refl _, by simp [maxLen], fun _ => rfl, fun a e => (by cases e)⟩
  · simp [Value.cells] at hcs
    obtain ⟨rfl, rfl, rfl⟩ := hcs
    have hmm' : m = cap := by simpa using hmm
    have each : ∀ i, i < m → ∃ q : Bool × Int × Nat, W.cell? (a.add (i * 3)) = some (.bool q.1) ∧ W.cell? (a.add (i * 3 + 1)) = some (.int .i64 q.2.1) ∧ W.cell? (a.add (i * 3 + 2)) = some (.int .u64 (q.2.2 : Int)) ∧ q.2.2 < 18446744073709551616 := by
      intro i hi
      obtain ⟨cs', h1, h2⟩ := hel i hi
      rw [ce] at h1
      obtain ⟨_, hlen, hcell⟩ := World.cells?_some h1
      obtain ⟨xs, k, hk, hxy, _, hxl, hf⟩ := DataW.trod_struct he h2
      obtain ⟨y0, y1, y2, rfl⟩ := three_of (show xs.length = 3 from hxl)
      obtain ⟨v0, v1, v2, rfl⟩ := three_of hlen
      have g0 := hf 0 f0 rfl
      have g1 := hf 1 f1 rfl
      have g2 := hf 2 f2 rfl
      simp [o0, o1, o2, c0, c1, c2] at g0 g1 g2
      have e0 := hcell 0 (by omega)
      have e1 := hcell 1 (by omega)
      have e2 := hcell 2 (by omega)
      obtain ⟨b, hb0, _⟩ := DataW.trod_bool t0 g0
      obtain ⟨z1, hz1, _⟩ := DataW.trod_int t1 g1
      obtain ⟨z2, hz2, hy2, hw2⟩ := DataW.trod_int t2 g2
      simp at hb0 hz1 hz2
      subst hb0; subst hz1; subst hz2
      have hbd : 0 ≤ z2 ∧ z2 ≤ 18446744073709551615 := by simpa [Lit.wf, IntKind.min, IntKind.max, IntKind.signed, IntKind.bits] using hw2
      rw [Go.Proofs.Ytoildbbfnhjfoaa.add_add] at e0 e1 e2
      exact ⟨(b, z1, z2.toNat), by simpa using e0, by simpa using e1, by rw [show ((b, z1, z2.toNat).2.2 : Int) = z2 from Int.toNat_of_nonneg hbd.1]; simpa using e2, show z2.toNat < 18446744073709551616 by omega⟩
    obtain ⟨q, hq⟩ := choose_lt each
    refine ⟨(List.range len).map q, some a, cap, by simp, by simpa using hl, hm, fun e => (by cases e), fun a' e i s hs => ?_⟩
    cases e
    simp only [List.getElem?_map] at hs
    obtain ⟨r, hr1, rfl⟩ := Option.map_eq_some_iff.1 hs
    obtain ⟨hr2, rfl⟩ := List.getElem?_eq_some_iff.1 hr1
    have hr3 : i < len := by simpa using hr2
    simp only [List.getElem_range]
    exact hq i (by omega)
end Go.Proofs.Ytoildbbfnhjfoaa
