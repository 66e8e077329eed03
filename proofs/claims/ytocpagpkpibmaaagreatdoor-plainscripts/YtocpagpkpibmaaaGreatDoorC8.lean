import Derived.Test.YtocpagpkpibmaaaGreatDoorRows
import Derived.Deep.Slices
import Derived.LaidLaws
import Derived.LaidHandle
import Derived.Stop.Joined
import Derived.JoinedOf
import Derived.ChangeVars
import Derived.Test.YtocpagpkpibmaaaGreatDoorC7
/-
  OWN WORK (by mkpnq.py). What came in (layer 18): a Config; scripts.
-/
namespace Go.Proofs.YtocpagpkpibmaaaGreatDoor
open Go.ChangeShapes Go.WideShapes Go.ChangeAt Go.RowKit Go.Deep
set_option linter.unusedVariables false
set_option linter.unusedSimpArgs false
theorem choose_lt18 {α : Type} [Inhabited α] {n : Nat} {Q : Nat → α → Prop} (h : ∀ i, i < n → ∃ q, Q i q) : ∃ q : Nat → α, ∀ i, i < n → Q i (q i) := by
  refine ⟨fun i => if hi : i < n then Classical.choose (h i hi) else default, fun i hi => ?_⟩
  simp only [hi, dite_true]
  exact Classical.choose_spec (h i hi)
theorem i64_of_wf {z : Int} (h : (Lit.int .i64 z).wf = true) : I64 z := by
  have hb : -9223372036854775808 ≤ z ∧ z ≤ 9223372036854775807 := by simpa [Lit.wf, IntKind.min, IntKind.max, IntKind.signed, IntKind.bits] using h
  exact ⟨by omega, by omega⟩
theorem u64_of_wf {z : Int} (h : (Lit.int .u64 z).wf = true) : u64 z := by
  have hb : 0 ≤ z ∧ z ≤ 18446744073709551615 := by simpa [Lit.wf, IntKind.min, IntKind.max, IntKind.signed, IntKind.bits] using h
  exact ⟨by omega, by omega⟩
theorem len3 {α : Type} {l : List α} (h : l.length = 3) : ∃ a b c, l = [a, b, c] := by
  match l, h with
  | [a, b, c], _ => exact ⟨a, b, c, rfl⟩
theorem len4 {α : Type} {l : List α} (h : l.length = 4) : ∃ a b c d, l = [a, b, c, d] := by
  match l, h with
  | [a, b, c, d], _ => exact ⟨a, b, c, d, rfl⟩
theorem len5 {α : Type} {l : List α} (h : l.length = 5) : ∃ a b c d e, l = [a, b, c, d, e] := by
  match l, h with
  | [a, b, c, d, e], _ => exact ⟨a, b, c, d, e, rfl⟩
theorem len6 {α : Type} {l : List α} (h : l.length = 6) : ∃ a b c d e f, l = [a, b, c, d, e, f] := by
  match l, h with
  | [a, b, c, d, e, f], _ => exact ⟨a, b, c, d, e, f, rfl⟩
set_option maxRecDepth 20000 in
theorem Op_open {H : Type} {enc : TypeId × Value → H} {W : World} {t e : TypeId} {f0 f1 f2 f3 f4 : Field} {ao : Option Addr} {len cap : Nat} {d : DataW H} {p : List MemPlace} (ht : Tryz.prog.underlying t = some (.slice e)) (he : Tryz.prog.underlying e = some (.struct #[f0, f1, f2, f3, f4]))
    (ce : Tryz.prog.cellsOf e = 5) (ho : f0.offset = 0 ∧ f1.offset = 1 ∧ f2.offset = 2 ∧ f3.offset = 3 ∧ f4.offset = 4) (hc : Tryz.prog.cellsOf f0.type = 1 ∧ Tryz.prog.cellsOf f1.type = 1 ∧ Tryz.prog.cellsOf f2.type = 1 ∧ Tryz.prog.cellsOf f3.type = 1 ∧ Tryz.prog.cellsOf f4.type = 1) (hu : Tryz.prog.underlying f0.type = some (.int .i64) ∧ Tryz.prog.underlying f1.type = some (.int .i64) ∧ Tryz.prog.underlying f2.type = some (.int .i64) ∧ Tryz.prog.underlying f3.type = some (.int .u64) ∧ Tryz.prog.underlying f4.type = some (.int .i64))
    (h : DataW.Trod enc Tryz.prog W 0 (fun _ => true) true t (.slice ao len cap) d p) : ∃ ss : List OpR, ss.length = len ∧ Ops W (.slice ao len cap) ss ∧ (d = .nil ∧ len = 0 ∨ ∃ el sp, d = .slice el sp ∧ el.length = len) := by
  obtain ⟨o0, o1, o2, o3, o4⟩ := ho
  obtain ⟨c0, c1, c2, c3, c4⟩ := hc
  obtain ⟨t0, t1, t2, t3, t4⟩ := hu
  obtain ⟨fuel, hf⟩ := h
  rcases open_slice ht hf with ⟨hcs, hx⟩ | ⟨a, l, c, m, n, D, Pl, hcs, hb, hl, hm, hmm, hx, hel⟩
  · simp [Value.cells] at hcs
    obtain ⟨rfl, rfl, rfl⟩ := hcs
    obtain ⟨rfl, rfl⟩ := Prod.mk.inj hx
    exact ⟨[], rfl, ⟨none, 0, rfl, Nat.le_refl _, by simp [maxLen], fun _ => rfl, fun a e => (by cases e)⟩, .inl ⟨rfl, rfl⟩⟩
  · simp [Value.cells] at hcs
    obtain ⟨rfl, rfl, rfl⟩ := hcs
    obtain ⟨rfl, rfl⟩ := Prod.mk.inj hx
    have hmm' : m = cap := by simpa using hmm
    have each : ∀ i, i < m → ∃ q : OpR, OpAt W (a.add (i * 5)) q := by
      intro i hi
      obtain ⟨cs', g1, g2⟩ := hel i hi
      rw [ce] at g1
      obtain ⟨_, hlen, hcell⟩ := World.cells?_some g1
      obtain ⟨xs, k, hk, hxy, _, hxl, hff⟩ := DataW.trod_struct he g2
      obtain ⟨y0, y1, y2, y3, y4, rfl⟩ := len5 (show xs.length = 5 from hxl)
      obtain ⟨v0, v1, v2, v3, v4, rfl⟩ := len5 hlen
      have q0 := hff 0 f0 rfl
      have q1 := hff 1 f1 rfl
      have q2 := hff 2 f2 rfl
      have q3 := hff 3 f3 rfl
      have q4 := hff 4 f4 rfl
      simp [o0, o1, o2, o3, o4, c0, c1, c2, c3, c4] at q0 q1 q2 q3 q4
      obtain ⟨z0, e0, -, w0⟩ := DataW.trod_int t0 q0
      obtain ⟨z1, e1, -, w1⟩ := DataW.trod_int t1 q1
      obtain ⟨z2, e2, -, w2⟩ := DataW.trod_int t2 q2
      obtain ⟨z3, e3, -, w3⟩ := DataW.trod_int t3 q3
      obtain ⟨z4, e4, -, w4⟩ := DataW.trod_int t4 q4
      simp at e0 e1 e2 e3 e4
      subst e0 e1 e2 e3 e4
      refine ⟨⟨z0, z1, z2, z3, z4⟩, fun j u hj => ?_, i64_of_wf w1, i64_of_wf w2, u64_of_wf w3, i64_of_wf w4⟩
      have hjl := (List.getElem?_eq_some_iff.1 hj).1
      simp only [OpR.cs, List.length_cons, List.length_nil] at hjl
      have q := hcell j (by omega)
      rw [← hj]
      simpa [OpR.cs] using q
    haveI : Inhabited OpR := ⟨⟨0, 0, 0, 0, 0⟩⟩
    obtain ⟨q, hq⟩ := choose_lt18 each
    refine ⟨(List.range len).map q, by simp, ⟨some a, cap, by simp, by simpa using hl, hm, fun e => (by cases e), fun a' e i s hs => ?_⟩, .inr ⟨_, _, rfl, by simp⟩⟩
    cases e
    simp only [List.getElem?_map] at hs
    obtain ⟨j, hj, rfl⟩ := Option.map_eq_some_iff.1 hs
    obtain ⟨hj2, rfl⟩ := List.getElem?_eq_some_iff.1 hj
    have hi : i < len := by simpa using hj2
    simp only [List.getElem_range]
    exact hq i (by omega)
theorem ops_open {H : Type} {enc : TypeId × Value → H} {W : World} {ao : Option Addr} {len cap : Nat} {d : DataW H} {p : List MemPlace} (h : DataW.Trod enc Tryz.prog W 0 (fun _ => true) true 26 (.slice ao len cap) d p) : ∃ ss : List OpR, ss.length = len ∧ Ops W (.slice ao len cap) ss ∧ (d = .nil ∧ len = 0 ∨ ∃ el sp, d = .slice el sp ∧ el.length = len) :=
  Op_open Tryz.underlying26 Tryz.underlying66 (by kernel_rfl) ⟨rfl, rfl, rfl, rfl, rfl⟩ ⟨by kernel_rfl, by kernel_rfl, by kernel_rfl, by kernel_rfl, by kernel_rfl⟩ ⟨by kernel_rfl, by kernel_rfl, by kernel_rfl, by kernel_rfl, by kernel_rfl⟩ h
theorem conf_open {H : Type} {enc : TypeId × Value → H} {W : World} {cs : Array Value} {d : DataW H} {p : List MemPlace} (hsz : cs.size = 6)
    (h : DataW.Trod enc Tryz.prog W 0 (fun _ => true) true 25 (.agg cs) d p) : ∃ c : Cf, Value.agg cs = .agg #[.int .i64 c.pages, .int .i64 c.slots, .int .i64 c.log, .int .i64 c.frames, .int .i64 c.table, .int .i64 c.keys] ∧ (I64 c.pages ∧ I64 c.slots ∧ I64 c.log ∧ I64 c.frames ∧ I64 c.table ∧ I64 c.keys) := by
  obtain ⟨fuel, hf⟩ := h
  obtain ⟨xs, k, hk, hxy, _, hxl, hff⟩ := DataW.trod_struct Tryz.underlying25 hf
  obtain ⟨y0, y1, y2, y3, rfl⟩ := len4 (show xs.length = 4 from hxl)
  obtain ⟨v0, v1, v2, v3, v4, v5, hv⟩ := len6 (show cs.toList.length = 6 by simpa using hsz)
  have ci : Tryz.prog.cellsOf 3 = 1 := by kernel_rfl
  have cS : Tryz.prog.cellsOf 23 = 3 := by kernel_rfl
  have q0 := hff 0 _ rfl
  have q1 := hff 1 _ rfl
  have q2 := hff 2 _ rfl
  have q3 := hff 3 _ rfl
  simp [Value.cells, hv, ci, cS] at q0 q1 q2 q3
  obtain ⟨xs', k', hk', hxy', _, hxl', hff'⟩ := DataW.trod_struct Tryz.underlying23 q0
  obtain ⟨y0', y1', y2', rfl⟩ := len3 (show xs'.length = 3 from hxl')
  have r0 := hff' 0 _ rfl
  have r1 := hff' 1 _ rfl
  have r2 := hff' 2 _ rfl
  simp [ci] at r0 r1 r2
  obtain ⟨z0, e0, -, w0⟩ := DataW.trod_int Tryz.underlying3 r0
  obtain ⟨z1, e1, -, w1⟩ := DataW.trod_int Tryz.underlying3 r1
  obtain ⟨z2, e2, -, w2⟩ := DataW.trod_int Tryz.underlying3 r2
  obtain ⟨z3, e3, -, w3⟩ := DataW.trod_int Tryz.underlying3 q1
  obtain ⟨z4, e4, -, w4⟩ := DataW.trod_int Tryz.underlying3 q2
  obtain ⟨z5, e5, -, w5⟩ := DataW.trod_int Tryz.underlying3 q3
  simp at e0 e1 e2 e3 e4 e5
  subst e0 e1 e2 e3 e4 e5
  have hcs : cs = #[.int .i64 z0, .int .i64 z1, .int .i64 z2, .int .i64 z3, .int .i64 z4, .int .i64 z5] := by rw [← Array.toArray_toList (xs := cs), hv]
  subst hcs
  exact ⟨⟨z0, z1, z2, z3, z4, z5⟩, rfl, i64_of_wf w0, i64_of_wf w1, i64_of_wf w2, i64_of_wf w3, i64_of_wf w4, i64_of_wf w5⟩
end Go.Proofs.YtocpagpkpibmaaaGreatDoor

/-
  OWN WORK. What the program's text lays in the package variable that errors.As reads (layer 18): one cell; a world where it lies.
-/
namespace Go.Proofs.YtocpagpkpibmaaaGreatDoor
open Go.ChangeShapes Go.WideShapes Go.RowKit
set_option linter.unusedVariables false
def laidL : List (String × DataW Unit) := [("errors.errorType", Rows.laid_errors_errorType)]
theorem et_at : Tryz.prog.globalNamed "errors.errorType" = some 0 := by kernel_rfl
theorem rt_at : (Tryz.prog.cutTypes.find? (·.1 == "internal/reflectlite.rtype")).map (·.2) = some 188 := by kernel_rfl
theorem oneRow : ((List.range Tryz.prog.types.size).filter fun t => Tryz.prog.rowNamed t [101, 114, 114, 111, 114]) = [83] := by kernel_rfl
/-- the variable's one cell -/
def Vr (w : World) : Prop := w.cell? ⟨0, 0, none⟩ = some (.iface 188 (.agg #[.pointer (some ⟨1, 83, none⟩)]))
theorem vr_of_laid {W : World} (h : laidMetH Tryz.prog laidL W) : Vr W := by
  have h' : laidMet Tryz.prog [] W ∧ handlesMet Tryz.prog laidL W := h
  obtain ⟨name, u, ty, e1, e2, e3, e4, e5⟩ := h'.2 _ (List.mem_singleton.2 rfl)
  have en : name = [101, 114, 114, 111, 114] := (Option.some.inj e1).symm
  subst en
  obtain rfl := Option.some.inj (rt_at.symm.trans e2)
  have hm : ty ∈ (List.range Tryz.prog.types.size).filter fun t => Tryz.prog.rowNamed t [101, 114, 114, 111, 114] := List.mem_filter.2 ⟨List.mem_range.2 e3, e4⟩
  rw [oneRow] at hm
  obtain rfl := List.mem_singleton.1 hm
  have hh : typeHandle Tryz.prog 83 = .pointer (some ⟨1, 83, none⟩) := by kernel_rfl
  rw [hh] at e5
  unfold Vr
  simpa using World.var?_cell et_at e5 0
/-- a world in which it lies -/
noncomputable def laidWorld (os : Os) : World :=
  let w0 := World.holding Tryz.prog os ⟨#[], #[], []⟩
  { w0 with heap := w0.heap.modify 0 fun
      | .cells _ t frozen => .cells #[.iface 188 (.agg #[.pointer (some ⟨1, 83, none⟩)])] t frozen
      | o => o }
theorem laidWorld_met (os : Os) (args : Array Value) : laidMetH Tryz.prog laidL ((laidWorld os).forCall (fun _ _ => 0) ⟨#[], args, []⟩).memory :=
  laidMetH_of_parts (laidMet_nil _ _) (by kernel_rfl)
end Go.Proofs.YtocpagpkpibmaaaGreatDoor

