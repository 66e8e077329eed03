import Derived.Test.YtbheegphhllogaaC3
/-
  OWN WORK. The table: a row that came in, and a step's types.
-/
namespace Go.Proofs.Ytbheegphhllogaa
open Go.ChangeShapes Go.WideShapes Go.ChangeAt Go.RowKit Go.Deep
set_option linter.unusedVariables false
theorem row_open {H : Type} {enc : TypeId × Value → H} {W : World} {t : TypeId} {f0 f1 f2 f3 f4 : Field} {cs : Array Value} {d : DataW H} {p : List MemPlace} (ht : Try.prog.underlying t = some (.struct #[f0, f1, f2, f3, f4])) (hsz : cs.size = 5)
    (o : f0.offset = 0 ∧ f1.offset = 1 ∧ f2.offset = 2 ∧ f3.offset = 3 ∧ f4.offset = 4) (c : Try.prog.cellsOf f0.type = 1 ∧ Try.prog.cellsOf f1.type = 1 ∧ Try.prog.cellsOf f2.type = 1 ∧ Try.prog.cellsOf f3.type = 1 ∧ Try.prog.cellsOf f4.type = 1)
    (u : Try.prog.underlying f0.type = some (.int .i64) ∧ Try.prog.underlying f1.type = some (.int .i64) ∧ Try.prog.underlying f2.type = some (.int .i64) ∧ Try.prog.underlying f3.type = some (.int .i64) ∧ Try.prog.underlying f4.type = some (.int .i64))
    (h : DataW.Trod enc Try.prog W 0 (fun _ => true) true t (.agg cs) d p) : ∃ x : RowR, Value.agg cs = .agg #[.int .i64 x.birth, .int .i64 x.id, .int .i64 x.state, .int .i64 x.last, .int .i64 x.next] ∧ x.i64 := by
  obtain ⟨fuel, hf⟩ := h
  obtain ⟨xs, k, hk, hxy, _, hxl, hff⟩ := DataW.trod_struct ht hf
  obtain ⟨y0, y1, y2, y3, y4, rfl⟩ := five_of (show xs.length = 5 from hxl)
  obtain ⟨v0, v1, v2, v3, v4, hv⟩ := five_of (show cs.toList.length = 5 by simpa using hsz)
  have q0 := hff 0 f0 rfl
  have q1 := hff 1 f1 rfl
  have q2 := hff 2 f2 rfl
  have q3 := hff 3 f3 rfl
  have q4 := hff 4 f4 rfl
  obtain ⟨o0, o1, o2, o3, o4⟩ := o
  obtain ⟨c0, c1, c2, c3, c4⟩ := c
  simp [Value.cells, hv, o0, c0, o1, c1, o2, c2, o3, c3, o4, c4] at q0 q1 q2 q3 q4
  obtain ⟨z0, e0, -, w0⟩ := DataW.trod_int u.1 q0
  obtain ⟨z1, e1, -, w1⟩ := DataW.trod_int u.2.1 q1
  obtain ⟨z2, e2, -, w2⟩ := DataW.trod_int u.2.2.1 q2
  obtain ⟨z3, e3, -, w3⟩ := DataW.trod_int u.2.2.2.1 q3
  obtain ⟨z4, e4, -, w4⟩ := DataW.trod_int u.2.2.2.2 q4
  simp at e0 e1 e2 e3 e4
  subst e0 e1 e2 e3 e4
  have hcs : cs = #[.int .i64 z0, .int .i64 z1, .int .i64 z2, .int .i64 z3, .int .i64 z4] := by rw [← Array.toArray_toList (xs := cs), hv]
  subst hcs
  exact ⟨⟨z0, z1, z2, z3, z4⟩, rfl, i64_of_wf w0, i64_of_wf w1, i64_of_wf w2, i64_of_wf w3, i64_of_wf w4⟩
theorem stepTypes : ∃ f0 f1 f2 f3 g0 g1 g2 g3 g4, StepTypes Try.prog 49 24 f0 f1 f2 f3 g0 g1 g2 g3 g4 := by
  refine ⟨_, _, _, _, _, _, _, _, _, ⟨Try.underlying49, Try.underlying24, by kernel_rfl, by kernel_rfl, ⟨rfl, rfl, rfl, rfl⟩, rfl, ⟨by kernel_rfl, by kernel_rfl, by kernel_rfl⟩, ⟨by kernel_rfl, by kernel_rfl, by kernel_rfl⟩, ⟨rfl, rfl, rfl, rfl, rfl⟩, ⟨by kernel_rfl, by kernel_rfl, by kernel_rfl, by kernel_rfl, by kernel_rfl⟩, ⟨by kernel_rfl, by kernel_rfl, by kernel_rfl, by kernel_rfl, by kernel_rfl⟩⟩⟩
theorem script_open {H : Type} {enc : TypeId × Value → H} {W : World} {ao : Option Addr} {len cap : Nat} {d : DataW H} {p : List MemPlace} (h : DataW.Trod enc Try.prog W 0 (fun _ => true) true 22 (.slice ao len cap) d p) : ∃ ss : List StepT, ss.length = len ∧ Scr W (.slice ao len cap) ss := by
  obtain ⟨f0, f1, f2, f3, g0, g1, g2, g3, g4, T⟩ := stepTypes
  exact steps_open Try.underlying22 T h
end Go.Proofs.Ytbheegphhllogaa

