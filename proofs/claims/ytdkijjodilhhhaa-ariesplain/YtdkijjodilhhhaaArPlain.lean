/-
  OWN WORK. Layer 23: Plain's two answers, and the law AriesPlain.
-/
import Derived.Test.YtdkijjodilhhhaaRows
import Derived.Test.YtdkijjodilhhhaaLib
namespace Go.Proofs.Ytdkijjodilhhhaa
open Go.RowKit
set_option linter.unusedVariables false
set_option linter.unusedSimpArgs false

/-- block g holds just these cells -/
def Blk (w : World) (g : Nat) (t : TypeId) (cs : List Value) : Prop := w.heap[g]? = some (.cells cs.toArray t (0, 0))
theorem Blk.new (w : World) (t : TypeId) (cs : List Value) : Blk (w.alloc (.cells cs.toArray t)) w.heap.size t cs := heap_alloc_new w _
theorem Blk.lt {w : World} {g : Nat} {t : TypeId} {cs : List Value} (h : Blk w g t cs) : g < w.heap.size := (Array.getElem?_eq_some_iff.1 h).1
theorem Blk.cell {w : World} {g : Nat} {t : TypeId} {cs : List Value} (h : Blk w g t cs) {j : Nat} {v : Value} (hj : cs[j]? = some v) : w.cell? ⟨g, j, none⟩ = some v := by
  have h' : w.heap[g]? = some (.cells cs.toArray t (0, 0)) := h
  simp [World.cell?, h', hj]
theorem Blk.kept {w w' : World} {g : Nat} {t : TypeId} {cs : List Value} {S : List Nat} (h : Blk w g t cs) (k : Kept S w w') (hS : g ∉ S) : Blk w' g t cs := (k.block g h.lt hS).trans h

theorem redo_any (l p : Int) (c0 c1 c2 c3 c4 c5 c6 c7 c8 c9 c10 : Value) (w : World) : Calls Try.prog 4 #[.agg #[], .int .i64 l, .agg #[c0, c1, c2, c3, c4, c5, c6, c7, c8, c9, c10], .int .i64 p] w fun e w' => e = .returned (.bool (decide (p < l))) ∧ Kept [] w w' := by
  go_enter Try.func4, Try.ntmps4
  go_wp2
  go_ret
  exact ⟨rfl, ((Kept.refl [] w).alloc _).alloc _⟩
theorem lay_any (l p : Int) (c0 c1 c2 c3 c4 c5 c6 c7 c8 c9 c10 : Value) (w : World) : Calls Try.prog 5 #[.agg #[], .int .i64 l, .agg #[c0, c1, c2, c3, c4, c5, c6, c7, c8, c9, c10], .int .i64 p] w fun e w' => e = .returned (.bool true) ∧ Kept [] w w' := by
  go_enter Try.func5, Try.ntmps5
  go_wp2
  go_ret
  exact ⟨rfl, ((Kept.refl [] w).alloc _).alloc _⟩
set_option maxRecDepth 20000 in
set_option maxHeartbeats 1600000 in
theorem ariesPlain_walk (l p : Int) (c0 c1 c2 c3 c4 c5 c6 c7 c8 c9 c10 : Value) (w : World) : Calls Try.prog 3 #[.int .i64 l, .agg #[c0, c1, c2, c3, c4, c5, c6, c7, c8, c9, c10], .int .i64 p] w fun e w' => e = .returned (.bool true) ∧ Kept [] w w' := by
  have B := Blk.new w 26 [c0, c1, c2, c3, c4, c5, c6, c7, c8, c9, c10]
  go_enter Try.func3, Try.ntmps3
  go_wp2_with fail
  refine (redo_any l p c0 c1 c2 c3 c4 c5 c6 c7 c8 c9 c10 _).mono ?_
  rintro e w1 ⟨rfl, k1⟩
  have k0 := (((Kept.refl [] w).alloc _).alloc _).then k1
  have B1 : Blk w1 w.heap.size 26 [c0, c1, c2, c3, c4, c5, c6, c7, c8, c9, c10] := B.kept (((Kept.refl [] _).alloc _).then k1) (by simp)
  have d0 := B1.cell (j := 0) rfl
  have d1 := B1.cell (j := 1) rfl
  have d2 := B1.cell (j := 2) rfl
  have d3 := B1.cell (j := 3) rfl
  have d4 := B1.cell (j := 4) rfl
  have d5 := B1.cell (j := 5) rfl
  have d6 := B1.cell (j := 6) rfl
  have d7 := B1.cell (j := 7) rfl
  have d8 := B1.cell (j := 8) rfl
  have d9 := B1.cell (j := 9) rfl
  have d10 := B1.cell (j := 10) rfl
  clear B B1 k1
  go_wp2_with fail
  refine (lay_any l p c0 c1 c2 c3 c4 c5 c6 c7 c8 c9 c10 _).mono ?_
  rintro e w2 ⟨rfl, k2⟩
  clear d0 d1 d2 d3 d4 d5 d6 d7 d8 d9 d10
  go_wp2
  go_ret
  exact ⟨rfl, k0.then k2⟩
end Go.Proofs.Ytdkijjodilhhhaa
