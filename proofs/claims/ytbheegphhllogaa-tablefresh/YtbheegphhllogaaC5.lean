import Derived.Lib.Overlaps
import Derived.Lib.AppendZeros
import Derived.Lib.AppendZerosOnto
import Derived.Laws.IdiomCopy
import Derived.Laws.Externs
import Derived.Test.YtbheegphhllogaaC4
/-
  OWN WORK. Rows of elements of several cells: copied into, a place opened within, one taken out.
-/
namespace Go.Proofs.Ytbheegphhllogaa
open Go.RowKit
set_option linter.unusedVariables false
/-- 'copy(d, s)', elements of sz cells: all is read ahead of any writing -/
theorem run_copy_cells_k {P : Program} (w : World) (dT sT ty elem : TypeId) (sz b o dLen dCap : Nat) (a : Addr) (sLen sCap : Nat) (cs : List Value)
    (hu : P.underlying dT = some (.slice elem)) (hs : (P.info? elem).map (·.size) = some sz) (hn : cs.length = Nat.min sLen dLen * sz)
    (hsrc : ∀ (j : Nat) v, cs[j]? = some v → w.cell? (a.add j) = some v) (hc : ∀ j, j < cs.length → (w.cell? ⟨b, o + j, none⟩).isSome = true) (hf : ∀ j, j < cs.length → w.frozen? ⟨b, o + j, none⟩ = false) (h1 : ∀ v ∈ cs, v.oneCell' = true) :
    (Builtin.copy_ #[dT, sT] ty #[.slice (some ⟨b, o, none⟩) dLen dCap, .slice (some a) sLen sCap]).run P w = .ok (goInt (Nat.min sLen dLen)) (w.setCells b o cs) := by
  have hl := run_loadCells_list (P := P) w a cs hsrc
  have hst := run_storeCells_cells (P := P) b o cs 0 w (by simpa using hc) (by simpa using hf) h1
  cases hq : P.info? elem with
  | none => simp [hq] at hs
  | some i =>
    have hi : i.size = sz := by simpa [hq] using hs
    simp [Builtin.copy_, run_underlying hu, Builtin.lenOf, Builtin.firstCells, sizeOf, typeInfo, hq, hi, ← hn, hl, hst]
theorem wp_copy_runT {P : Program} (w : World) {o : Oper} {a : Act} {K : Act → World → Prop} {Q : Exit → Act → World → Prop} (d s : Operand) (t t' : TypeId)
    (ho : o.op = .call { callee := .builtin .copy, args := #[d, s], argTypes := #[t, t'] }) (v u : Value) (hd : a.eval d = v) (hs : a.eval s = u) {v' : Value} {w' : World}
    (hr : (Builtin.copy_ #[t, t'] o.type #[v, u]).run P w = .ok v' w') (h : K (a.put o.dst v') w') : o.wp P a w K Q := by
  unfold Oper.wp execOp
  simp only [ho, resolve, invoke, builtin, Sem.run_bind, Sem.run_pure, Result.andThen_ok, List.map_toArray, List.map_cons, List.map_nil, hd, hs, hr]
  exact h
theorem wpList_copy_runT {P : Program} (w : World) {ops : Array Oper} {rest : List Oper} {o : Oper} {a : Act} {Q : Exit → Act → World → Prop} (hgd : o.guard = none) (d s : Operand) (t t' : TypeId)
    (ho : o.op = .call { callee := .builtin .copy, args := #[d, s], argTypes := #[t, t'] }) (v u : Value) (hd : a.eval d = v) (hs : a.eval s = u) {v' : Value} {w' : World}
    (hr : (Builtin.copy_ #[t, t'] o.type #[v, u]).run P w = .ok v' w') (h : wpList P ops Q rest (a.put o.dst v') w') : wpList P ops Q (o :: rest) a w :=
  wpList_plain hgd fun _ hK => wp_copy_runT w d s t t' ho v u hd hs hr (hK _ _ h)
theorem step_copy_runT {P : Program} {ops : Array Oper} {o : Oper} {a : Act} {w : World} {K : Act → World → Prop} {Q : Exit → Act → World → Prop} {E : Prop}
    (hg : o.guard = none) (d x : Operand) (dT sT : TypeId) (hop : o.op = Op.call { callee := Callee.builtin Builtin.copy, args := #[d, x], argTypes := #[dT, sT] })
    (v u : Value) (hd : a.eval d = v) (hx : a.eval x = u) {v' : Value} {w' : World} (hr : (Builtin.copy_ #[dT, sT] o.type #[v, u]).run P w = .ok v' w') (hK : K (a.put o.dst v') w') :
    if Region.wanted o (yielded ops a.tmps) = true then Oper.wp P o a w K Q else E := by
  have hw : Region.wanted o (yielded ops a.tmps) = true := by simp [Region.wanted, hg]
  rw [if_pos hw]
  exact wp_copy_runT w d x dT sT hop v u hd hx hr hK
theorem isSome_setCellsT (b : Nat) (vs : List Value) (o : Nat) (w : World) (h : ∀ j, j < vs.length → (w.cell? ⟨b, o + j, none⟩).isSome = true) (k : Nat) (hk : (w.cell? ⟨b, k, none⟩).isSome = true) : ((w.setCells b o vs).cell? ⟨b, k, none⟩).isSome = true := by
  by_cases hin : o ≤ k ∧ k < o + vs.length
  · have := World.cell?_setCells_in b vs o w h (k - o) (by omega)
    rw [show o + (k - o) = k by omega] at this
    rw [this]; rfl
  · rw [World.cell?_setCells_out b vs o w ⟨b, k, none⟩ (fun _ _ => by show k < o ∨ o + vs.length ≤ k; omega)]
    exact hk
/-- a place of vs's cells is opened at o: first what stood from there on goes up, then vs is laid -/
def opened (w : World) (g o : Nat) (vs tl : List Value) : World := (w.setCells g (o + vs.length) tl).setCells g o vs
theorem opened_kept (w : World) (g o : Nat) (vs tl : List Value) : Kept [g] w (opened w g o vs tl) := (kept_setCells g tl _ w).trans (kept_setCells g vs _ _) (fun x hx => .inl hx)
theorem opened_cell {w : World} {g o m : Nat} {hd vs tl : List Value} (ho : hd.length = o) (hm : o + vs.length + tl.length ≤ m) (hc : ∀ (j : Nat) u, hd[j]? = some u → w.cell? ⟨g, j, none⟩ = some u) (hs : ∀ j, j < m → (w.cell? ⟨g, j, none⟩).isSome = true) :
    (∀ (j : Nat) u, (hd ++ vs ++ tl)[j]? = some u → (opened w g o vs tl).cell? ⟨g, j, none⟩ = some u) ∧ ∀ j, j < m → ((opened w g o vs tl).cell? ⟨g, j, none⟩).isSome = true := by
  have q1 : ∀ j, j < tl.length → (w.cell? ⟨g, o + vs.length + j, none⟩).isSome = true := fun j hj => hs _ (by omega)
  have q2 : ∀ k, k < m → ((w.setCells g (o + vs.length) tl).cell? ⟨g, k, none⟩).isSome = true := fun k hk => isSome_setCellsT g tl _ w q1 k (hs k hk)
  refine ⟨fun j u hj => ?_, fun j hj => isSome_setCellsT g vs o _ (fun t ht => q2 _ (by omega)) j (q2 j hj)⟩
  unfold opened
  by_cases c1 : j < o
  · rw [List.append_assoc, List.getElem?_append_left (by omega)] at hj
    rw [World.cell?_setCells_out g vs _ _ _ (fun _ _ => .inl (by simpa using c1)), World.cell?_setCells_out g tl _ _ _ (fun _ _ => .inl (by simp; omega))]
    exact hc j u hj
  · by_cases c2 : j < o + vs.length
    · rw [List.getElem?_append_left (by simp; omega), List.getElem?_append_right (by omega), ho] at hj
      obtain ⟨hl, e⟩ := List.getElem?_eq_some_iff.1 hj
      have := World.cell?_setCells_in g vs o (w.setCells g (o + vs.length) tl) (fun t ht => q2 _ (by omega)) (j - o) hl
      rw [show o + (j - o) = j by omega, e] at this
      exact this
    · rw [List.getElem?_append_right (by simp; omega)] at hj
      obtain ⟨hl, e⟩ := List.getElem?_eq_some_iff.1 hj
      have := World.cell?_setCells_in g tl (o + vs.length) w q1 (j - (hd ++ vs).length) hl
      rw [show o + vs.length + (j - (hd ++ vs).length) = j by simp; omega, e] at this
      rw [World.cell?_setCells_out g vs _ _ _ (fun _ _ => .inr (by simp; omega))]
      exact this
theorem opened_frozen (w : World) (g o : Nat) (vs tl : List Value) (x : Addr) : (opened w g o vs tl).frozen? x = w.frozen? x := by unfold opened; rw [World.frozen?_setCells, World.frozen?_setCells]
/-- a block that has a cell has a shape -/
theorem shape_of_cell {w : World} {g j : Nat} (h : (w.cell? ⟨g, j, none⟩).isSome = true) : ∃ t k, w.shape? g = some (t, k) ∧ k ≠ 0 := by
  unfold World.cell? at h
  unfold World.shape?
  cases hb : w.heap[g]? with
  | none => simp [hb] at h
  | some o =>
    cases o with
    | cells c t f =>
      refine ⟨t, c.size, rfl, fun e => ?_⟩
      simp [hb] at h
      omega
    | _ => simp [hb] at h
theorem Blk.shape {w : World} {g : Nat} {t : TypeId} {cs : List Value} (h : Blk w g t cs) : w.shape? g = some (t, cs.length) := by
  have h' : w.heap[g]? = some (.cells cs.toArray t (0, 0)) := h
  simp [World.shape?, h']
/-- rows with a place opened: x at k -/
def insAt (S : List RowR) (k : Nat) (x : RowR) : List RowR := S.take k ++ x :: S.drop k
theorem insAt_cells (S : List RowR) (k : Nat) (x : RowR) : rcells (insAt S k x) = rcells (S.take k) ++ x.cs ++ rcells (S.drop k) := by
  unfold insAt
  rw [rcells_append, List.append_assoc]
  rfl
theorem insAt_length (S : List RowR) (k : Nat) (x : RowR) (h : k ≤ S.length) : (insAt S k x).length = S.length + 1 := by simp [insAt]; omega
theorem cs_one (x : RowR) : ∀ u ∈ x.cs, u.oneCell' = true := by
  intro u hu
  simp only [RowR.cs, List.mem_cons, List.not_mem_nil, or_false] at hu
  rcases hu with rfl | rfl | rfl | rfl | rfl <;> rfl
/-- there is room: in place -/
theorem Rw.opened {w w' : World} {base g n c k : Nat} {S : List RowR} {x : RowR} (h : Rw w base (.slice (some ⟨g, 0, none⟩) n c) S) (hk : k ≤ n) (hc : n + 1 ≤ c) (hn : n = S.length) (e : w' = opened w g (k * 5) x.cs (rcells (S.drop k))) :
    Rw w' base (.slice (some ⟨g, 0, none⟩) (n + 1) c) (insAt S k x) ∧ Kept [g] w w' := by
  subst e
  subst hn
  have hr : Row w base 5 (.slice (some ⟨g, 0, none⟩) S.length c) S.length (rcells S) := h
  obtain ⟨h1, h2, p', c', e', h3, h4, h5⟩ := hr
  cases e'
  rcases h5 with ⟨h5, -⟩ | ⟨g', e', h6, h7, h8, h9⟩
  · cases h5
  cases e'
  have k1 := opened_kept w g (k * 5) x.cs (rcells (S.drop k))
  have l5 : x.cs.length = 5 := rfl
  have hl : (rcells (S.take k)).length = k * 5 := by rw [rcells_length, List.length_take]; omega
  have ht : (rcells (S.drop k)).length = (S.length - k) * 5 := by rw [rcells_length, List.length_drop]
  obtain ⟨q1, q2⟩ := opened_cell (w := w) (g := g) (o := k * 5) (m := c * 5) (hd := rcells (S.take k)) (vs := x.cs) (tl := rcells (S.drop k)) hl (by omega) (fun j u hj => h8 j u (by rw [← rcells_take] at hj; rw [List.getElem?_take] at hj; split at hj; exact hj; cases hj)) (fun j hj => (h9 j hj).1)
  refine ⟨?_, k1⟩
  unfold Rw
  rw [insAt_length S k x hk, insAt_cells]
  refine ⟨by simp [hl, ht, l5]; omega, fun u hu => ?_, _, _, rfl, hc, h4, .inr ⟨g, rfl, h6, Nat.lt_of_lt_of_le h7 k1.size, q1, fun j hj => ⟨q2 j hj, by rw [opened_frozen]; exact (h9 j hj).2⟩⟩⟩
  rcases List.mem_append.1 hu with hu | hu
  · rcases List.mem_append.1 hu with hu | hu
    · exact rcells_one _ u hu
    · exact cs_one x u hu
  · exact rcells_one _ u hu
/-- vs is laid at o, then (draws between) tl behind it -/
theorem laid_cell {w w1 : World} {g o m : Nat} {hd vs tl : List Value} (ho : hd.length = o) (hm : o + vs.length + tl.length ≤ m) (hc : ∀ (j : Nat) u, hd[j]? = some u → w.cell? ⟨g, j, none⟩ = some u) (hs : ∀ j, j < m → (w.cell? ⟨g, j, none⟩).isSome = true) (e1 : ∀ x, w1.cell? x = (w.setCells g o vs).cell? x) :
    (∀ (j : Nat) u, (hd ++ vs ++ tl)[j]? = some u → (w1.setCells g (o + vs.length) tl).cell? ⟨g, j, none⟩ = some u) ∧ ∀ j, j < m → ((w1.setCells g (o + vs.length) tl).cell? ⟨g, j, none⟩).isSome = true := by
  have q1 : ∀ j, j < vs.length → (w.cell? ⟨g, o + j, none⟩).isSome = true := fun j hj => hs _ (by omega)
  have q2 : ∀ k, k < m → (w1.cell? ⟨g, k, none⟩).isSome = true := fun k hk => by rw [e1]; exact isSome_setCellsT g vs _ w q1 k (hs k hk)
  refine ⟨fun j u hj => ?_, fun j hj => isSome_setCellsT g tl _ _ (fun t ht => q2 _ (by omega)) j (q2 j hj)⟩
  by_cases c1 : j < o
  · rw [List.append_assoc, List.getElem?_append_left (by omega)] at hj
    rw [World.cell?_setCells_out g tl _ _ _ (fun _ _ => .inl (by simp; omega)), e1, World.cell?_setCells_out g vs _ _ _ (fun _ _ => .inl (by simpa using c1))]
    exact hc j u hj
  · by_cases c2 : j < o + vs.length
    · rw [List.getElem?_append_left (by simp; omega), List.getElem?_append_right (by omega), ho] at hj
      obtain ⟨hl, e⟩ := List.getElem?_eq_some_iff.1 hj
      have := World.cell?_setCells_in g vs o w q1 (j - o) hl
      rw [show o + (j - o) = j by omega, e] at this
      rw [World.cell?_setCells_out g tl _ _ _ (fun _ _ => .inl (by simpa using c2)), e1]
      exact this
    · rw [List.getElem?_append_right (by simp; omega)] at hj
      obtain ⟨hl, e⟩ := List.getElem?_eq_some_iff.1 hj
      have := World.cell?_setCells_in g tl (o + vs.length) w1 (fun t ht => q2 _ (by omega)) (j - (hd ++ vs).length) hl
      rw [show o + vs.length + (j - (hd ++ vs).length) = j by simp; omega, e] at this
      exact this
/-- a new block that has room for one row more, the first k laid -/
structure Rm1 (w W : World) (N G k n : Nat) (S : List RowR) : Prop where
  room : n + 1 ≤ G ∧ G ≤ maxLen
  kept : Kept [] w W
  lt : w.heap.size ≤ N ∧ N < W.heap.size
  hd : ∀ (j : Nat) u, (rcells (S.take k))[j]? = some u → W.cell? ⟨N, j, none⟩ = some u
  all : ∀ j, j < G * 5 → (W.cell? ⟨N, j, none⟩).isSome = true ∧ W.frozen? ⟨N, j, none⟩ = false
/-- 'append(s[:k], make(S, n+1-k)...)' where there is no room -/
theorem run_append_rows_zeros {P : Program} (w : World) (t tn ty e : TypeId) (i : TypeInfo) (z : Value) (ht : P.underlying t = some (.slice e)) (htn : P.underlying tn = some (.int .i64)) (hi : P.info? e = some i) (hz : i.zero = some z) (hsize : i.size = 5) (hby : i.bytes = 40) (hzs : z.cells.size = 5)
    (g n c k : Nat) (S : List RowR) (h : Rw w 0 (.slice (some ⟨g, 0, none⟩) n c) S) (hn : n = S.length) (h8 : n ≤ 8) (hk : k < n) (hroom : c < n + 1) :
    ∃ G W, (Builtin.append_ #[t, tn] ty #[.slice (some ⟨g, 0, none⟩) k c, .int .i64 ((n : Int) + 1 - (k : Int))]).run P w = .ok (.slice (some ⟨w.heap.size, 0, none⟩) (n + 1) G) W ∧ Rm1 w W w.heap.size G k n S := by
  have hR : Row w 0 5 (.slice (some ⟨g, 0, none⟩) n c) n (rcells S) := by have q := h; unfold Rw at q; rw [← hn] at q; exact q
  obtain ⟨-, -, p', c', e', -, hcm, h5⟩ := hR
  cases e'
  rcases h5 with ⟨h5, -⟩ | ⟨g', e', hg6, hg7, hg8, hg9⟩
  · cases h5
  cases e'
  have htk : (rcells (S.take k)).length = k * 5 := by rw [rcells_length, List.length_take]; omega
  have hold : (Builtin.firstCells i.size k (.slice (some ⟨g, 0, none⟩) k c)).run P w.drew = .ok (rcells (S.take k)).toArray w.drew := by
    rw [hsize]
    exact run_firstCells_some w.drew 5 k ⟨g, 0, none⟩ k c (rcells (S.take k)) htk (fun j v hj => by
      rw [add_none rfl, ← rcells_take, List.getElem?_take] at *
      split at hj
      · simpa using hg8 j v hj
      · cases hj)
  have hq := Lib.run_append_grow_zeros w t tn ty e i z .i64 .i64 ht htn hi hz (some ⟨g, 0, none⟩) k c (rcells (S.take k)) hold (n + 1 - k) (by omega) (by omega) (by omega) (by omega) (by rw [hby]; omega) (by rw [hby, show k + (n + 1 - k) = n + 1 by omega]; exact growslice_fits hroom (by omega))
  rw [show k + (n + 1 - k) = n + 1 by omega] at hq
  have hge := grownCap_ge w (n + 1) c e
  have hcx := grownCap_le_maxLen w (n + 1) c e (by unfold maxLen; omega)
  have kk : Kept [] w (w.drew.alloc (.cells ((rcells (S.take k)).toArray ++ Builtin.zeroCells z.cells (n + 1 - k) ++ Builtin.zeroCells z.cells (grownCap w (n + 1) c e - (n + 1))) e)) := ((Kept.refl [] w).drew).alloc _
  have hsz : ((rcells (S.take k)).toArray ++ Builtin.zeroCells z.cells (n + 1 - k) ++ Builtin.zeroCells z.cells (grownCap w (n + 1) c e - (n + 1))).size = grownCap w (n + 1) c e * 5 := by
    rw [Array.size_append, Array.size_append, List.size_toArray, htk, size_zeroCells, size_zeroCells, hzs, ← Nat.add_mul, ← Nat.add_mul]
    congr 1
    omega
  refine ⟨_, _, by rw [show (n : Int) + 1 - (k : Int) = ((n + 1 - k : Nat) : Int) by omega]; exact hq, ⟨⟨hge, hcx⟩, kk, ⟨Nat.le_refl _, by simp⟩, fun j u hj => ?_, fun j hj => ⟨?_, World.frozen?_alloc_new w.drew _ _ j⟩⟩⟩
  · have e1 : (w.drew.alloc (.cells ((rcells (S.take k)).toArray ++ Builtin.zeroCells z.cells (n + 1 - k) ++ Builtin.zeroCells z.cells (grownCap w (n + 1) c e - (n + 1))) e)).cell? ⟨w.heap.size, j, none⟩ = _ := World.cell?_alloc_new w.drew _ _ j
    have hjl := (List.getElem?_eq_some_iff.1 hj).1
    rw [e1, Array.append_assoc, Array.getElem?_append_left (by simpa using hjl), List.getElem?_toArray, hj]
  · have e1 : (w.drew.alloc (.cells ((rcells (S.take k)).toArray ++ Builtin.zeroCells z.cells (n + 1 - k) ++ Builtin.zeroCells z.cells (grownCap w (n + 1) c e - (n + 1))) e)).cell? ⟨w.heap.size, j, none⟩ = _ := World.cell?_alloc_new w.drew _ _ j
    rw [e1, Array.getElem?_eq_getElem (by rw [hsz]; exact hj)]
    rfl
/-- x and the rest are laid there -/
theorem Rm1.laid {w W W1 : World} {N G k n : Nat} {S : List RowR} {x : RowR} (h : Rm1 w W N G k n S) (hn : n = S.length) (hk : k ≤ n) (e1 : ∀ a, W1.cell? a = (W.setCells N (k * 5) x.cs).cell? a) (e2 : ∀ a, W1.frozen? a = W.frozen? a) (k1 : Kept [N] W W1) :
    Rw (W1.setCells N ((k + 1) * 5) (rcells (S.drop k))) 0 (.slice (some ⟨N, 0, none⟩) (n + 1) G) (insAt S k x) ∧ Kept [] w (W1.setCells N ((k + 1) * 5) (rcells (S.drop k))) := by
  subst hn
  have l5 : x.cs.length = 5 := rfl
  have hl : (rcells (S.take k)).length = k * 5 := by rw [rcells_length, List.length_take]; omega
  have ht : (rcells (S.drop k)).length = (S.length - k) * 5 := by rw [rcells_length, List.length_drop]
  have hr := h.room
  obtain ⟨q1, q2⟩ := laid_cell (w := W) (w1 := W1) (g := N) (o := k * 5) (m := G * 5) (hd := rcells (S.take k)) (vs := x.cs) (tl := rcells (S.drop k)) hl (by omega) h.hd (fun j hj => (h.all j hj).1) e1
  rw [l5, show k * 5 + 5 = (k + 1) * 5 by omega] at q1 q2
  have k2 := k1.trans (kept_setCells N (rcells (S.drop k)) ((k + 1) * 5) W1) (fun y hy => .inl hy)
  refine ⟨?_, h.kept.trans k2 (fun y hy => .inr (by simp at hy; have := h.lt; omega))⟩
  unfold Rw
  rw [insAt_length S k x hk, insAt_cells]
  refine ⟨by simp [hl, ht, l5]; omega, fun u hu => ?_, _, _, rfl, hr.1, hr.2, .inr ⟨N, rfl, Nat.zero_le _, Nat.lt_of_lt_of_le h.lt.2 k2.size, q1, fun j hj => ⟨q2 j hj, by rw [World.frozen?_setCells, e2]; exact (h.all j hj).2⟩⟩⟩
  rcases List.mem_append.1 hu with hu | hu
  · rcases List.mem_append.1 hu with hu | hu
    · exact rcells_one _ u hu
    · exact cs_one x u hu
  · exact rcells_one _ u hu
theorem step_append_runT {P : Program} {ops : Array Oper} {o : Oper} {a : Act} {w : World} {K : Act → World → Prop} {Q : Exit → Act → World → Prop} {E : Prop}
    (hg : o.guard = none) (s x : Operand) (t tn : TypeId) (hop : o.op = .call { callee := .builtin .append, args := #[s, x], argTypes := #[t, tn] })
    (vs vx : Value) (hs : a.eval s = vs) (hx : a.eval x = vx) {v' : Value} {w' : World} (hr : (Builtin.append_ #[t, tn] o.type #[vs, vx]).run P w = .ok v' w') (hK : K (a.put o.dst v') w') :
    if Region.wanted o (yielded ops a.tmps) = true then Oper.wp P o a w K Q else E := by
  have hw : Region.wanted o (yielded ops a.tmps) = true := by simp [Region.wanted, hg]
  rw [if_pos hw]
  exact Lib.wp_append_run w s x t tn hop vs vx hs hx v' w' hr hK
/-- 'clear' of one element of five cells -/
def zero5 : List Value := [.int .i64 0, .int .i64 0, .int .i64 0, .int .i64 0, .int .i64 0]
theorem run_clear_row {P : Program} (w : World) (t e ty : TypeId) (ht : P.underlying t = some (.slice e)) (hv : ∀ w, (zeroValue e).run P w = .ok (.agg #[.int .i64 0, .int .i64 0, .int .i64 0, .int .i64 0, .int .i64 0]) w) (b o c : Nat)
    (hc : ∀ j, j < 5 → (w.cell? ⟨b, o + j, none⟩).isSome = true) (hf : ∀ j, j < 5 → w.frozen? ⟨b, o + j, none⟩ = false) :
    (Builtin.clear_ #[t] ty #[.slice (some ⟨b, o, none⟩) 1 c]).run P w = .ok (.tuple #[]) (w.setCells b o zero5) := by
  have hzc : (Builtin.zeroCells (Value.agg #[.int .i64 0, .int .i64 0, .int .i64 0, .int .i64 0, .int .i64 0]).cells 1).toList = zero5 := by kernel_rfl
  have hst := run_storeCells_cells (P := P) b o zero5 0 w (by simpa [zero5] using hc) (by simpa [zero5] using hf) (by intro v hv'; simp [zero5] at hv'; subst hv'; rfl)
  simp only [Nat.add_zero] at hst
  simp [Builtin.clear_, run_underlying ht, hv, hzc, hst]
/-- one is taken out: what stood behind it goes down, the last place is cleared -/
theorem Rw.closed {w w1 : World} {base g q c k : Nat} {S : List RowR} (h : Rw w base (.slice (some ⟨g, 0, none⟩) (q + 1) c) S) (hn : q + 1 = S.length) (hk : k ≤ q) (e1 : w1 = w.setCells g (k * 5) (rcells (S.drop (k + 1)))) :
    (∀ j, j < c * 5 → (w1.cell? ⟨g, j, none⟩).isSome = true ∧ w1.frozen? ⟨g, j, none⟩ = false) ∧ Rw (w1.setCells g (q * 5) zero5) base (.slice (some ⟨g, 0, none⟩) q c) (S.take k ++ S.drop (k + 1)) ∧ Kept [g] w (w1.setCells g (q * 5) zero5) := by
  subst e1
  have hr : Row w base 5 (.slice (some ⟨g, 0, none⟩) (q + 1) c) (q + 1) (rcells S) := by have r := h; unfold Rw at r; rw [← hn] at r; exact r
  obtain ⟨h1, h2, p', c', e', h3, h4, h5⟩ := hr
  cases e'
  rcases h5 with ⟨h5, -⟩ | ⟨g', e', h6, h7, h8, h9⟩
  · cases h5
  cases e'
  have hl : (rcells (S.take k)).length = k * 5 := by rw [rcells_length, List.length_take]; omega
  have ht : (rcells (S.drop (k + 1))).length = (q - k) * 5 := by rw [rcells_length, List.length_drop]; omega
  have z5 : zero5.length = 5 := rfl
  have q1 : ∀ j, j < (rcells (S.drop (k + 1))).length → (w.cell? ⟨g, k * 5 + j, none⟩).isSome = true := fun j hj => (h9 _ (by omega)).1
  have a1 : ∀ j, j < c * 5 → ((w.setCells g (k * 5) (rcells (S.drop (k + 1)))).cell? ⟨g, j, none⟩).isSome = true := fun j hj => isSome_setCellsT g _ _ w q1 j (h9 j hj).1
  have k1 := kept_setCells g (rcells (S.drop (k + 1))) (k * 5) w
  have k2 := k1.trans (kept_setCells g zero5 (q * 5) _) (fun y hy => .inl hy)
  have hall : (S.take k ++ S.drop (k + 1)).length = q := by rw [List.length_append, List.length_take, List.length_drop]; omega
  refine ⟨fun j hj => ⟨a1 j hj, by rw [World.frozen?_setCells]; exact (h9 j hj).2⟩, ?_, k2⟩
  unfold Rw
  rw [hall, rcells_append]
  refine ⟨by rw [List.length_append, hl, ht]; omega, fun u hu => ?_, _, _, rfl, by omega, h4, .inr ⟨g, rfl, h6, Nat.lt_of_lt_of_le h7 k2.size, fun j u hj => ?_, fun j hj => ⟨isSome_setCellsT g _ _ _ (fun t ht => a1 _ (by omega)) j (a1 j hj), by rw [World.frozen?_setCells, World.frozen?_setCells]; exact (h9 j hj).2⟩⟩⟩
  · rcases List.mem_append.1 hu with hu | hu
    · exact rcells_one _ u hu
    · exact rcells_one _ u hu
  · have hjl := (List.getElem?_eq_some_iff.1 hj).1
    rw [List.length_append, hl, ht] at hjl
    rw [World.cell?_setCells_out g zero5 _ _ _ (fun _ _ => .inl (by simp; omega))]
    by_cases c1 : j < k * 5
    · rw [List.getElem?_append_left (by omega)] at hj
      rw [World.cell?_setCells_out g _ _ _ _ (fun _ _ => .inl (by simpa using c1))]
      exact h8 j u (by rw [← rcells_take, List.getElem?_take, if_pos c1] at hj; exact hj)
    · rw [List.getElem?_append_right (by omega), hl] at hj
      obtain ⟨hl2, e⟩ := List.getElem?_eq_some_iff.1 hj
      have := World.cell?_setCells_in g (rcells (S.drop (k + 1))) (k * 5) w q1 (j - k * 5) hl2
      rw [show k * 5 + (j - k * 5) = j by omega, e] at this
      exact this
end Go.Proofs.Ytbheegphhllogaa

