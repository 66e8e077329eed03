import Derived.Test.YtebcmcmboomgfaaRows
import Derived.Test.YtebcmcmboomgfaaC11
/-
  OWN WORK (by mkropen.py). A record that came in, with the weights of its lists.
-/
namespace Go.Proofs.Ytebcmcmboomgfaa
open Go.ChangeShapes Go.WideShapes Go.ChangeAt Go.RowKit Go.Deep
set_option linter.unusedVariables false
set_option linter.unusedSimpArgs false

theorem wAll_mem9 {H : Type} {P : Program} {e : TypeId} : ∀ {ds : List (DataW H)} {d : DataW H}, d ∈ ds → ∀ n ∈ d.weights P e, n ∈ DataW.weightsAll P e ds
  | d0 :: ds, d, hd, n, hn => by
    simp only [DataW.weightsAll, List.mem_append]
    rcases List.mem_cons.1 hd with c | c
    · subst c; exact .inl hn
    · exact .inr (wAll_mem9 c n hn)
theorem all_le9 {l : List Nat} {r n : Nat} (h : l.all (· ≤ r) = true) (hn : n ∈ l) : n ≤ r := by simpa using List.all_eq_true.1 h n hn
theorem all_sub9 {l k : List Nat} {r : Nat} (h : l.all (· ≤ r) = true) (hs : ∀ n ∈ k, n ∈ l) : k.all (· ≤ r) = true := List.all_eq_true.2 fun n hn => List.all_eq_true.1 h n (hs n hn)
theorem lits_wt9 {H : Type} {P : Program} {t e : TypeId} {k : IntKind} {len : Nat} {zs : List Int} {r : Nat} (ht : P.underlying t = some (.slice e)) (h : ((DataW.slice (lits k (zs.take len)) (lits k (zs.drop len)) : DataW H).weights P t).all (· ≤ r) = true) : zs.length * P.bytesOf e ≤ r := by
  have hm : ((lits (H := H) k (zs.take len)).length + (lits (H := H) k (zs.drop len)).length) * P.bytesOf e ∈ (DataW.slice (lits k (zs.take len)) (lits k (zs.drop len)) : DataW H).weights P t := by
    simp only [DataW.weights, ht]
    exact List.mem_cons_self
  have := all_le9 h hm
  have e1 : (lits (H := H) k (zs.take len)).length + (lits (H := H) k (zs.drop len)).length = zs.length := by
    unfold lits
    rw [List.length_map, List.length_map, ← List.length_append, List.take_append_drop]
  rwa [e1] at this
theorem bsV_open9 {H : Type} {enc : TypeId × Value → H} {W : World} {t e : TypeId} {fuel : Nat} {v : Value} {x : DataW H × List MemPlace} (ht : Try.prog.underlying t = some (.slice e)) (he : Try.prog.underlying e = some (.int .u8)) (hc : Try.prog.cellsOf e = 1)
    (hf : DataW.trod enc Try.prog W 0 (fun _ => true) true fuel t [v] = some x) : ∃ l : List UInt8, Bs W v l ∧ ∀ r, (x.1.weights Try.prog t).all (· ≤ r) = true → l.length * Try.prog.bytesOf e ≤ r := by
  rcases open_ints ht he hc hf with ⟨hcs, hx⟩ | ⟨a, len, cap, zs, hcs, _, hl, hm, hz, hx, hcell, hwz⟩
  · simp at hcs
    subst hcs
    exact ⟨[], Bs.nil W, fun r _ => by simp⟩
  · simp at hcs
    subst hcs
    have hz' : zs.length = cap := by simpa using hz
    exact ⟨bytesOfInts (zs.take len), bs_cells hl hm hz' (fun e => by cases e) (fun a' ha i hi => by cases ha; exact hcell i (by omega)) hwz, fun r hr => by
      subst hx
      have := lits_wt9 ht hr
      refine Nat.le_trans (Nat.mul_le_mul_right _ ?_) this
      rw [bytes_length, List.length_take]; omega⟩
theorem list2_of {α : Type} {l : List α} (h : l.length = 2) : ∃ a0 a1, l = [a0, a1] := by
  match l, h with
  | [a0, a1], _ => exact ⟨a0, a1, rfl⟩
theorem list5_of {α : Type} {l : List α} (h : l.length = 5) : ∃ a0 a1 a2 a3 a4, l = [a0, a1, a2, a3, a4] := by
  match l, h with
  | [a0, a1, a2, a3, a4], _ => exact ⟨a0, a1, a2, a3, a4, rfl⟩
theorem list11_of {α : Type} {l : List α} (h : l.length = 11) : ∃ a0 a1 a2 a3 a4 a5 a6 a7 a8 a9 a10, l = [a0, a1, a2, a3, a4, a5, a6, a7, a8, a9, a10] := by
  match l, h with
  | [a0, a1, a2, a3, a4, a5, a6, a7, a8, a9, a10], _ => exact ⟨a0, a1, a2, a3, a4, a5, a6, a7, a8, a9, a10, rfl⟩
theorem choose_lt9 {α : Type} [Inhabited α] {n : Nat} {Q : Nat → α → Prop} (h : ∀ i, i < n → ∃ q, Q i q) : ∃ q : Nat → α, ∀ i, i < n → Q i (q i) := by
  refine ⟨fun i => if hi : i < n then Classical.choose (h i hi) else default, fun i hi => ?_⟩
  simp only [hi, dif_pos]
  exact Classical.choose_spec (h i hi)

theorem rcells_all {l : List RowR} {Q : Nat → Value → Prop} (h : ∀ (i : Nat) x, l[i]? = some x → Q (i * 5) (.int .i64 x.birth) ∧ Q (i * 5 + 1) (.int .i64 x.id) ∧ Q (i * 5 + 2) (.int .i64 x.state) ∧ Q (i * 5 + 3) (.int .i64 x.last) ∧ Q (i * 5 + 4) (.int .i64 x.next)) : ∀ (j : Nat) u, (rcells l)[j]? = some u → Q j u := by
  intro j u hj
  have hlt := (List.getElem?_eq_some_iff.1 hj).1
  rw [rcells_length] at hlt
  have hi : j / 5 < l.length := by omega
  have hx : l[j / 5]? = some l[j / 5] := List.getElem?_eq_getElem hi
  have hat := rcells_at hx
  have hh := h _ _ hx
  have hm : j % 5 < 5 := Nat.mod_lt _ (by omega)
  have hj2 : j = j / 5 * 5 + j % 5 := by omega
  rw [hj2] at hj ⊢
  generalize j % 5 = k at hm hj ⊢
  have : k = 0 ∨ k = 1 ∨ k = 2 ∨ k = 3 ∨ k = 4 := by omega
  rcases this with rfl | rfl | rfl | rfl | rfl
  · rw [Nat.add_zero, hat.1] at hj
    cases hj
    exact hh.1
  · rw [hat.2.1] at hj
    cases hj
    exact hh.2.1
  · rw [hat.2.2.1] at hj
    cases hj
    exact hh.2.2.1
  · rw [hat.2.2.2.1] at hj
    cases hj
    exact hh.2.2.2.1
  · rw [hat.2.2.2.2] at hj
    cases hj
    exact hh.2.2.2.2
set_option maxHeartbeats 800000 in
theorem rowsV_open {H : Type} {enc : TypeId × Value → H} {W : World} {t e : TypeId} {f0 f1 f2 f3 f4 : Field} {fuel : Nat} {v : Value} {x : DataW H × List MemPlace} (ht : Try.prog.underlying t = some (.slice e)) (he : Try.prog.underlying e = some (.struct #[f0, f1, f2, f3, f4]))
    (ce : Try.prog.cellsOf e = 5) (o0 : f0.offset = 0) (o1 : f1.offset = 1) (o2 : f2.offset = 2) (o3 : f3.offset = 3) (o4 : f4.offset = 4) (c0 : Try.prog.cellsOf f0.type = 1) (c1 : Try.prog.cellsOf f1.type = 1) (c2 : Try.prog.cellsOf f2.type = 1) (c3 : Try.prog.cellsOf f3.type = 1) (c4 : Try.prog.cellsOf f4.type = 1) (t0 : Try.prog.underlying f0.type = some (.int .i64)) (t1 : Try.prog.underlying f1.type = some (.int .i64)) (t2 : Try.prog.underlying f2.type = some (.int .i64)) (t3 : Try.prog.underlying f3.type = some (.int .i64)) (t4 : Try.prog.underlying f4.type = some (.int .i64))
    (hf : DataW.trod enc Try.prog W 0 (fun _ => true) true fuel t [v] = some x) : ∃ l : List RowR, Cs W 5 v l.length (rcells l) ∧ ∀ r, (x.1.weights Try.prog t).all (· ≤ r) = true → l.length * Try.prog.bytesOf e ≤ r := by
  rcases open_slice ht hf with ⟨hcs, hx⟩ | ⟨a, len, cap, m, n, D, Pl, hcs, hb, hl, hm, hmm, hx, hel⟩
  · simp at hcs
    subst hcs
    exact ⟨[], ⟨rfl, by simp [rcells], none, 0, rfl, Nat.le_refl _, by simp [maxLen], fun _ => rfl, fun a e => (by cases e)⟩, fun r _ => by simp⟩
  · simp at hcs
    subst hcs
    have hmm' : m = cap := by simpa using hmm
    have each : ∀ i, i < m → ∃ q : RowR, W.cell? (a.add (i * 5)) = some (.int .i64 q.birth) ∧ W.cell? (a.add (i * 5 + 1)) = some (.int .i64 q.id) ∧ W.cell? (a.add (i * 5 + 2)) = some (.int .i64 q.state) ∧ W.cell? (a.add (i * 5 + 3)) = some (.int .i64 q.last) ∧ W.cell? (a.add (i * 5 + 4)) = some (.int .i64 q.next) := by
      intro i hi
      obtain ⟨cs', g1, g2⟩ := hel i hi
      rw [ce] at g1
      obtain ⟨_, hlen, hcell⟩ := World.cells?_some g1
      obtain ⟨xs, k, hk, hxy, _, hxl, hff⟩ := DataW.trod_struct he g2
      obtain ⟨v0, v1, v2, v3, v4, rfl⟩ := list5_of hlen
      have q0 := hff 0 f0 rfl
      have q1 := hff 1 f1 rfl
      have q2 := hff 2 f2 rfl
      have q3 := hff 3 f3 rfl
      have q4 := hff 4 f4 rfl
      have hxl' : xs.length = 5 := hxl
      obtain ⟨y0, y1, y2, y3, y4, rfl⟩ := list5_of hxl'
      simp [o0, c0, o1, c1, o2, c2, o3, c3, o4, c4] at q0 q1 q2 q3 q4
      obtain ⟨z0, e0, -, -⟩ := DataW.trod_int t0 q0
      obtain ⟨z1, e1, -, -⟩ := DataW.trod_int t1 q1
      obtain ⟨z2, e2, -, -⟩ := DataW.trod_int t2 q2
      obtain ⟨z3, e3, -, -⟩ := DataW.trod_int t3 q3
      obtain ⟨z4, e4, -, -⟩ := DataW.trod_int t4 q4
      simp at e0 e1 e2 e3 e4
      subst e0 e1 e2 e3 e4
      have x0 := hcell 0 (by omega)
      have x1 := hcell 1 (by omega)
      have x2 := hcell 2 (by omega)
      have x3 := hcell 3 (by omega)
      have x4 := hcell 4 (by omega)
      refine ⟨⟨z0, z1, z2, z3, z4⟩, ?_, ?_, ?_, ?_, ?_⟩
      · rw [Go.Proofs.Ytebcmcmboomgfaa.add_add] at x0; simpa using x0
      · rw [Go.Proofs.Ytebcmcmboomgfaa.add_add] at x1; simpa using x1
      · rw [Go.Proofs.Ytebcmcmboomgfaa.add_add] at x2; simpa using x2
      · rw [Go.Proofs.Ytebcmcmboomgfaa.add_add] at x3; simpa using x3
      · rw [Go.Proofs.Ytebcmcmboomgfaa.add_add] at x4; simpa using x4
    haveI : Inhabited RowR := ⟨⟨0, 0, 0, 0, 0⟩⟩
    obtain ⟨q, hq⟩ := choose_lt9 each
    refine ⟨(List.range len).map q, ⟨by rw [rcells_length], rcells_one _, some a, cap, by simp, by simpa using hl, hm, fun e => (by cases e), fun a' ea => ?_⟩, fun r hr => ?_⟩
    · cases ea
      refine rcells_all (Q := fun j u => W.cell? (a.add j) = some u) fun i x hx2 => ?_
      simp only [List.getElem?_map] at hx2
      obtain ⟨j, hj, rfl⟩ := Option.map_eq_some_iff.1 hx2
      obtain ⟨hj2, rfl⟩ := List.getElem?_eq_some_iff.1 hj
      have hi : i < len := by simpa using hj2
      simp only [List.getElem_range]
      exact hq i (by omega)
    · subst hx
      simp only [List.length_map, List.length_range]
      have hmem : ((List.map D (List.range len)).length + (List.map (fun j => D (len + j)) (List.range (m - len))).length) * Try.prog.bytesOf e ∈ (DataW.slice (List.map D (List.range len)) (List.map (fun j => D (len + j)) (List.range (m - len))) : DataW H).weights Try.prog t := by
        simp only [DataW.weights, ht]
        exact List.mem_cons_self
      have h9 := all_le9 hr hmem
      simp only [List.length_map, List.length_range] at h9
      exact Nat.le_trans (Nat.mul_le_mul_right _ (by omega)) h9
theorem dcells_all {l : List RecR} {Q : Nat → Value → Prop} (h : ∀ (i : Nat) x, l[i]? = some x → Q (i * 2) (.int .i64 x.page) ∧ Q (i * 2 + 1) (.int .i64 x.lsn)) : ∀ (j : Nat) u, (dcells l)[j]? = some u → Q j u := by
  intro j u hj
  have hlt := (List.getElem?_eq_some_iff.1 hj).1
  rw [dcells_length] at hlt
  have hi : j / 2 < l.length := by omega
  have hx : l[j / 2]? = some l[j / 2] := List.getElem?_eq_getElem hi
  have hat := dcells_at hx
  have hh := h _ _ hx
  have hm : j % 2 < 2 := Nat.mod_lt _ (by omega)
  have hj2 : j = j / 2 * 2 + j % 2 := by omega
  rw [hj2] at hj ⊢
  generalize j % 2 = k at hm hj ⊢
  have : k = 0 ∨ k = 1 := by omega
  rcases this with rfl | rfl
  · rw [Nat.add_zero, hat.1] at hj
    cases hj
    exact hh.1
  · rw [hat.2] at hj
    cases hj
    exact hh.2
set_option maxHeartbeats 800000 in
theorem recsV_open {H : Type} {enc : TypeId × Value → H} {W : World} {t e : TypeId} {f0 f1 : Field} {fuel : Nat} {v : Value} {x : DataW H × List MemPlace} (ht : Try.prog.underlying t = some (.slice e)) (he : Try.prog.underlying e = some (.struct #[f0, f1]))
    (ce : Try.prog.cellsOf e = 2) (o0 : f0.offset = 0) (o1 : f1.offset = 1) (c0 : Try.prog.cellsOf f0.type = 1) (c1 : Try.prog.cellsOf f1.type = 1) (t0 : Try.prog.underlying f0.type = some (.int .i64)) (t1 : Try.prog.underlying f1.type = some (.int .i64))
    (hf : DataW.trod enc Try.prog W 0 (fun _ => true) true fuel t [v] = some x) : ∃ l : List RecR, Cs W 2 v l.length (dcells l) ∧ ∀ r, (x.1.weights Try.prog t).all (· ≤ r) = true → l.length * Try.prog.bytesOf e ≤ r := by
  rcases open_slice ht hf with ⟨hcs, hx⟩ | ⟨a, len, cap, m, n, D, Pl, hcs, hb, hl, hm, hmm, hx, hel⟩
  · simp at hcs
    subst hcs
    exact ⟨[], ⟨rfl, by simp [dcells], none, 0, rfl, Nat.le_refl _, by simp [maxLen], fun _ => rfl, fun a e => (by cases e)⟩, fun r _ => by simp⟩
  · simp at hcs
    subst hcs
    have hmm' : m = cap := by simpa using hmm
    have each : ∀ i, i < m → ∃ q : RecR, W.cell? (a.add (i * 2)) = some (.int .i64 q.page) ∧ W.cell? (a.add (i * 2 + 1)) = some (.int .i64 q.lsn) := by
      intro i hi
      obtain ⟨cs', g1, g2⟩ := hel i hi
      rw [ce] at g1
      obtain ⟨_, hlen, hcell⟩ := World.cells?_some g1
      obtain ⟨xs, k, hk, hxy, _, hxl, hff⟩ := DataW.trod_struct he g2
      obtain ⟨v0, v1, rfl⟩ := list2_of hlen
      have q0 := hff 0 f0 rfl
      have q1 := hff 1 f1 rfl
      have hxl' : xs.length = 2 := hxl
      obtain ⟨y0, y1, rfl⟩ := list2_of hxl'
      simp [o0, c0, o1, c1] at q0 q1
      obtain ⟨z0, e0, -, -⟩ := DataW.trod_int t0 q0
      obtain ⟨z1, e1, -, -⟩ := DataW.trod_int t1 q1
      simp at e0 e1
      subst e0 e1
      have x0 := hcell 0 (by omega)
      have x1 := hcell 1 (by omega)
      refine ⟨⟨z0, z1⟩, ?_, ?_⟩
      · rw [Go.Proofs.Ytebcmcmboomgfaa.add_add] at x0; simpa using x0
      · rw [Go.Proofs.Ytebcmcmboomgfaa.add_add] at x1; simpa using x1
    haveI : Inhabited RecR := ⟨⟨0, 0⟩⟩
    obtain ⟨q, hq⟩ := choose_lt9 each
    refine ⟨(List.range len).map q, ⟨by rw [dcells_length], dcells_one _, some a, cap, by simp, by simpa using hl, hm, fun e => (by cases e), fun a' ea => ?_⟩, fun r hr => ?_⟩
    · cases ea
      refine dcells_all (Q := fun j u => W.cell? (a.add j) = some u) fun i x hx2 => ?_
      simp only [List.getElem?_map] at hx2
      obtain ⟨j, hj, rfl⟩ := Option.map_eq_some_iff.1 hx2
      obtain ⟨hj2, rfl⟩ := List.getElem?_eq_some_iff.1 hj
      have hi : i < len := by simpa using hj2
      simp only [List.getElem_range]
      exact hq i (by omega)
    · subst hx
      simp only [List.length_map, List.length_range]
      have hmem : ((List.map D (List.range len)).length + (List.map (fun j => D (len + j)) (List.range (m - len))).length) * Try.prog.bytesOf e ∈ (DataW.slice (List.map D (List.range len)) (List.map (fun j => D (len + j)) (List.range (m - len))) : DataW H).weights Try.prog t := by
        simp only [DataW.weights, ht]
        exact List.mem_cons_self
      have h9 := all_le9 hr hmem
      simp only [List.length_map, List.length_range] at h9
      exact Nat.le_trans (Nat.mul_le_mul_right _ (by omega)) h9
set_option maxRecDepth 4000 in
set_option maxHeartbeats 1600000 in
theorem rcd_open {H : Type} {enc : TypeId × Value → H} {W : World} {t q er ed : TypeId} {f0 f1 f2 f3 f4 f5 f6 f7 f8 f9 f10 g0 g1 g2 g3 g4 k0 k1 : Field} {cs : Array Value} {d : DataW H} {p : List MemPlace} (ht : Try.prog.underlying t = some (.struct #[f0, f1, f2, f3, f4, f5, f6, f7, f8, f9, f10])) (hsz : cs.size = 11)
    (o0 : f0.offset = 0) (o1 : f1.offset = 1) (o2 : f2.offset = 2) (o3 : f3.offset = 3) (o4 : f4.offset = 4) (o5 : f5.offset = 5) (o6 : f6.offset = 6) (o7 : f7.offset = 7) (o8 : f8.offset = 8) (o9 : f9.offset = 9) (o10 : f10.offset = 10) (c0 : Try.prog.cellsOf f0.type = 1) (c1 : Try.prog.cellsOf f1.type = 1) (c2 : Try.prog.cellsOf f2.type = 1) (c3 : Try.prog.cellsOf f3.type = 1) (c4 : Try.prog.cellsOf f4.type = 1) (c5 : Try.prog.cellsOf f5.type = 1) (c6 : Try.prog.cellsOf f6.type = 1) (c7 : Try.prog.cellsOf f7.type = 1) (c8 : Try.prog.cellsOf f8.type = 1) (c9 : Try.prog.cellsOf f9.type = 1) (c10 : Try.prog.cellsOf f10.type = 1)
    (t0 : Try.prog.underlying f0.type = some (.int .i64)) (t1 : Try.prog.underlying f1.type = some (.int .i64)) (t2 : Try.prog.underlying f2.type = some (.int .i64)) (t3 : Try.prog.underlying f3.type = some (.int .i64)) (t4 : Try.prog.underlying f4.type = some (.int .i64)) (t5 : Try.prog.underlying f5.type = some (.int .i64)) (t8 : Try.prog.underlying f8.type = some (.int .i64)) (t6 : Try.prog.underlying f6.type = some (.slice q)) (t7 : Try.prog.underlying f7.type = some (.slice q)) (tq : Try.prog.underlying q = some (.int .u8)) (cq : Try.prog.cellsOf q = 1)
    (t9 : Try.prog.underlying f9.type = some (.slice er)) (te : Try.prog.underlying er = some (.struct #[g0, g1, g2, g3, g4])) (ce : Try.prog.cellsOf er = 5) (ro0 : g0.offset = 0) (ro1 : g1.offset = 1) (ro2 : g2.offset = 2) (ro3 : g3.offset = 3) (ro4 : g4.offset = 4) (rc0 : Try.prog.cellsOf g0.type = 1) (rc1 : Try.prog.cellsOf g1.type = 1) (rc2 : Try.prog.cellsOf g2.type = 1) (rc3 : Try.prog.cellsOf g3.type = 1) (rc4 : Try.prog.cellsOf g4.type = 1) (rt0 : Try.prog.underlying g0.type = some (.int .i64)) (rt1 : Try.prog.underlying g1.type = some (.int .i64)) (rt2 : Try.prog.underlying g2.type = some (.int .i64)) (rt3 : Try.prog.underlying g3.type = some (.int .i64)) (rt4 : Try.prog.underlying g4.type = some (.int .i64))
    (t10 : Try.prog.underlying f10.type = some (.slice ed)) (td : Try.prog.underlying ed = some (.struct #[k0, k1])) (cd : Try.prog.cellsOf ed = 2) (ko0 : k0.offset = 0) (ko1 : k1.offset = 1) (kc0 : Try.prog.cellsOf k0.type = 1) (kc1 : Try.prog.cellsOf k1.type = 1) (kt0 : Try.prog.underlying k0.type = some (.int .i64)) (kt1 : Try.prog.underlying k1.type = some (.int .i64))
    (h : DataW.Trod enc Try.prog W 0 (fun _ => true) true t (.agg cs) d p) : ∃ (V : RV) (x : Rcd), Value.agg cs = x.agg V ∧ SeeR W V x ∧ ∀ r, (d.weights Try.prog t).all (· ≤ r) = true → x.before.length * Try.prog.bytesOf q ≤ r ∧ x.after.length * Try.prog.bytesOf q ≤ r ∧ x.rows.length * Try.prog.bytesOf er ≤ r ∧ x.dirty.length * Try.prog.bytesOf ed ≤ r := by
  obtain ⟨fuel, hf⟩ := h
  obtain ⟨xs, k, hk, hxy, _, hxl, hff⟩ := DataW.trod_struct ht hf
  have hxl' : xs.length = 11 := hxl
  obtain ⟨y0, y1, y2, y3, y4, y5, y6, y7, y8, y9, y10, rfl⟩ := list11_of hxl'
  obtain ⟨v0, v1, v2, v3, v4, v5, v6, v7, v8, v9, v10, hv⟩ := list11_of (show cs.toList.length = 11 by simpa using hsz)
  have q0 := hff 0 f0 rfl
  have q1 := hff 1 f1 rfl
  have q2 := hff 2 f2 rfl
  have q3 := hff 3 f3 rfl
  have q4 := hff 4 f4 rfl
  have q5 := hff 5 f5 rfl
  have q6 := hff 6 f6 rfl
  have q7 := hff 7 f7 rfl
  have q8 := hff 8 f8 rfl
  have q9 := hff 9 f9 rfl
  have q10 := hff 10 f10 rfl
  simp [Value.cells, hv, o0, c0, o1, c1, o2, c2, o3, c3, o4, c4, o5, c5, o6, c6, o7, c7, o8, c8, o9, c9, o10, c10] at q0 q1 q2 q3 q4 q5 q6 q7 q8 q9 q10
  obtain ⟨z0, e0, -, -⟩ := DataW.trod_int t0 q0
  obtain ⟨z1, e1, -, -⟩ := DataW.trod_int t1 q1
  obtain ⟨z2, e2, -, -⟩ := DataW.trod_int t2 q2
  obtain ⟨z3, e3, -, -⟩ := DataW.trod_int t3 q3
  obtain ⟨z4, e4, -, -⟩ := DataW.trod_int t4 q4
  obtain ⟨z5, e5, -, -⟩ := DataW.trod_int t5 q5
  obtain ⟨z8, e8, -, -⟩ := DataW.trod_int t8 q8
  simp at e0 e1 e2 e3 e4 e5 e8
  subst e0 e1 e2 e3 e4 e5 e8
  obtain ⟨lb, bb, wb⟩ := bsV_open9 t6 tq cq q6
  obtain ⟨la, ba, wa⟩ := bsV_open9 t7 tq cq q7
  obtain ⟨lr, br, wr⟩ := rowsV_open t9 te ce ro0 ro1 ro2 ro3 ro4 rc0 rc1 rc2 rc3 rc4 rt0 rt1 rt2 rt3 rt4 q9
  obtain ⟨ld, bd, wd⟩ := recsV_open t10 td cd ko0 ko1 kc0 kc1 kt0 kt1 q10
  have hcs : cs = #[.int .i64 z0, .int .i64 z1, .int .i64 z2, .int .i64 z3, .int .i64 z4, .int .i64 z5, v6, v7, .int .i64 z8, v9, v10] := by rw [← Array.toArray_toList (xs := cs), hv]
  subst hcs
  have hd : d = .agg [y0.1, y1.1, y2.1, y3.1, y4.1, y5.1, y6.1, y7.1, y8.1, y9.1, y10.1] := by simpa using congrArg Prod.fst hxy
  refine ⟨⟨v6, v7, v9, v10⟩, ⟨z0, z1, z2, z3, z4, z5, lb, la, z8, lr, ld⟩, rfl, ⟨bb, ba, br, bd⟩, fun r hr => ?_⟩
  rw [hd] at hr
  simp only [DataW.weights, ht] at hr
  exact ⟨wb r (all_sub9 hr fun n hn => DataW.weights_mem_each (j := 6) rfl rfl n hn), wa r (all_sub9 hr fun n hn => DataW.weights_mem_each (j := 7) rfl rfl n hn), wr r (all_sub9 hr fun n hn => DataW.weights_mem_each (j := 9) rfl rfl n hn), wd r (all_sub9 hr fun n hn => DataW.weights_mem_each (j := 10) rfl rfl n hn)⟩
end Go.Proofs.Ytebcmcmboomgfaa

/-
  OWN WORK. THE STATEMENT, out of the walk.
-/
namespace Go.Proofs.Ytebcmcmboomgfaa.recordKeeps
open Go.ChangeShapes Go.WideShapes Go.ChangeAt Go.RowKit
set_option linter.unusedVariables false
set_option maxRecDepth 100000 in
theorem contract (H : Type) (enc : TypeId × Value → H) (W : World) (base : Nat) (args : Array Value) (ds gs : List (DataW H)) (before : List MemPlace)
    (hval : ∀ (j : Nat) t v, Try.f6.params[j]? = some t → args[j]? = some v → Value.okWide Try.prog W .any base t v)
    (hW : DataW.Whole enc Try.prog Try.f6.params.toList Rows.recordKeepsSpec.vars false W args.toList ds gs before) (hsz : (DataW.weightsEach Try.prog (Try.f6.params.toList ++ Rows.recordKeepsSpec.plain.varTypes Try.prog) (ds ++ gs)).all (· ≤ reachBytes) = true) :
    Calls Try.prog 6 args W fun e W' => ∃ v, e = .returned v ∧ Rows.recordKeepsSpec.post enc Try.prog Try.f6 false true false false W args v W' := by
  have hW' := hW
  obtain ⟨p, q, hA0, hV, rfl, hfz, hnd⟩ := hW
  have hA : DataW.TrodAll enc Try.prog W 0 (fun _ => true) true Try.f6.params.toList args.toList ds p := hA0
  rw [Try.params6] at hA hval hsz
  obtain ⟨v0, vs0, d0, ds0, p0, q0, hargs, rfl, rfl, h0, r0⟩ := trodAll_cons hA
  obtain ⟨v1, vs1, d1, ds1, p1, q1, rfl, rfl, rfl, h1, r1⟩ := trodAll_cons r0
  obtain ⟨rfl, rfl, rfl⟩ := trodAll_nil r1
  obtain rfl : args = #[v0, v1] := by cases args; simp_all
  obtain ⟨rfl, rfl⟩ := trodVars_none hV
  have hv0 : Value.okWide Try.prog W .any base 26 v0 := hval 0 26 v0 (by rfl) (by rfl)
  obtain ⟨cs0, rfl, sz0⟩ := okWide_struct (P := Try.prog) (t := 26) Try.underlying26 hv0
  clear hv0
  have lt0 : ∀ x ∈ p0, x.block < W.heap.size := by obtain ⟨m, hm⟩ := h0; exact DataW.trod_lt m _ _ _ hm
  obtain ⟨V0, x0, hag0, see0, wt0⟩ := rcd_open Try.underlying26 (sz0.trans (by kernel_rfl)) rfl rfl rfl rfl rfl rfl rfl rfl rfl rfl rfl (by kernel_rfl) (by kernel_rfl) (by kernel_rfl) (by kernel_rfl) (by kernel_rfl) (by kernel_rfl) (by kernel_rfl) (by kernel_rfl) (by kernel_rfl) (by kernel_rfl) (by kernel_rfl) (by kernel_rfl) (by kernel_rfl) (by kernel_rfl) (by kernel_rfl) (by kernel_rfl) (by kernel_rfl) (by kernel_rfl) Try.underlying22 Try.underlying22 Try.underlying5 (by kernel_rfl) Try.underlying23 Try.underlying66 (by kernel_rfl) rfl rfl rfl rfl rfl (by kernel_rfl) (by kernel_rfl) (by kernel_rfl) (by kernel_rfl) (by kernel_rfl) (by kernel_rfl) (by kernel_rfl) (by kernel_rfl) (by kernel_rfl) (by kernel_rfl) Try.underlying24 Try.underlying68 (by kernel_rfl) rfl rfl (by kernel_rfl) (by kernel_rfl) (by kernel_rfl) (by kernel_rfl) h0
  rw [hag0] at h0 hW' ⊢
  obtain ⟨a1, rfl, rfl, rfl, w1⟩ := open_int Try.underlying5 (hval 1 5 v1 rfl rfl) h1
  have bd1 := bounds_u8 w1
  obtain ⟨x1, rfl⟩ : ∃ x : Nat, a1 = (x : Int) := ⟨a1.toNat, by omega⟩
  clear hA0
  have hw0 := wt0 reachBytes (List.all_eq_true.2 fun n hn => List.all_eq_true.1 hsz n (DataW.weights_mem_each (j := 0) rfl rfl n hn))
  rw [show Try.prog.bytesOf 5 = 1 by kernel_rfl, show Try.prog.bytesOf 66 = 40 by kernel_rfl, show Try.prog.bytesOf 68 = 16 by kernel_rfl] at hw0
  simp only [reachBytes] at hw0
  obtain ⟨y1, rfl⟩ : ∃ y : UInt8, x1 = y.toNat := ⟨UInt8.ofNat x1, by rw [UInt8.toNat_ofNat']; omega⟩
  refine (recordKeeps_walk V0 x0 y1 W see0 (by unfold DeskCap; omega)).mono fun e W' ⟨he, kp⟩ => ?_
  subst he
  have bel := kp.below
  exact ⟨_, rfl, _, _, _, [], _, [], hW', trodAll_mk1 (shut_bool Try.underlying4 _), (trodAll_cons_mk (Below.trod laidOut (by kernel_rfl) (of_decide_eq_true (by kernel_rfl)) h0 bel lt0) (trodAll_cons_mk (shut_int Try.underlying5 w1) trodAll_mk0)), rfl, bel.frame _, fun h => by cases h⟩

set_option maxRecDepth 100000 in
theorem lifted (os : Os) (started : os.Started) (H : Type) (enc : TypeId × Value → H) :
    ReturnsInHanded {} Try.checked os 6 .any (Rows.recordKeepsSpec.pre6 enc Try.prog Try.f6 Rows.recordKeepsRow.domain false) (Rows.recordKeepsSpec.post enc Try.prog Try.f6 false true false false) := by
  refine returnsInHanded_of_change_sized (C := Try.checked) own started (by kernel_rfl) Try.func6
    (ChangeSpec.witness6 (enc := enc) (C := Try.checked) false ⟨#[], #[.agg #[.int .i64 0, .int .i64 0, .int .i64 0, .int .i64 0, .int .i64 0, .int .i64 0, .slice none 0 0, .slice none 0 0, .int .i64 0, .slice none 0 0, .slice none 0 0], .int .u8 0], []⟩ 8 (by kernel_rfl) (by kernel_rfl) (by kernel_rfl) (by kernel_rfl)) ?_
  intro W base args ds gs before hval hW _ hsz _
  exact contract H enc W base args ds gs before hval hW hsz

theorem proved : Rows.RecordKeepsSaid :=
  OpenClaim.holds_of_wide 6 Try.f6 rfl rfl rfl rfl rfl rfl rfl ⟨rfl, rfl, rfl, rfl, rfl⟩ rfl rfl rfl rfl rfl (by kernel_rfl) Try.func6 (by kernel_rfl)
    (of_decide_eq_true (by kernel_rfl)) (by unfold Func.isWrapper; first | (rw [if_pos (by decide +kernel)]; kernel_rfl) | (rw [if_neg (by decide +kernel)]; exact ⟨rfl, rfl⟩))
    (fun os started H enc _ => lifted os started H enc)
#print axioms proved
end Go.Proofs.Ytebcmcmboomgfaa.recordKeeps

