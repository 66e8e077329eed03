import Derived.Test.YtmipmiaflompmabRows
import Derived.Test.YtmipmiaflompmabC8
/-
  OWN WORK. A shape and an image that came in.
-/
namespace Go.Proofs.Ytmipmiaflompmab
open Go.ChangeShapes Go.WideShapes Go.ChangeAt Go.RowKit Go.Deep
set_option linter.unusedVariables false

theorem two_of {α : Type} {l : List α} (h : l.length = 2) : ∃ a b, l = [a, b] := by
  match l, h with
  | [a, b], _ => exact ⟨a, b, rfl⟩
theorem three_of {α : Type} {l : List α} (h : l.length = 3) : ∃ a b c, l = [a, b, c] := by
  match l, h with
  | [a, b, c], _ => exact ⟨a, b, c, rfl⟩
theorem four_of {α : Type} {l : List α} (h : l.length = 4) : ∃ a b c d, l = [a, b, c, d] := by
  match l, h with
  | [a, b, c, d], _ => exact ⟨a, b, c, d, rfl⟩
theorem five_of {α : Type} {l : List α} (h : l.length = 5) : ∃ a b c d e, l = [a, b, c, d, e] := by
  match l, h with
  | [a, b, c, d, e], _ => exact ⟨a, b, c, d, e, rfl⟩
theorem shape_open {H : Type} {enc : TypeId × Value → H} {W : World} {t : TypeId} {f0 f1 f2 : Field} {cs : Array Value} {d : DataW H} {p : List MemPlace} (ht : Try.prog.underlying t = some (.struct #[f0, f1, f2])) (hsz : cs.size = 3)
    (o0 : f0.offset = 0) (o1 : f1.offset = 1) (o2 : f2.offset = 2) (c0 : Try.prog.cellsOf f0.type = 1) (c1 : Try.prog.cellsOf f1.type = 1) (c2 : Try.prog.cellsOf f2.type = 1)
    (t0 : Try.prog.underlying f0.type = some (.int .i64)) (t1 : Try.prog.underlying f1.type = some (.int .i64)) (t2 : Try.prog.underlying f2.type = some (.int .i64))
    (h : DataW.Trod enc Try.prog W 0 (fun _ => true) true t (.agg cs) d p) : ∃ a b c : Int, cs = #[.int .i64 a, .int .i64 b, .int .i64 c] := by
  obtain ⟨fuel, hf⟩ := h
  obtain ⟨xs, k, hk, hxy, _, hxl, hff⟩ := DataW.trod_struct ht hf
  obtain ⟨y0, y1, y2, rfl⟩ := three_of (show xs.length = 3 from hxl)
  obtain ⟨v0, v1, v2, hv⟩ := three_of (show cs.toList.length = 3 by simpa using hsz)
  have q0 := hff 0 f0 rfl
  have q1 := hff 1 f1 rfl
  have q2 := hff 2 f2 rfl
  simp [Value.cells, hv, o0, o1, o2, c0, c1, c2] at q0 q1 q2
  obtain ⟨z0, e0, -, -⟩ := DataW.trod_int t0 q0
  obtain ⟨z1, e1, -, -⟩ := DataW.trod_int t1 q1
  obtain ⟨z2, e2, -, -⟩ := DataW.trod_int t2 q2
  simp at e0 e1 e2
  subst e0 e1 e2
  exact ⟨z0, z1, z2, by rw [← Array.toArray_toList (xs := cs), hv]⟩
theorem image_open {H : Type} {enc : TypeId × Value → H} {W : World} {t e q : TypeId} {f0 f1 f2 f3 : Field} {cs : Array Value} {d : DataW H} {p : List MemPlace} (ht : Try.prog.underlying t = some (.struct #[f0, f1, f2, f3])) (hsz : cs.size = 5)
    (o0 : f0.offset = 0) (o1 : f1.offset = 1) (o2 : f2.offset = 2) (o3 : f3.offset = 3) (c0 : Try.prog.cellsOf f0.type = 1) (c1 : Try.prog.cellsOf f1.type = 1) (c2 : Try.prog.cellsOf f2.type = 1) (c3 : Try.prog.cellsOf f3.type = 2)
    (t0 : Try.prog.underlying f0.type = some (.slice e)) (te : Try.prog.underlying e = some (.slice q)) (tq : Try.prog.underlying q = some (.int .u8)) (ce : Try.prog.cellsOf e = 1) (cq : Try.prog.cellsOf q = 1)
    (t1 : Try.prog.underlying f1.type = some (.slice q)) (t2 : Try.prog.underlying f2.type = some (.slice q)) (t3 : Try.prog.underlying f3.type = some (.array 2 e))
    (h : DataW.Trod enc Try.prog W 0 (fun _ => true) true t (.agg cs) d p) : ∃ (V : IV) (m : IM), Value.agg cs = V.agg ∧ SeeIm W V m ∧ ∀ r, (d.weights Try.prog t).all (· ≤ r) = true → V.pv.length * Try.prog.bytesOf e ≤ r := by
  obtain ⟨fuel, hf⟩ := h
  obtain ⟨xs, k, hk, hxy, _, hxl, hff⟩ := DataW.trod_struct ht hf
  obtain ⟨y0, y1, y2, y3, rfl⟩ := four_of (show xs.length = 4 from hxl)
  obtain ⟨v0, v1, v2, v3, v4, hv⟩ := five_of (show cs.toList.length = 5 by simpa using hsz)
  have q0 := hff 0 f0 rfl
  have q1 := hff 1 f1 rfl
  have q2 := hff 2 f2 rfl
  have q3 := hff 3 f3 rfl
  simp [Value.cells, hv, o0, o1, o2, o3, c0, c1, c2, c3] at q0 q1 q2 q3
  obtain ⟨l1, b1⟩ := bsV_open t1 tq cq q1
  obtain ⟨l2, b2⟩ := bsV_open t2 tq cq q2
  obtain ⟨zs, n, -, -, -, hzl, ha⟩ := DataW.trod_array t3 q3
  obtain ⟨z0, z1, rfl⟩ := two_of hzl
  have a0 := ha 0 (by omega)
  have a1 := ha 1 (by omega)
  rw [ce] at a0 a1
  simp at a0 a1
  obtain ⟨l3, b3⟩ := bsV_open te tq cq a0
  obtain ⟨l4, b4⟩ := bsV_open te tq cq a1
  have hcs : cs = #[v0, v1, v2, v3, v4] := by rw [← Array.toArray_toList (xs := cs), hv]
  subst hcs
  rcases open_int_rows t0 te tq ce cq q0 with ⟨hc, -⟩ | ⟨a, len, cap, A, L, C, Z, hc, -, hl, hm, hx0, hr⟩
  · simp at hc
    subst hc
    exact ⟨⟨.slice none 0 0, [], v1, v2, v3, v4⟩, ⟨[], l1, l2, l3, l4⟩, rfl, ⟨⟨none, 0, rfl, Nat.le_refl _, by simp [maxLen], fun a e => (by cases e), fun _ => rfl⟩, rfl, fun i v l hv => (by simp at hv), b1, b2, b3, b4⟩, fun r _ => by simp⟩
  · simp at hc
    subst hc
    have hlr : ∀ r, r < cap → (bytesOfInts ((Z r).take (L r))).length = L r := fun r h => by
      obtain ⟨_, g1, _, g3, _⟩ := hr r h
      rw [bytes_length, List.length_take]; omega
    refine ⟨⟨.slice (some a) len cap, (List.range len).map fun r => .slice (A r) (L r) (C r), v1, v2, v3, v4⟩, ⟨(List.range len).map fun r => bytesOfInts ((Z r).take (L r)), l1, l2, l3, l4⟩, rfl, ⟨⟨some a, cap, by simp, by simpa using hl, hm, fun a' e i v hv => ?_, fun e => (by cases e)⟩, by simp, fun i v l hv hll => ?_, b1, b2, b3, b4⟩, fun r hw => ?_⟩
    · cases e
      simp only [List.getElem?_map] at hv
      obtain ⟨r, hr1, rfl⟩ := Option.map_eq_some_iff.1 hv
      obtain ⟨hr2, rfl⟩ := List.getElem?_eq_some_iff.1 hr1
      have hr3 : i < len := by simpa using hr2
      simp only [List.getElem_range]
      exact (hr i (by omega)).1
    · simp only [List.getElem?_map] at hv hll
      obtain ⟨r, hr1, rfl⟩ := Option.map_eq_some_iff.1 hv
      rw [hr1] at hll
      obtain ⟨hr2, rfl⟩ := List.getElem?_eq_some_iff.1 hr1
      have hr3 : i < len := by simpa using hr2
      simp at hll
      subst hll
      simp only [List.getElem_range]
      obtain ⟨k1, k2, k3, k4, k5, k6, k7⟩ := hr i (by omega)
      exact bs_cells k2 k3 k4 k6 (fun a' ha j hj => (k7 a' ha).2 j hj) k5
    · have hd : d = .agg [y0.1, y1.1, y2.1, y3.1] := by simpa using congrArg Prod.fst hxy
      have hmem : (len + (cap - len)) * Try.prog.bytesOf e ∈ d.weights Try.prog t := by
        rw [hd, hx0]
        simp [DataW.weights, ht, DataW.weightsEach, t0]
      have h9 := List.all_eq_true.1 hw _ hmem
      simp only [decide_eq_true_eq] at h9
      simp only [List.length_map, List.length_range]
      exact Nat.le_trans (Nat.mul_le_mul_right _ (by omega)) h9
end Go.Proofs.Ytmipmiaflompmab

/-
  OWN WORK. An image and a script that came in, with the weights of all their lists.
-/
namespace Go.Proofs.Ytmipmiaflompmab
open Go.ChangeShapes Go.WideShapes Go.ChangeAt Go.RowKit Go.Deep
set_option linter.unusedVariables false

theorem wAll_mem {H : Type} {P : Program} {e : TypeId} : ∀ {ds : List (DataW H)} {d : DataW H}, d ∈ ds → ∀ n ∈ d.weights P e, n ∈ DataW.weightsAll P e ds
  | d0 :: ds, d, hd, n, hn => by
    simp only [DataW.weightsAll, List.mem_append]
    rcases List.mem_cons.1 hd with c | c
    · subst c; exact .inl hn
    · exact .inr (wAll_mem c n hn)
theorem all_le {l : List Nat} {r n : Nat} (h : l.all (· ≤ r) = true) (hn : n ∈ l) : n ≤ r := by simpa using List.all_eq_true.1 h n hn
theorem all_sub {l k : List Nat} {r : Nat} (h : l.all (· ≤ r) = true) (hs : ∀ n ∈ k, n ∈ l) : k.all (· ≤ r) = true := List.all_eq_true.2 fun n hn => List.all_eq_true.1 h n (hs n hn)
theorem lits_wt {H : Type} {P : Program} {t e : TypeId} {k : IntKind} {len : Nat} {zs : List Int} {r : Nat} (ht : P.underlying t = some (.slice e)) (h : ((DataW.slice (lits k (zs.take len)) (lits k (zs.drop len)) : DataW H).weights P t).all (· ≤ r) = true) : zs.length * P.bytesOf e ≤ r := by
  have hm : ((lits (H := H) k (zs.take len)).length + (lits (H := H) k (zs.drop len)).length) * P.bytesOf e ∈ (DataW.slice (lits k (zs.take len)) (lits k (zs.drop len)) : DataW H).weights P t := by
    simp only [DataW.weights, ht]
    exact List.mem_cons_self
  have := all_le h hm
  have e1 : (lits (H := H) k (zs.take len)).length + (lits (H := H) k (zs.drop len)).length = zs.length := by
    unfold lits
    rw [List.length_map, List.length_map, ← List.length_append, List.take_append_drop]
  rwa [e1] at this
theorem bsV_open3 {H : Type} {enc : TypeId × Value → H} {W : World} {t e : TypeId} {fuel : Nat} {v : Value} {x : DataW H × List MemPlace} (ht : Try.prog.underlying t = some (.slice e)) (he : Try.prog.underlying e = some (.int .u8)) (hc : Try.prog.cellsOf e = 1)
    (hf : DataW.trod enc Try.prog W 0 (fun _ => true) true fuel t [v] = some x) : ∃ l : List UInt8, Bs W v l ∧ ∀ r, (x.1.weights Try.prog t).all (· ≤ r) = true → l.length * Try.prog.bytesOf e ≤ r := by
  rcases open_ints ht he hc hf with ⟨hcs, hx⟩ | ⟨a, len, cap, zs, hcs, _, hl, hm, hz, hx, hcell, hwz⟩
  · simp at hcs
    subst hcs
    exact ⟨[], Bs.nil W, fun r _ => by simp⟩
  · simp at hcs
    subst hcs
    have hz' : zs.length = cap := by simpa using hz
    exact ⟨bytesOfInts (zs.take len), bs_cells hl hm hz' (fun e => by cases e) (fun a' ha i hi => by cases ha; exact hcell i (by omega)) hwz, fun r hr => by
      subst hx
      have := lits_wt ht hr
      refine Nat.le_trans (Nat.mul_le_mul_right _ ?_) this
      rw [bytes_length, List.length_take]; omega⟩
theorem isV_open3 {H : Type} {enc : TypeId × Value → H} {W : World} {t e : TypeId} {fuel : Nat} {v : Value} {x : DataW H × List MemPlace} (ht : Try.prog.underlying t = some (.slice e)) (he : Try.prog.underlying e = some (.int .i64)) (hc : Try.prog.cellsOf e = 1)
    (hf : DataW.trod enc Try.prog W 0 (fun _ => true) true fuel t [v] = some x) : ∃ l : List Int, Is W v l ∧ ∀ r, (x.1.weights Try.prog t).all (· ≤ r) = true → l.length * Try.prog.bytesOf e ≤ r := by
  rcases open_ints ht he hc hf with ⟨hcs, hx⟩ | ⟨a, len, cap, zs, hcs, _, hl, hm, hz, hx, hcell, hwz⟩
  · simp at hcs
    subst hcs
    exact ⟨[], ⟨none, 0, rfl, Nat.le_refl _, by simp [maxLen], fun _ => rfl, by simp, fun a e => (by cases e)⟩, fun r _ => by simp⟩
  · simp at hcs
    subst hcs
    have hz' : zs.length = cap := by simpa using hz
    have hlen : (zs.take len).length = len := by simp; omega
    refine ⟨zs.take len, ⟨some a, cap, by rw [hlen], by rw [hlen]; exact hl, hm, fun e => (by cases e), fun y hy => ?_, fun a' ha i y hy => ?_⟩, fun r hr => ?_⟩
    · have hw := hwz y (List.mem_of_mem_take hy)
      have hb : -9223372036854775808 ≤ y ∧ y ≤ 9223372036854775807 := by simpa [Lit.wf, IntKind.min, IntKind.max, IntKind.signed, IntKind.bits] using hw
      exact wrap_i64_of (by omega) (by omega)
    · cases ha
      have hi : i < len := by rw [← hlen]; exact (List.getElem?_eq_some_iff.1 hy).1
      rw [hcell i (by omega)]
      rw [List.getElem?_take, if_pos hi] at hy
      simp [List.getD, hy]
    · subst hx
      have := lits_wt ht hr
      refine Nat.le_trans (Nat.mul_le_mul_right _ ?_) this
      rw [List.length_take]; omega
theorem ops_open3 {H : Type} {enc : TypeId × Value → H} {W : World} {t e eb ek : TypeId} {f0 f1 f2 f3 f4 f5 h0 h1 : Field} {ao : Option Addr} {len cap : Nat} {d : DataW H} {p : List MemPlace} (ht : Try.prog.underlying t = some (.slice e)) (he : Try.prog.underlying e = some (.struct #[f0, f1, f2, f3, f4, f5]))
    (ce : Try.prog.cellsOf e = 7) (o0 : f0.offset = 0) (o1 : f1.offset = 1) (o2 : f2.offset = 2) (o3 : f3.offset = 3) (o4 : f4.offset = 4) (o5 : f5.offset = 5)
    (c0 : Try.prog.cellsOf f0.type = 1) (c1 : Try.prog.cellsOf f1.type = 1) (c2 : Try.prog.cellsOf f2.type = 1) (c3 : Try.prog.cellsOf f3.type = 1) (c4 : Try.prog.cellsOf f4.type = 1) (c5 : Try.prog.cellsOf f5.type = 2)
    (t0 : Try.prog.underlying f0.type = some (.int .i64)) (t1 : Try.prog.underlying f1.type = some (.int .i64)) (t2 : Try.prog.underlying f2.type = some (.int .i64)) (t3 : Try.prog.underlying f3.type = some (.int .i64)) (t4 : Try.prog.underlying f4.type = some (.slice eb)) (tb8 : Try.prog.underlying eb = some (.int .u8)) (cb : Try.prog.cellsOf eb = 1)
    (t5 : Try.prog.underlying f5.type = some (.struct #[h0, h1])) (p0 : h0.offset = 0) (p1 : h1.offset = 1) (d0 : Try.prog.cellsOf h0.type = 1) (d1 : Try.prog.cellsOf h1.type = 1) (u0 : Try.prog.underlying h0.type = some (.int .i64)) (u1 : Try.prog.underlying h1.type = some (.slice ek)) (uk : Try.prog.underlying ek = some (.int .i64)) (ck : Try.prog.cellsOf ek = 1)
    (h : DataW.Trod enc Try.prog W 0 (fun _ => true) true t (.slice ao len cap) d p) : ∃ ss : List OpR, ss.length = len ∧ Ops W (.slice ao len cap) ss ∧ (d = .nil ∧ len = 0 ∨ ∃ el sp, d = .slice el sp ∧ el.length = len) ∧ ∀ r, (d.weights Try.prog t).all (· ≤ r) = true → ∀ s ∈ ss, s.b.length * Try.prog.bytesOf eb ≤ r ∧ s.keep.length * Try.prog.bytesOf ek ≤ r := by
  obtain ⟨fuel, hf⟩ := h
  rcases open_slice ht hf with ⟨hcs, hx⟩ | ⟨a, l, c, m, n, D, Pl, hcs, hb, hl, hm, hmm, hx, hel⟩
  · simp [Value.cells] at hcs
    obtain ⟨rfl, rfl, rfl⟩ := hcs
    obtain ⟨rfl, -⟩ := Prod.mk.inj hx
    exact ⟨[], rfl, ⟨none, 0, rfl, Nat.le_refl _, by simp [maxLen], fun _ => rfl, fun a e => (by cases e)⟩, .inl ⟨rfl, rfl⟩, fun r _ s hs => by simp at hs⟩
  · simp [Value.cells] at hcs
    obtain ⟨rfl, rfl, rfl⟩ := hcs
    obtain ⟨rfl, -⟩ := Prod.mk.inj hx
    have hmm' : m = cap := by simpa using hmm
    have each : ∀ i, i < m → ∃ q : OpR, OpAt W (a.add (i * 7)) q ∧ ∀ r, ((D i).weights Try.prog e).all (· ≤ r) = true → q.b.length * Try.prog.bytesOf eb ≤ r ∧ q.keep.length * Try.prog.bytesOf ek ≤ r := by
      intro i hi
      obtain ⟨cs', g1, g2⟩ := hel i hi
      rw [ce] at g1
      obtain ⟨_, hlen, hcell⟩ := World.cells?_some g1
      obtain ⟨xs, k, hk, hxy, _, hxl, hff⟩ := DataW.trod_struct he g2
      obtain ⟨y0, y1, y2, y3, y4, y5, rfl⟩ := six_of (show xs.length = 6 from hxl)
      obtain ⟨v0, v1, v2, v3, v4, v5, v6, rfl⟩ := seven_of hlen
      have q0 := hff 0 f0 rfl
      have q1 := hff 1 f1 rfl
      have q2 := hff 2 f2 rfl
      have q3 := hff 3 f3 rfl
      have q4 := hff 4 f4 rfl
      have q5 := hff 5 f5 rfl
      simp [o0, o1, o2, o3, o4, o5, c0, c1, c2, c3, c4, c5] at q0 q1 q2 q3 q4 q5
      obtain ⟨z0, e0, -, -⟩ := DataW.trod_int t0 q0
      obtain ⟨z1, e1, -, -⟩ := DataW.trod_int t1 q1
      obtain ⟨z2, e2, -, w2⟩ := DataW.trod_int t2 q2
      obtain ⟨z3, e3, -, -⟩ := DataW.trod_int t3 q3
      obtain ⟨lb, hbs, hbw⟩ := bsV_open3 t4 tb8 cb q4
      obtain ⟨r0, r1, n2, hy5, -, s0, s1⟩ := trod_struct2 t5 q5
      simp [p0, p1, d0, d1] at s0 s1
      obtain ⟨z5, e5, -, -⟩ := DataW.trod_int u0 s0
      obtain ⟨lk, hks, hkw⟩ := isV_open3 u1 uk ck s1
      simp at e0 e1 e2 e3 e5
      subst e0 e1 e2 e3 e5
      have x0 := hcell 0 (by omega)
      have x1 := hcell 1 (by omega)
      have x2 := hcell 2 (by omega)
      have x3 := hcell 3 (by omega)
      have x4 := hcell 4 (by omega)
      have x5 := hcell 5 (by omega)
      have x6 := hcell 6 (by omega)
      have hD : D i = .agg [y0.1, y1.1, y2.1, y3.1, y4.1, y5.1] := by simpa using congrArg Prod.fst hxy
      have h5 : y5.1 = .agg [r0.1, r1.1] := by rw [hy5]
      refine ⟨⟨z0, z1, z2, z3, v4, lb, z5, v6, lk⟩, ⟨?_, ?_, ?_, ?_, ?_, ?_, ?_, hbs, hks, i64_wf w2⟩, fun r hr => ?_⟩
      · have : (a.add (i * 7)).add 0 = a.add (i * 7) := by rw [Go.Proofs.Ytmipmiaflompmab.add_add]; rfl
        rw [this] at x0
        simpa using x0
      · simpa using x1
      · simpa using x2
      · simpa using x3
      · simpa using x4
      · simpa using x5
      · simpa using x6
      · have m4 : ∀ n ∈ y4.1.weights Try.prog f4.type, n ∈ (D i).weights Try.prog e := fun n hn => by
          rw [hD]
          simp only [DataW.weights, he]
          exact DataW.weights_mem_each (j := 4) rfl rfl n hn
        have m5 : ∀ n ∈ r1.1.weights Try.prog h1.type, n ∈ (D i).weights Try.prog e := fun n hn => by
          rw [hD]
          simp only [DataW.weights, he]
          refine DataW.weights_mem_each (j := 5) rfl rfl n ?_
          rw [h5]
          simp only [DataW.weights, t5]
          exact DataW.weights_mem_each (j := 1) rfl rfl n hn
        exact ⟨hbw r (all_sub hr m4), hkw r (all_sub hr m5)⟩
    haveI : Inhabited OpR := ⟨⟨0, 0, 0, 0, .bool false, [], 0, .bool false, []⟩⟩
    obtain ⟨q, hq⟩ := choose_lt each
    refine ⟨(List.range len).map q, by simp, ⟨some a, cap, by simp, by simpa using hl, hm, fun e => (by cases e), fun a' e i s hs => ?_⟩, .inr ⟨_, _, rfl, by simp⟩, fun r hr s hs => ?_⟩
    · cases e
      simp only [List.getElem?_map] at hs
      obtain ⟨j, hj, rfl⟩ := Option.map_eq_some_iff.1 hs
      obtain ⟨hj2, rfl⟩ := List.getElem?_eq_some_iff.1 hj
      have hi : i < len := by simpa using hj2
      simp only [List.getElem_range]
      exact (hq i (by omega)).1
    · obtain ⟨i, hi, rfl⟩ := List.mem_map.1 hs
      have hi' : i < len := by simpa using hi
      refine (hq i (by omega)).2 r (all_sub hr fun n hn => ?_)
      simp only [DataW.weights, ht]
      refine List.mem_cons_of_mem _ (List.mem_append_left _ (wAll_mem (List.mem_map.2 ⟨i, hi, rfl⟩) n hn))
theorem image_open3 {H : Type} {enc : TypeId × Value → H} {W : World} {t e q : TypeId} {f0 f1 f2 f3 : Field} {cs : Array Value} {d : DataW H} {p : List MemPlace} (ht : Try.prog.underlying t = some (.struct #[f0, f1, f2, f3])) (hsz : cs.size = 5)
    (o0 : f0.offset = 0) (o1 : f1.offset = 1) (o2 : f2.offset = 2) (o3 : f3.offset = 3) (c0 : Try.prog.cellsOf f0.type = 1) (c1 : Try.prog.cellsOf f1.type = 1) (c2 : Try.prog.cellsOf f2.type = 1) (c3 : Try.prog.cellsOf f3.type = 2)
    (t0 : Try.prog.underlying f0.type = some (.slice e)) (te : Try.prog.underlying e = some (.slice q)) (tq : Try.prog.underlying q = some (.int .u8)) (ce : Try.prog.cellsOf e = 1) (cq : Try.prog.cellsOf q = 1)
    (t1 : Try.prog.underlying f1.type = some (.slice q)) (t2 : Try.prog.underlying f2.type = some (.slice q)) (t3 : Try.prog.underlying f3.type = some (.array 2 e))
    (h : DataW.Trod enc Try.prog W 0 (fun _ => true) true t (.agg cs) d p) : ∃ (V : IV) (m : IM), Value.agg cs = V.agg ∧ SeeIm W V m ∧ ∀ r, (d.weights Try.prog t).all (· ≤ r) = true → V.pv.length * Try.prog.bytesOf e ≤ r ∧ ∀ l ∈ m.ps ++ [m.pair, m.log, m.m0, m.m1], l.length * Try.prog.bytesOf q ≤ r := by
  obtain ⟨fuel, hf⟩ := h
  obtain ⟨xs, k, hk, hxy, _, hxl, hff⟩ := DataW.trod_struct ht hf
  obtain ⟨y0, y1, y2, y3, rfl⟩ := four_of (show xs.length = 4 from hxl)
  obtain ⟨v0, v1, v2, v3, v4, hv⟩ := five_of (show cs.toList.length = 5 by simpa using hsz)
  have q0 := hff 0 f0 rfl
  have q1 := hff 1 f1 rfl
  have q2 := hff 2 f2 rfl
  have q3 := hff 3 f3 rfl
  simp [Value.cells, hv, o0, o1, o2, o3, c0, c1, c2, c3] at q0 q1 q2 q3
  obtain ⟨l1, b1, g1⟩ := bsV_open3 t1 tq cq q1
  obtain ⟨l2, b2, g2⟩ := bsV_open3 t2 tq cq q2
  obtain ⟨zs, n, -, hzx, -, hzl, ha⟩ := DataW.trod_array t3 q3
  obtain ⟨z0, z1, rfl⟩ := two_of hzl
  have a0 := ha 0 (by omega)
  have a1 := ha 1 (by omega)
  rw [ce] at a0 a1
  simp at a0 a1
  obtain ⟨l3, b3, g3⟩ := bsV_open3 te tq cq a0
  obtain ⟨l4, b4, g4⟩ := bsV_open3 te tq cq a1
  have hcs : cs = #[v0, v1, v2, v3, v4] := by rw [← Array.toArray_toList (xs := cs), hv]
  subst hcs
  have hd : d = .agg [y0.1, y1.1, y2.1, y3.1] := by simpa using congrArg Prod.fst hxy
  have h3 : y3.1 = .agg [z0.1, z1.1] := by simpa using congrArg Prod.fst hzx
  have four : ∀ r, (d.weights Try.prog t).all (· ≤ r) = true → l1.length * Try.prog.bytesOf q ≤ r ∧ l2.length * Try.prog.bytesOf q ≤ r ∧ l3.length * Try.prog.bytesOf q ≤ r ∧ l4.length * Try.prog.bytesOf q ≤ r := fun r hr => by
    rw [hd] at hr
    simp only [DataW.weights, ht] at hr
    have at3 : ∀ n ∈ y3.1.weights Try.prog f3.type, n ∈ DataW.weightsEach Try.prog (#[f0, f1, f2, f3].toList.map (·.type)) [y0.1, y1.1, y2.1, y3.1] := fun n hn => DataW.weights_mem_each (j := 3) rfl rfl n hn
    have in3 : ∀ z ∈ [z0.1, z1.1], ∀ n ∈ z.weights Try.prog e, n ∈ y3.1.weights Try.prog f3.type := fun z hz n hn => by
      rw [h3]
      simp only [DataW.weights, t3]
      exact wAll_mem hz n hn
    exact ⟨g1 r (all_sub hr fun n hn => DataW.weights_mem_each (j := 1) rfl rfl n hn), g2 r (all_sub hr fun n hn => DataW.weights_mem_each (j := 2) rfl rfl n hn), g3 r (all_sub hr fun n hn => at3 n (in3 _ (by simp) n hn)), g4 r (all_sub hr fun n hn => at3 n (in3 _ (by simp) n hn))⟩
  rcases open_int_rows t0 te tq ce cq q0 with ⟨hc, -⟩ | ⟨a, len, cap, A, L, C, Z, hc, -, hl, hm, hx0, hr⟩
  · simp at hc
    subst hc
    exact ⟨⟨.slice none 0 0, [], v1, v2, v3, v4⟩, ⟨[], l1, l2, l3, l4⟩, rfl, ⟨⟨none, 0, rfl, Nat.le_refl _, by simp [maxLen], fun a e => (by cases e), fun _ => rfl⟩, rfl, fun i v l hv => (by simp at hv), b1, b2, b3, b4⟩, fun r hr => ⟨by simp, fun l hl => by obtain ⟨f1, f2, f3, f4⟩ := four r hr; simp at hl; rcases hl with rfl | rfl | rfl | rfl <;> assumption⟩⟩
  · simp at hc
    subst hc
    have hlr : ∀ r, r < cap → (bytesOfInts ((Z r).take (L r))).length = L r := fun r h => by
      obtain ⟨_, g1, _, g3, _⟩ := hr r h
      rw [bytes_length, List.length_take]; omega
    refine ⟨⟨.slice (some a) len cap, (List.range len).map fun r => .slice (A r) (L r) (C r), v1, v2, v3, v4⟩, ⟨(List.range len).map fun r => bytesOfInts ((Z r).take (L r)), l1, l2, l3, l4⟩, rfl, ⟨⟨some a, cap, by simp, by simpa using hl, hm, fun a' e i v hv => ?_, fun e => (by cases e)⟩, by simp, fun i v l hv hll => ?_, b1, b2, b3, b4⟩, fun r hw => ?_⟩
    · cases e
      simp only [List.getElem?_map] at hv
      obtain ⟨r, hr1, rfl⟩ := Option.map_eq_some_iff.1 hv
      obtain ⟨hr2, rfl⟩ := List.getElem?_eq_some_iff.1 hr1
      have hr3 : i < len := by simpa using hr2
      simp only [List.getElem_range]
      exact (hr i (by omega)).1
    · simp only [List.getElem?_map] at hv hll
      obtain ⟨r, hr1, rfl⟩ := Option.map_eq_some_iff.1 hv
      rw [hr1] at hll
      obtain ⟨hr2, rfl⟩ := List.getElem?_eq_some_iff.1 hr1
      have hr3 : i < len := by simpa using hr2
      simp at hll
      subst hll
      simp only [List.getElem_range]
      obtain ⟨k1, k2, k3, k4, k5, k6, k7⟩ := hr i (by omega)
      exact bs_cells k2 k3 k4 k6 (fun a' ha j hj => (k7 a' ha).2 j hj) k5
    · have hmem : (len + (cap - len)) * Try.prog.bytesOf e ∈ d.weights Try.prog t := by
        rw [hd, hx0]
        simp [DataW.weights, ht, DataW.weightsEach, t0]
      have h9 := all_le hw hmem
      obtain ⟨f1, f2, f3, f4⟩ := four r hw
      refine ⟨?_, fun l hl => ?_⟩
      · simp only [List.length_map, List.length_range]
        exact Nat.le_trans (Nat.mul_le_mul_right _ (by omega)) h9
      · rcases List.mem_append.1 hl with c | c
        · obtain ⟨i, hi, rfl⟩ := List.mem_map.1 c
          have hi' : i < len := by simpa using hi
          show (bytesOfInts ((Z i).take (L i))).length * _ ≤ r
          rw [hlr i (by omega)]
          obtain ⟨k1, k2, k3, k4, k5, k6, k7⟩ := hr i (by omega)
          cases hA : A i with
          | none =>
            have := k6 hA
            rw [show L i = 0 by omega, Nat.zero_mul]
            exact Nat.zero_le _
          | some a' =>
            have hsub : ∀ n ∈ (DataW.slice (lits .u8 ((Z i).take (L i))) (lits .u8 ((Z i).drop (L i))) : DataW H).weights Try.prog e, n ∈ d.weights Try.prog t := fun n hn => by
              rw [hd]
              simp only [DataW.weights, ht]
              refine DataW.weights_mem_each (j := 0) rfl rfl n ?_
              rw [hx0]
              simp only [DataW.weights, t0]
              refine List.mem_cons_of_mem _ (List.mem_append_left _ (wAll_mem (List.mem_map.2 ⟨i, hi, rfl⟩) n ?_))
              rw [hA]
              exact hn
            have := lits_wt te (all_sub hw hsub)
            exact Nat.le_trans (Nat.mul_le_mul_right _ (by omega)) this
        · simp at c
          rcases c with rfl | rfl | rfl | rfl <;> assumption
end Go.Proofs.Ytmipmiaflompmab

/-
  OWN WORK. THE STATEMENT, out of the walk.
-/
namespace Go.Proofs.Ytmipmiaflompmab.diskKeeps
open Go.ChangeShapes Go.WideShapes Go.ChangeAt Go.RowKit
set_option linter.unusedVariables false
set_option maxRecDepth 100000 in
theorem contract (H : Type) (enc : TypeId × Value → H) (W : World) (base : Nat) (args : Array Value) (ds gs : List (DataW H)) (before : List MemPlace)
    (hval : ∀ (j : Nat) t v, Try.f3.params[j]? = some t → args[j]? = some v → Value.okWide Try.prog W .any base t v)
    (hW : DataW.Whole enc Try.prog Try.f3.params.toList Rows.diskKeepsSpec.vars false W args.toList ds gs before) (hsz : (DataW.weightsEach Try.prog (Try.f3.params.toList ++ Rows.diskKeepsSpec.plain.varTypes Try.prog) (ds ++ gs)).all (· ≤ reachBytes) = true) :
    Calls Try.prog 3 args W fun e W' => ∃ v, e = .returned v ∧ Rows.diskKeepsSpec.post enc Try.prog Try.f3 false true false false W args v W' := by
  have hW' := hW
  obtain ⟨p, q, hA0, hV, rfl, hfz, hnd⟩ := hW
  have hA : DataW.TrodAll enc Try.prog W 0 (fun _ => true) true Try.f3.params.toList args.toList ds p := hA0
  rw [Try.params3] at hA hval hsz
  obtain ⟨v0, vs0, d0, ds0, p0, q0, hargs, rfl, rfl, h0, r0⟩ := trodAll_cons hA
  obtain ⟨v1, vs1, d1, ds1, p1, q1, rfl, rfl, rfl, h1, r1⟩ := trodAll_cons r0
  obtain ⟨v2, vs2, d2, ds2, p2, q2, rfl, rfl, rfl, h2, r2⟩ := trodAll_cons r1
  obtain ⟨rfl, rfl, rfl⟩ := trodAll_nil r2
  obtain rfl : args = #[v0, v1, v2] := by cases args; simp_all
  obtain ⟨rfl, rfl⟩ := trodVars_none hV
  have hv0 : Value.okWide Try.prog W .any base 23 v0 := hval 0 23 v0 (by rfl) (by rfl)
  obtain ⟨cs0, rfl, sz0⟩ := okWide_struct (P := Try.prog) (t := 23) Try.underlying23 hv0
  clear hv0
  have lt0 : ∀ x ∈ p0, x.block < W.heap.size := by obtain ⟨m, hm⟩ := h0; exact DataW.trod_lt m _ _ _ hm
  obtain ⟨sa0, sb0, sc0, rfl⟩ := shape_open Try.underlying23 (sz0.trans (by kernel_rfl)) rfl rfl rfl (by kernel_rfl) (by kernel_rfl) (by kernel_rfl) (by kernel_rfl) (by kernel_rfl) (by kernel_rfl) h0
  have hv1 : Value.okWide Try.prog W .any base 28 v1 := hval 1 28 v1 (by rfl) (by rfl)
  obtain ⟨cs1, rfl, sz1⟩ := okWide_struct (P := Try.prog) (t := 28) Try.underlying28 hv1
  clear hv1
  have lt1 : ∀ x ∈ p1, x.block < W.heap.size := by obtain ⟨m, hm⟩ := h1; exact DataW.trod_lt m _ _ _ hm
  obtain ⟨V1, im1, hag1, see1, wt1⟩ := image_open3 Try.underlying28 (sz1.trans (by kernel_rfl)) rfl rfl rfl rfl (by kernel_rfl) (by kernel_rfl) (by kernel_rfl) (by kernel_rfl) Try.underlying24 Try.underlying25 Try.underlying5 (by kernel_rfl) (by kernel_rfl) Try.underlying25 Try.underlying25 Try.underlying26 h1
  have hc1 : cs1 = #[V1.vp, V1.pair, V1.log, V1.m0, V1.m1] := by unfold IV.agg at hag1; exact Value.agg.inj hag1
  subst hc1
  clear hag1
  obtain ⟨ao2, len2, cap2, rfl⟩ := okWide_slice Try.underlying29 (hval 2 29 v2 rfl rfl)
  have lt2 : ∀ x ∈ p2, x.block < W.heap.size := by obtain ⟨m, hm⟩ := h2; exact DataW.trod_lt m _ _ _ hm
  obtain ⟨l2, hl2, B2, dd2, ow2⟩ := ops_open3 Try.underlying29 Try.underlying52 (by kernel_rfl) rfl rfl rfl rfl rfl rfl (by kernel_rfl) (by kernel_rfl) (by kernel_rfl) (by kernel_rfl) (by kernel_rfl) (by kernel_rfl) (by kernel_rfl) (by kernel_rfl) (by kernel_rfl) (by kernel_rfl) Try.underlying25 Try.underlying5 (by kernel_rfl) Try.underlying50 rfl rfl (by kernel_rfl) (by kernel_rfl) (by kernel_rfl) Try.underlying48 (by kernel_rfl) (by kernel_rfl) h2
  clear hA0
  have szop : l2.length * 88 ≤ 140737488351232 := by
    rcases dd2 with ⟨_, e⟩ | ⟨el, sp, rfl, e⟩
    · rw [hl2, e]; omega
    · have := sized_slice hsz (j := 2) (t := 29) rfl rfl Try.underlying29
      rw [show Try.prog.bytesOf 52 = 88 by kernel_rfl] at this
      simp only [reachBytes] at this
      rw [hl2, ← e]
      omega
  have hw1 := wt1 reachBytes (List.all_eq_true.2 fun n hn => List.all_eq_true.1 hsz n (DataW.weights_mem_each (j := 1) rfl rfl n hn))
  rw [show Try.prog.bytesOf 25 = 24 by kernel_rfl, show Try.prog.bytesOf 5 = 1 by kernel_rfl] at hw1
  simp only [reachBytes] at hw1
  have hpc : (im1.ps.length + 4) * 24 ≤ 140737488355328 := by
    have := hw1.1
    rw [← see1.len]
    omega
  have hcs : ∀ l ∈ im1.ps ++ [im1.pair, im1.log, im1.m0, im1.m1], l.length + 300 ≤ 140737488355328 := fun l hl => by
    have := hw1.2 l hl
    omega
  have hw2 := ow2 reachBytes (List.all_eq_true.2 fun n hn => List.all_eq_true.1 hsz n (DataW.weights_mem_each (j := 2) rfl rfl n hn))
  rw [show Try.prog.bytesOf 5 = 1 by kernel_rfl, show Try.prog.bytesOf 3 = 8 by kernel_rfl] at hw2
  simp only [reachBytes] at hw2
  have hob : ∀ s ∈ l2, s.b.length + 300 ≤ 140737488355328 ∧ (s.keep.length + 3) * 8 ≤ 140737488355328 := fun s hs => by
    have := hw2 s hs
    omega
  refine (diskKeeps_walk sa0 sb0 sc0 V1 im1 _ l2 W see1 hpc hcs B2 (by omega) hob).mono fun e W' ⟨he, kp⟩ => ?_
  subst he
  have bel := kp.below
  exact ⟨_, rfl, _, _, _, [], _, [], hW', trodAll_mk1 (shut_bool Try.underlying4 _), (trodAll_cons_mk (Below.trod laidOut (by kernel_rfl) (of_decide_eq_true (by kernel_rfl)) h0 bel lt0) (trodAll_cons_mk (Below.trod laidOut (by kernel_rfl) (of_decide_eq_true (by kernel_rfl)) h1 bel lt1) (trodAll_cons_mk (Below.trod laidOut (by kernel_rfl) (of_decide_eq_true (by kernel_rfl)) h2 bel lt2) trodAll_mk0))), rfl, bel.frame _, fun h => by cases h⟩

set_option maxRecDepth 100000 in
theorem lifted (os : Os) (started : os.Started) (H : Type) (enc : TypeId × Value → H) :
    ReturnsInHanded {} Try.checked os 3 .any (Rows.diskKeepsSpec.pre6 enc Try.prog Try.f3 Rows.diskKeepsRow.domain false) (Rows.diskKeepsSpec.post enc Try.prog Try.f3 false true false false) := by
  refine returnsInHanded_of_change_sized (C := Try.checked) own started (by kernel_rfl) Try.func3
    (ChangeSpec.witness6 (enc := enc) (C := Try.checked) false ⟨#[], #[.agg #[.int .i64 0, .int .i64 0, .int .i64 0], .agg #[.slice none 0 0, .slice none 0 0, .slice none 0 0, .slice none 0 0, .slice none 0 0], .slice none 0 0], []⟩ 8 (by kernel_rfl) (by kernel_rfl) (by kernel_rfl) (by kernel_rfl)) ?_
  intro W base args ds gs before hval hW _ hsz _
  exact contract H enc W base args ds gs before hval hW hsz

theorem proved : Rows.DiskKeepsSaid :=
  OpenClaim.holds_of_wide 3 Try.f3 rfl rfl rfl rfl rfl rfl rfl ⟨rfl, rfl, rfl, rfl, rfl⟩ rfl rfl rfl rfl rfl (by kernel_rfl) Try.func3 (by kernel_rfl)
    (of_decide_eq_true (by kernel_rfl)) (by unfold Func.isWrapper; first | (rw [if_pos (by decide +kernel)]; kernel_rfl) | (rw [if_neg (by decide +kernel)]; exact ⟨rfl, rfl⟩))
    (fun os started H enc _ => lifted os started H enc)
#print axioms proved
end Go.Proofs.Ytmipmiaflompmab.diskKeeps

