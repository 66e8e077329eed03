import Derived.Test.YtocpagpkpibmaaaDoorRows
import Derived.Deep.Slices
import Derived.Test.YtocpagpkpibmaaaDoorC1
/-
  OWN WORK (by mkpno.py). Scripts (layer 18): rows of five cells.
-/
namespace Go.Proofs.YtocpagpkpibmaaaDoor
open Go.RowKit
set_option linter.unusedVariables false
set_option linter.unusedSimpArgs false

def OpR.cs (s : OpR) : List Value := [.int .i64 s.kind, .int .i64 s.id, .int .i64 s.key, .int .u64 s.v, .int .i64 s.n]
def OpAt (w : World) (a : Addr) (s : OpR) : Prop := (∀ (j : Nat) u, s.cs[j]? = some u → w.cell? (a.add j) = some u) ∧ s.ok
/-- v is a slice of these -/
def Ops (w : World) (v : Value) (ss : List OpR) : Prop :=
  ∃ (p : Option Addr) (c : Nat), v = .slice p ss.length c ∧ ss.length ≤ c ∧ c ≤ maxLen ∧ (p = none → c = 0) ∧ ∀ a, p = some a → ∀ (i : Nat) s, ss[i]? = some s → OpAt w (a.add (i * 5)) s
theorem OpAt.kept {w w' : World} {a : Addr} {s : OpR} (h : OpAt w a s) (k : Kept [] w w') : OpAt w' a s := ⟨fun j u hj => k.cell (h.1 j u hj) (by simp), h.2⟩
theorem Ops.kept {w w' : World} {v : Value} {ss : List OpR} (h : Ops w v ss) (k : Kept [] w w') : Ops w' v ss := by
  obtain ⟨p, c, e, h1, h2, h3, h4⟩ := h
  exact ⟨p, c, e, h1, h2, h3, fun a ha i s hs => (h4 a ha i s hs).kept k⟩
theorem Ops.shape {w : World} {v : Value} {ss : List OpR} (h : Ops w v ss) : ∃ p c, v = .slice p ss.length c ∧ ss.length ≤ maxLen := by
  obtain ⟨p, c, e, h1, h2, -⟩ := h
  exact ⟨p, c, e, by omega⟩
theorem Ops.at {w : World} {v : Value} {ss : List OpR} (h : Ops w v ss) {k : Nat} {s : OpR} (hk : ss[k]? = some s) :
    ∃ b o c, v = .slice (some ⟨b, o, none⟩) ss.length c ∧ (w.cell? ⟨b, o + k * 5, none⟩ = some (.int .i64 s.kind) ∧ w.cell? ⟨b, o + k * 5 + 1, none⟩ = some (.int .i64 s.id) ∧ w.cell? ⟨b, o + k * 5 + 2, none⟩ = some (.int .i64 s.key) ∧ w.cell? ⟨b, o + k * 5 + 3, none⟩ = some (.int .u64 s.v) ∧ w.cell? ⟨b, o + k * 5 + 4, none⟩ = some (.int .i64 s.n)) ∧ s.ok := by
  obtain ⟨p, c, rfl, h1, h2, h3, h4⟩ := h
  have hkl := (List.getElem?_eq_some_iff.1 hk).1
  cases p with
  | none => have := h3 rfl; omega
  | some a =>
    have h0 := (h4 a rfl 0 ss[0] (List.getElem?_eq_getElem (by omega))).1 0 _ rfl
    have hs := spot_of_cell h0
    have hs' : a.spot = none := by
      unfold Addr.add at hs
      split at hs <;> simp_all
    obtain ⟨g, g4⟩ := h4 a rfl k s hk
    obtain ⟨b, o, sp⟩ := a
    simp only at hs'
    subst hs'
    have hA : (⟨b, o, none⟩ : Addr).add (k * 5) = ⟨b, o + k * 5, none⟩ := add_none (a := ⟨b, o, none⟩) rfl (k * 5)
    rw [hA] at g
    have q : ∀ (j : Nat) u, s.cs[j]? = some u → w.cell? ⟨b, o + k * 5 + j, none⟩ = some u := fun j u hj => by have := g j u hj; rw [add_none (a := ⟨b, o + k * 5, none⟩) rfl] at this; exact this
    exact ⟨b, o, c, rfl, ⟨q 0 _ rfl, q 1 _ rfl, q 2 _ rfl, q 3 _ rfl, q 4 _ rfl⟩, g4⟩
end Go.Proofs.YtocpagpkpibmaaaDoor

/-
  OWN WORK (by mkpnq.py). What came in (layer 18): a Config; scripts.
-/
namespace Go.Proofs.YtocpagpkpibmaaaDoor
open Go.ChangeShapes Go.WideShapes Go.ChangeAt Go.RowKit Go.Deep
set_option linter.unusedVariables false
set_option linter.unusedSimpArgs false
theorem choose_lt18 {α : Type} [Inhabited α] {n : Nat} {Q : Nat → α → Prop} (h : ∀ i, i < n → ∃ q, Q i q) : ∃ q : Nat → α, ∀ i, i < n → Q i (q i) := by
  refine ⟨fun i => if hi : i < n then Classical.choose (h i hi) else default, fun i hi => ?_⟩
  simp only [hi, dite_true]
  exact Classical.choose_spec (h i hi)
theorem i64_of_wf {z : Int} (h : (Lit.int .i64 z).wf = true) : I64 z := by
  have hb : -9223372036854775808 ≤ z ∧ z ≤ 9223372036854775807 := by simpa [Lit.wf, IntKind.min, IntKind.max, IntKind.signed, IntKind.bits] using h
  exact ⟨by omega, by omega⟩
theorem u64_of_wf {z : Int} (h : (Lit.int .u64 z).wf = true) : u64 z := by
  have hb : 0 ≤ z ∧ z ≤ 18446744073709551615 := by simpa [Lit.wf, IntKind.min, IntKind.max, IntKind.signed, IntKind.bits] using h
  exact ⟨by omega, by omega⟩
theorem len3 {α : Type} {l : List α} (h : l.length = 3) : ∃ a b c, l = [a, b, c] := by
  match l, h with
  | [a, b, c], _ => exact ⟨a, b, c, rfl⟩
theorem len4 {α : Type} {l : List α} (h : l.length = 4) : ∃ a b c d, l = [a, b, c, d] := by
  match l, h with
  | [a, b, c, d], _ => exact ⟨a, b, c, d, rfl⟩
theorem len5 {α : Type} {l : List α} (h : l.length = 5) : ∃ a b c d e, l = [a, b, c, d, e] := by
  match l, h with
  | [a, b, c, d, e], _ => exact ⟨a, b, c, d, e, rfl⟩
theorem len6 {α : Type} {l : List α} (h : l.length = 6) : ∃ a b c d e f, l = [a, b, c, d, e, f] := by
  match l, h with
  | [a, b, c, d, e, f], _ => exact ⟨a, b, c, d, e, f, rfl⟩
set_option maxRecDepth 20000 in
theorem Op_open {H : Type} {enc : TypeId × Value → H} {W : World} {t e : TypeId} {f0 f1 f2 f3 f4 : Field} {ao : Option Addr} {len cap : Nat} {d : DataW H} {p : List MemPlace} (ht : Tryd.prog.underlying t = some (.slice e)) (he : Tryd.prog.underlying e = some (.struct #[f0, f1, f2, f3, f4]))
    (ce : Tryd.prog.cellsOf e = 5) (ho : f0.offset = 0 ∧ f1.offset = 1 ∧ f2.offset = 2 ∧ f3.offset = 3 ∧ f4.offset = 4) (hc : Tryd.prog.cellsOf f0.type = 1 ∧ Tryd.prog.cellsOf f1.type = 1 ∧ Tryd.prog.cellsOf f2.type = 1 ∧ Tryd.prog.cellsOf f3.type = 1 ∧ Tryd.prog.cellsOf f4.type = 1) (hu : Tryd.prog.underlying f0.type = some (.int .i64) ∧ Tryd.prog.underlying f1.type = some (.int .i64) ∧ Tryd.prog.underlying f2.type = some (.int .i64) ∧ Tryd.prog.underlying f3.type = some (.int .u64) ∧ Tryd.prog.underlying f4.type = some (.int .i64))
    (h : DataW.Trod enc Tryd.prog W 0 (fun _ => true) true t (.slice ao len cap) d p) : ∃ ss : List OpR, ss.length = len ∧ Ops W (.slice ao len cap) ss ∧ (d = .nil ∧ len = 0 ∨ ∃ el sp, d = .slice el sp ∧ el.length = len) := by
  obtain ⟨o0, o1, o2, o3, o4⟩ := ho
  obtain ⟨c0, c1, c2, c3, c4⟩ := hc
  obtain ⟨t0, t1, t2, t3, t4⟩ := hu
  obtain ⟨fuel, hf⟩ := h
  rcases open_slice ht hf with ⟨hcs, hx⟩ | ⟨a, l, c, m, n, D, Pl, hcs, hb, hl, hm, hmm, hx, hel⟩
  · simp [Value.cells] at hcs
    obtain ⟨rfl, rfl, rfl⟩ := hcs
    obtain ⟨rfl, rfl⟩ := Prod.mk.inj hx
    exact ⟨[], rfl, ⟨none, 0, rfl, Nat.le_refl _, by simp [maxLen], fun _ => rfl, fun a e => (by cases e)⟩, .inl ⟨rfl, rfl⟩⟩
  · simp [Value.cells] at hcs
    obtain ⟨rfl, rfl, rfl⟩ := hcs
    obtain ⟨rfl, rfl⟩ := Prod.mk.inj hx
    have hmm' : m = cap := by simpa using hmm
    have each : ∀ i, i < m → ∃ q : OpR, OpAt W (a.add (i * 5)) q := by
      intro i hi
      obtain ⟨cs', g1, g2⟩ := hel i hi
      rw [ce] at g1
      obtain ⟨_, hlen, hcell⟩ := World.cells?_some g1
      obtain ⟨xs, k, hk, hxy, _, hxl, hff⟩ := DataW.trod_struct he g2
      obtain ⟨y0, y1, y2, y3, y4, rfl⟩ := len5 (show xs.length = 5 from hxl)
      obtain ⟨v0, v1, v2, v3, v4, rfl⟩ := len5 hlen
      have q0 := hff 0 f0 rfl
      have q1 := hff 1 f1 rfl
      have q2 := hff 2 f2 rfl
      have q3 := hff 3 f3 rfl
      have q4 := hff 4 f4 rfl
      simp [o0, o1, o2, o3, o4, c0, c1, c2, c3, c4] at q0 q1 q2 q3 q4
      obtain ⟨z0, e0, -, w0⟩ := DataW.trod_int t0 q0
      obtain ⟨z1, e1, -, w1⟩ := DataW.trod_int t1 q1
      obtain ⟨z2, e2, -, w2⟩ := DataW.trod_int t2 q2
      obtain ⟨z3, e3, -, w3⟩ := DataW.trod_int t3 q3
      obtain ⟨z4, e4, -, w4⟩ := DataW.trod_int t4 q4
      simp at e0 e1 e2 e3 e4
      subst e0 e1 e2 e3 e4
      refine ⟨⟨z0, z1, z2, z3, z4⟩, fun j u hj => ?_, i64_of_wf w1, i64_of_wf w2, u64_of_wf w3, i64_of_wf w4⟩
      have hjl := (List.getElem?_eq_some_iff.1 hj).1
      simp only [OpR.cs, List.length_cons, List.length_nil] at hjl
      have q := hcell j (by omega)
      rw [← hj]
      simpa [OpR.cs] using q
    haveI : Inhabited OpR := ⟨⟨0, 0, 0, 0, 0⟩⟩
    obtain ⟨q, hq⟩ := choose_lt18 each
    refine ⟨(List.range len).map q, by simp, ⟨some a, cap, by simp, by simpa using hl, hm, fun e => (by cases e), fun a' e i s hs => ?_⟩, .inr ⟨_, _, rfl, by simp⟩⟩
    cases e
    simp only [List.getElem?_map] at hs
    obtain ⟨j, hj, rfl⟩ := Option.map_eq_some_iff.1 hs
    obtain ⟨hj2, rfl⟩ := List.getElem?_eq_some_iff.1 hj
    have hi : i < len := by simpa using hj2
    simp only [List.getElem_range]
    exact hq i (by omega)
theorem ops_open {H : Type} {enc : TypeId × Value → H} {W : World} {ao : Option Addr} {len cap : Nat} {d : DataW H} {p : List MemPlace} (h : DataW.Trod enc Tryd.prog W 0 (fun _ => true) true 40 (.slice ao len cap) d p) : ∃ ss : List OpR, ss.length = len ∧ Ops W (.slice ao len cap) ss ∧ (d = .nil ∧ len = 0 ∨ ∃ el sp, d = .slice el sp ∧ el.length = len) :=
  Op_open Tryd.underlying40 Tryd.underlying51 (by kernel_rfl) ⟨rfl, rfl, rfl, rfl, rfl⟩ ⟨by kernel_rfl, by kernel_rfl, by kernel_rfl, by kernel_rfl, by kernel_rfl⟩ ⟨by kernel_rfl, by kernel_rfl, by kernel_rfl, by kernel_rfl, by kernel_rfl⟩ h
theorem conf_open {H : Type} {enc : TypeId × Value → H} {W : World} {cs : Array Value} {d : DataW H} {p : List MemPlace} (hsz : cs.size = 6)
    (h : DataW.Trod enc Tryd.prog W 0 (fun _ => true) true 39 (.agg cs) d p) : ∃ c : Cf, Value.agg cs = .agg #[.int .i64 c.pages, .int .i64 c.slots, .int .i64 c.log, .int .i64 c.frames, .int .i64 c.table, .int .i64 c.keys] ∧ (I64 c.pages ∧ I64 c.slots ∧ I64 c.log ∧ I64 c.frames ∧ I64 c.table ∧ I64 c.keys) := by
  obtain ⟨fuel, hf⟩ := h
  obtain ⟨xs, k, hk, hxy, _, hxl, hff⟩ := DataW.trod_struct Tryd.underlying39 hf
  obtain ⟨y0, y1, y2, y3, rfl⟩ := len4 (show xs.length = 4 from hxl)
  obtain ⟨v0, v1, v2, v3, v4, v5, hv⟩ := len6 (show cs.toList.length = 6 by simpa using hsz)
  have ci : Tryd.prog.cellsOf 3 = 1 := by kernel_rfl
  have cS : Tryd.prog.cellsOf 37 = 3 := by kernel_rfl
  have q0 := hff 0 _ rfl
  have q1 := hff 1 _ rfl
  have q2 := hff 2 _ rfl
  have q3 := hff 3 _ rfl
  simp [Value.cells, hv, ci, cS] at q0 q1 q2 q3
  obtain ⟨xs', k', hk', hxy', _, hxl', hff'⟩ := DataW.trod_struct Tryd.underlying37 q0
  obtain ⟨y0', y1', y2', rfl⟩ := len3 (show xs'.length = 3 from hxl')
  have r0 := hff' 0 _ rfl
  have r1 := hff' 1 _ rfl
  have r2 := hff' 2 _ rfl
  simp [ci] at r0 r1 r2
  obtain ⟨z0, e0, -, w0⟩ := DataW.trod_int Tryd.underlying3 r0
  obtain ⟨z1, e1, -, w1⟩ := DataW.trod_int Tryd.underlying3 r1
  obtain ⟨z2, e2, -, w2⟩ := DataW.trod_int Tryd.underlying3 r2
  obtain ⟨z3, e3, -, w3⟩ := DataW.trod_int Tryd.underlying3 q1
  obtain ⟨z4, e4, -, w4⟩ := DataW.trod_int Tryd.underlying3 q2
  obtain ⟨z5, e5, -, w5⟩ := DataW.trod_int Tryd.underlying3 q3
  simp at e0 e1 e2 e3 e4 e5
  subst e0 e1 e2 e3 e4 e5
  have hcs : cs = #[.int .i64 z0, .int .i64 z1, .int .i64 z2, .int .i64 z3, .int .i64 z4, .int .i64 z5] := by rw [← Array.toArray_toList (xs := cs), hv]
  subst hcs
  exact ⟨⟨z0, z1, z2, z3, z4, z5⟩, rfl, i64_of_wf w0, i64_of_wf w1, i64_of_wf w2, i64_of_wf w3, i64_of_wf w4, i64_of_wf w5⟩
end Go.Proofs.YtocpagpkpibmaaaDoor

/-
  OWN WORK. What came in (layer 18): lists of lists of changes.
-/
namespace Go.Proofs.YtocpagpkpibmaaaDoor
open Go.ChangeShapes Go.WideShapes Go.ChangeAt Go.RowKit Go.Deep
set_option linter.unusedVariables false
set_option linter.unusedSimpArgs false
def Chg.cs (x : Chg) : List Value := [.int .i64 x.key, .int .u64 x.val, .bool x.gone]
def ChAt (w : World) (a : Addr) (x : Chg) : Prop := (∀ (j : Nat) u, x.cs[j]? = some u → w.cell? (a.add j) = some u) ∧ I64 x.key ∧ u64 x.val
/-- a list of changes that came in -/
def Ci (w : World) (v : Value) (l : List Chg) : Prop :=
  ∃ (p : Option Addr) (c : Nat), v = .slice p l.length c ∧ l.length ≤ c ∧ c ≤ maxLen ∧ (p = none → c = 0) ∧ ∀ a, p = some a → ∀ (i : Nat) s, l[i]? = some s → ChAt w (a.add (i * 3)) s
/-- lists of them -/
def Li (w : World) (v : Value) (L : List (List Chg)) : Prop :=
  ∃ (p : Option Addr) (c : Nat), v = .slice p L.length c ∧ L.length ≤ c ∧ c ≤ maxLen ∧ (p = none → c = 0) ∧ ∀ a, p = some a → ∀ (i : Nat) l, L[i]? = some l → ∃ u, w.cell? (a.add i) = some u ∧ Ci w u l
theorem ChAt.kept {w w' : World} {a : Addr} {s : Chg} (h : ChAt w a s) (k : Kept [] w w') : ChAt w' a s := ⟨fun j u hj => k.cell (h.1 j u hj) (by simp), h.2⟩
theorem Ci.kept {w w' : World} {v : Value} {l : List Chg} (h : Ci w v l) (k : Kept [] w w') : Ci w' v l := by
  obtain ⟨p, c, e, h1, h2, h3, h4⟩ := h
  exact ⟨p, c, e, h1, h2, h3, fun a ha i s hs => (h4 a ha i s hs).kept k⟩
theorem Li.kept {w w' : World} {v : Value} {L : List (List Chg)} (h : Li w v L) (k : Kept [] w w') : Li w' v L := by
  obtain ⟨p, c, e, h1, h2, h3, h4⟩ := h
  exact ⟨p, c, e, h1, h2, h3, fun a ha i s hs => by obtain ⟨u, hu, q⟩ := h4 a ha i s hs; exact ⟨u, k.cell hu (by simp), q.kept k⟩⟩
theorem Li.shape {w : World} {v : Value} {L : List (List Chg)} (h : Li w v L) : ∃ p c, v = .slice p L.length c ∧ L.length ≤ maxLen := by
  obtain ⟨p, c, e, h1, h2, -⟩ := h
  exact ⟨p, c, e, by omega⟩
theorem Ci.shape {w : World} {v : Value} {l : List Chg} (h : Ci w v l) : ∃ p c, v = .slice p l.length c ∧ l.length ≤ maxLen := by
  obtain ⟨p, c, e, h1, h2, -⟩ := h
  exact ⟨p, c, e, by omega⟩
theorem add_zero18 {w : World} {a : Addr} {u : Value} (h : w.cell? (a.add 0) = some u) : w.cell? a = some u := by
  have hs := spot_of_cell h
  have hs' : a.spot = none := by
    unfold Addr.add at hs
    split at hs <;> simp_all
  rw [add_none hs'] at h
  obtain ⟨b, o, sp⟩ := a
  simp only at hs' h
  subst hs'
  exact h
theorem Ci.at {w : World} {v : Value} {l : List Chg} (h : Ci w v l) {k : Nat} {s : Chg} (hk : l[k]? = some s) :
    ∃ b o c, v = .slice (some ⟨b, o, none⟩) l.length c ∧ (w.cell? ⟨b, o + k * 3, none⟩ = some (.int .i64 s.key) ∧ w.cell? ⟨b, o + k * 3 + 1, none⟩ = some (.int .u64 s.val) ∧ w.cell? ⟨b, o + k * 3 + 2, none⟩ = some (.bool s.gone)) ∧ I64 s.key ∧ u64 s.val := by
  obtain ⟨p, c, rfl, h1, h2, h3, h4⟩ := h
  have hkl := (List.getElem?_eq_some_iff.1 hk).1
  cases p with
  | none => have := h3 rfl; omega
  | some a =>
    have h0 := (h4 a rfl 0 l[0] (List.getElem?_eq_getElem (by omega))).1 0 _ rfl
    have hs := spot_of_cell h0
    have hs' : a.spot = none := by
      unfold Addr.add at hs
      split at hs <;> simp_all
    obtain ⟨g, g4⟩ := h4 a rfl k s hk
    obtain ⟨b, o, sp⟩ := a
    simp only at hs'
    subst hs'
    have hA : (⟨b, o, none⟩ : Addr).add (k * 3) = ⟨b, o + k * 3, none⟩ := add_none (a := ⟨b, o, none⟩) rfl (k * 3)
    rw [hA] at g
    have q : ∀ (j : Nat) u, s.cs[j]? = some u → w.cell? ⟨b, o + k * 3 + j, none⟩ = some u := fun j u hj => by have := g j u hj; rw [add_none (a := ⟨b, o + k * 3, none⟩) rfl] at this; exact this
    exact ⟨b, o, c, rfl, ⟨q 0 _ rfl, q 1 _ rfl, q 2 _ rfl⟩, g4⟩
theorem Li.at {w : World} {v : Value} {L : List (List Chg)} (h : Li w v L) {k : Nat} {l : List Chg} (hk : L[k]? = some l) :
    ∃ b o c u, v = .slice (some ⟨b, o, none⟩) L.length c ∧ w.cell? ⟨b, o + k, none⟩ = some u ∧ Ci w u l := by
  obtain ⟨p, c, rfl, h1, h2, h3, h4⟩ := h
  have hkl := (List.getElem?_eq_some_iff.1 hk).1
  cases p with
  | none => have := h3 rfl; omega
  | some a =>
    obtain ⟨u, hu, q⟩ := h4 a rfl k l hk
    obtain ⟨u0, hu0, -⟩ := h4 a rfl 0 L[0] (List.getElem?_eq_getElem (by omega))
    have hs := spot_of_cell hu0
    have hs' : a.spot = none := by
      unfold Addr.add at hs
      split at hs <;> simp_all
    obtain ⟨b, o, sp⟩ := a
    simp only at hs'
    subst hs'
    rw [add_none (a := ⟨b, o, none⟩) rfl k] at hu
    exact ⟨b, o, c, u, rfl, hu, q⟩
set_option maxRecDepth 20000 in
theorem ci_open {H : Type} {enc : TypeId × Value → H} {W : World} {t e : TypeId} {f0 f1 f2 : Field} {fuel : Nat} {v : Value} {x : DataW H × List MemPlace} (ht : Tryd.prog.underlying t = some (.slice e)) (he : Tryd.prog.underlying e = some (.struct #[f0, f1, f2]))
    (ce : Tryd.prog.cellsOf e = 3) (ho : f0.offset = 0 ∧ f1.offset = 1 ∧ f2.offset = 2) (hc : Tryd.prog.cellsOf f0.type = 1 ∧ Tryd.prog.cellsOf f1.type = 1 ∧ Tryd.prog.cellsOf f2.type = 1) (hu : Tryd.prog.underlying f0.type = some (.int .i64) ∧ Tryd.prog.underlying f1.type = some (.int .u64) ∧ Tryd.prog.underlying f2.type = some .bool)
    (hf : DataW.trod enc Tryd.prog W 0 (fun _ => true) true fuel t [v] = some x) : ∃ l : List Chg, Ci W v l ∧ l.length + 1 ≤ Rows.uptoBulk x.1 := by
  obtain ⟨o0, o1, o2⟩ := ho
  obtain ⟨c0, c1, c2⟩ := hc
  obtain ⟨t0, t1, t2⟩ := hu
  rcases open_slice ht hf with ⟨hcs, hx⟩ | ⟨a, len, cap, m, n, D, Pl, hcs, hb, hl, hm, hmm, hx, hel⟩
  · simp at hcs
    subst hcs hx
    exact ⟨[], ⟨none, 0, rfl, Nat.le_refl _, by simp [maxLen], fun _ => rfl, fun a e => (by cases e)⟩, by simp [Rows.uptoBulk]⟩
  · simp at hcs
    subst hcs hx
    have hmm' : m = cap := by simpa using hmm
    have each : ∀ i, i < m → ∃ q : Chg, ChAt W (a.add (i * 3)) q := by
      intro i hi
      obtain ⟨cs', g1, g2⟩ := hel i hi
      rw [ce] at g1
      obtain ⟨_, hlen, hcell⟩ := World.cells?_some g1
      obtain ⟨xs, k, hk, hxy, _, hxl, hff⟩ := DataW.trod_struct he g2
      obtain ⟨y0, y1, y2, rfl⟩ := len3 (show xs.length = 3 from hxl)
      obtain ⟨v0, v1, v2, rfl⟩ := len3 hlen
      have q0 := hff 0 f0 rfl
      have q1 := hff 1 f1 rfl
      have q2 := hff 2 f2 rfl
      simp [o0, o1, o2, c0, c1, c2] at q0 q1 q2
      obtain ⟨z0, e0, -, w0⟩ := DataW.trod_int t0 q0
      obtain ⟨z1, e1, -, w1⟩ := DataW.trod_int t1 q1
      obtain ⟨z2, e2, -⟩ := DataW.trod_bool t2 q2
      simp at e0 e1 e2
      subst e0 e1 e2
      refine ⟨⟨z0, z1, z2⟩, fun j u hj => ?_, i64_of_wf w0, u64_of_wf w1⟩
      have hjl := (List.getElem?_eq_some_iff.1 hj).1
      simp only [Chg.cs, List.length_cons, List.length_nil] at hjl
      have q := hcell j (by omega)
      rw [← hj]
      simpa [Chg.cs] using q
    haveI : Inhabited Chg := ⟨⟨0, 0, false⟩⟩
    obtain ⟨q, hq⟩ := choose_lt18 each
    refine ⟨(List.range len).map q, ⟨some a, cap, by simp, by simpa using hl, hm, fun e => (by cases e), fun a' e i s hs => ?_⟩, ?_⟩
    · cases e
      simp only [List.getElem?_map] at hs
      obtain ⟨j, hj, rfl⟩ := Option.map_eq_some_iff.1 hs
      obtain ⟨hj2, rfl⟩ := List.getElem?_eq_some_iff.1 hj
      have hi : i < len := by simpa using hj2
      simp only [List.getElem_range]
      exact hq i (by omega)
    · have h1 := bulk_length ((List.range len).map D)
      simp only [Rows.uptoBulk]
      simp only [List.length_map, List.length_range] at h1 ⊢
      omega
set_option maxRecDepth 20000 in
theorem li_open {H : Type} {enc : TypeId × Value → H} {W : World} {s t e : TypeId} {f0 f1 f2 : Field} {ao : Option Addr} {len cap : Nat} {d : DataW H} {p : List MemPlace} (hs : Tryd.prog.underlying s = some (.slice t)) (cs : Tryd.prog.cellsOf t = 1) (ht : Tryd.prog.underlying t = some (.slice e)) (he : Tryd.prog.underlying e = some (.struct #[f0, f1, f2]))
    (ce : Tryd.prog.cellsOf e = 3) (ho : f0.offset = 0 ∧ f1.offset = 1 ∧ f2.offset = 2) (hc : Tryd.prog.cellsOf f0.type = 1 ∧ Tryd.prog.cellsOf f1.type = 1 ∧ Tryd.prog.cellsOf f2.type = 1) (hu : Tryd.prog.underlying f0.type = some (.int .i64) ∧ Tryd.prog.underlying f1.type = some (.int .u64) ∧ Tryd.prog.underlying f2.type = some .bool)
    (h : DataW.Trod enc Tryd.prog W 0 (fun _ => true) true s (.slice ao len cap) d p) : ∃ L : List (List Chg), Li W (.slice ao len cap) L ∧ L.flatten.length + L.length + 1 ≤ Rows.uptoBulk d := by
  obtain ⟨fuel, hf⟩ := h
  rcases open_slice hs hf with ⟨hcs, hx⟩ | ⟨a, l, c, m, n, D, Pl, hcs, hb, hl, hm, hmm, hx, hel⟩
  · simp [Value.cells] at hcs
    obtain ⟨rfl, rfl, rfl⟩ := hcs
    obtain ⟨rfl, rfl⟩ := Prod.mk.inj hx
    exact ⟨[], ⟨none, 0, rfl, Nat.le_refl _, by simp [maxLen], fun _ => rfl, fun a e => (by cases e)⟩, by simp [Rows.uptoBulk]⟩
  · simp [Value.cells] at hcs
    obtain ⟨rfl, rfl, rfl⟩ := hcs
    obtain ⟨rfl, rfl⟩ := Prod.mk.inj hx
    have hmm' : m = cap := by simpa using hmm
    have each : ∀ i, i < m → ∃ q : List Chg, (∃ u, W.cell? (a.add i) = some u ∧ Ci W u q) ∧ q.length + 1 ≤ Rows.uptoBulk (D i) := by
      intro i hi
      obtain ⟨cs', g1, g2⟩ := hel i hi
      rw [cs] at g1
      obtain ⟨_, hlen, hcell⟩ := World.cells?_some g1
      obtain ⟨v, rfl⟩ : ∃ v, cs' = [v] := by
        match cs', hlen with
        | [v], _ => exact ⟨v, rfl⟩
      obtain ⟨q, hq, hb⟩ := ci_open ht he ce ho hc hu g2
      exact ⟨q, ⟨v, add_zero18 (by simpa using hcell 0 (by omega)), hq⟩, hb⟩
    obtain ⟨q, hq⟩ := choose_lt18 each
    refine ⟨(List.range len).map q, ⟨some a, cap, by simp, by simpa using hl, hm, fun e => (by cases e), fun a' e i s hs => ?_⟩, ?_⟩
    · cases e
      simp only [List.getElem?_map] at hs
      obtain ⟨j, hj, rfl⟩ := Option.map_eq_some_iff.1 hs
      obtain ⟨hj2, rfl⟩ := List.getElem?_eq_some_iff.1 hj
      have hi : i < len := by simpa using hj2
      simp only [List.getElem_range]
      exact (hq i (by omega)).1
    · have key : ∀ (k : Nat), k ≤ len → ((List.range k).map q).flatten.length + k ≤ Rows.uptoBulkAll ((List.range k).map D) := by
        intro k
        induction k with
        | zero => intro _; simp [Rows.uptoBulkAll]
        | succ k ih =>
          intro hk
          have := ih (by omega)
          have := (hq k (by omega)).2
          rw [List.range_succ, List.map_append, List.map_append, bulk_append, List.flatten_append, List.length_append]
          simp only [List.map_cons, List.map_nil, List.flatten_cons, List.flatten_nil, List.append_nil, Rows.uptoBulkAll]
          omega
      have := key len (Nat.le_refl _)
      simp only [Rows.uptoBulk, List.length_map, List.length_range]
      omega
end Go.Proofs.YtocpagpkpibmaaaDoor

/-
  OWN WORK (by mkpnx.py). The law's taken (layer 18): how the two copies lie.
-/
namespace Go.Proofs.YtocpagpkpibmaaaDoor
open Go.RowKit
set_option linter.unusedVariables false
set_option linter.unusedSimpArgs false

theorem src_one18 {P : Program} (w : World) (t e : TypeId) (ht : P.underlying t = some (.slice e)) (v : Value) (hv : v.oneCell' = true) : Src P 1 t (.slice (some ⟨w.heap.size, 0, none⟩) 1 1) 1 [v] (w.alloc (.cells #[v] e)) := by
  refine Src.ofSlice _ ht _ _ _ _ rfl (fun j u hj => ?_) (by simp [hv])
  rw [add_none rfl]
  have q := (Blk.new w e [v]).cell hj
  simpa using q
theorem src_chg18 {P : Program} (w : World) (t e : TypeId) (ht : P.underlying t = some (.slice e)) (x : Chg) : Src P 3 t (.slice (some ⟨w.heap.size, 0, none⟩) 1 1) 1 [.int .i64 x.key, .int .u64 x.val, .bool x.gone] (w.alloc (.cells #[.int .i64 x.key, .int .u64 x.val, .bool x.gone] e)) := by
  refine Src.ofSlice _ ht _ _ _ _ rfl (fun j u hj => ?_) (fun u hu => ?_)
  · rw [add_none rfl]
    have q := (Blk.new w e [.int .i64 x.key, .int .u64 x.val, .bool x.gone]).cell hj
    simpa using q
  · simp at hu
    rcases hu with rfl | rfl | rfl <;> rfl
theorem len_flat {L : List (List Chg)} {l : List Chg} (h : l ∈ L) : l.length ≤ L.flatten.length := by
  induction L with
  | nil => cases h
  | cons x r ih =>
    rw [List.flatten_cons, List.length_append]
    rcases List.mem_cons.1 h with rfl | h
    · omega
    · have := ih h; omega
theorem ccells_take {l : List Chg} {j : Nat} {x : Chg} (h : l[j]? = some x) : ccells (l.take (j + 1)) = ccells (l.take j) ++ [.int .i64 x.key, .int .u64 x.val, .bool x.gone] := by
  rw [List.take_add_one, h, ccells_append]; rfl
theorem Own.app {w w7 w8 : World} {g : Nat} {v v' : Value} {p p' : World → Prop} {R : List (Value × (World → Prop))} (h : Own w g ((v, p) :: R)) (hg : g < w.heap.size) (k7 : Kept [] w w7) (k8 : Kept v.ownBlock.toList w7 w8) (o8 : v'.ownBlock = v.ownBlock ∨ (v'.ownBlock = some w7.heap.size ∧ Kept [] w7 w8)) (hp : p' w8) (hs : Stays v' p') (hl : ∀ y, v'.ownBlock = some y → y < w8.heap.size) : Own w8 g ((v', p') :: R) :=
  (h.then k7 (by simp)).head k8 hp hs (fun y hy => by
    rcases o8 with q | ⟨q, -⟩
    · exact .inl (by rw [← q]; exact hy)
    · have h1 := hl y hy
      rw [q] at hy
      cases hy
      have := k7.size
      exact .inr ⟨Nat.le_refl _, h1, by omega⟩)
def prs (base : Nat) (D : List (List Chg × Value)) : List (Value × (World → Prop)) := D.map fun d => (d.2, fun w => Cs w base d.2 d.1)
def rowP (base : Nat) (v : Value) (D : List (List Chg × Value)) : Value × (World → Prop) := (v, fun w => Row w base 1 v D.length (D.map Prod.snd))
def lstP (base : Nat) (v : Value) (l : List Chg) : Value × (World → Prop) := (v, fun w => Cs w base v l)
def tks (base : Nat) (vo vr : Value) (D E : List (List Chg × Value)) : List (Value × (World → Prop)) := rowP base vo D :: rowP base vr E :: (prs base D ++ prs base E)
/-- behind i lists -/
structure Tk1 (w wr : World) (g : Nat) (L : List (List Chg)) (i : Nat) (vo vr : Value) (D E : List (List Chg × Value)) : Prop where
  own : Own wr g (tks w.heap.size vo vr D E)
  kp : Kept [] w wr
  g0 : g < w.heap.size
  fD : D.map Prod.fst = L.take i
  fE : E.map Prod.fst = L.take i
/-- and within one, behind j changes -/
structure Tk2 (w wr : World) (g : Nat) (L : List (List Chg)) (i : Nat) (vo vr : Value) (D E : List (List Chg × Value)) (vt vu : Value) (lt lu : List Chg) : Prop where
  own : Own wr g (lstP w.heap.size vt lt :: lstP w.heap.size vu lu :: tks w.heap.size vo vr D E)
  kp : Kept [] w wr
  g0 : g < w.heap.size
  fD : D.map Prod.fst = L.take i
  fE : E.map Prod.fst = L.take i
section
variable {w wr w7 w8 : World} {g : Nat} {L : List (List Chg)} {i : Nat} {vo vr vt vu v' : Value} {D E : List (List Chg × Value)} {lt lu l : List Chg}
theorem Tk1.start (hg : g < w.heap.size) : Tk1 w w g L 0 (.slice none 0 0) (.slice none 0 0) [] [] := by
  refine ⟨?_, Kept.refl _ _, hg, by simp, by simp⟩
  refine ((Own.nil w g).new (Kept.refl _ _) (v := .slice none 0 0) (p := fun w' => Row w' w.heap.size 1 (.slice none 0 0) 0 []) (Row.nil w _ 1) (Row.stays _ _ _ _ _) (fun y hy => by cases hy)).new (Kept.refl _ _) (Row.nil w _ 1) (Row.stays _ _ _ _ _) (fun y hy => by cases hy)
theorem Tk1.inner (h : Tk1 w wr g L i vo vr D E) : Tk2 w wr g L i vo vr D E (.slice none 0 0) (.slice none 0 0) [] [] := by
  refine ⟨?_, h.kp, h.g0, h.fD, h.fE⟩
  exact (h.own.new (Kept.refl _ _) (v := .slice none 0 0) (p := fun w' => Cs w' w.heap.size (.slice none 0 0) []) (Cs.nil wr _) (Row.stays _ _ _ _ _) (fun y hy => by cases hy)).new (Kept.refl _ _) (Cs.nil wr _) (Row.stays _ _ _ _ _) (fun y hy => by cases hy)
theorem Tk2.rowT (h : Tk2 w wr g L i vo vr D E vt vu lt lu) : Cs wr w.heap.size vt lt := h.own.holds _ (by simp [lstP]; exact .inl rfl)
theorem Tk2.then (h : Tk2 w wr g L i vo vr D E vt vu lt lu) (k : Kept [] wr w7) : Tk2 w w7 g L i vo vr D E vt vu lt lu := ⟨h.own.then k (by simp), h.kp.then k, h.g0, h.fD, h.fE⟩
theorem perm_o {α : Type} (a b c d : α) (X Y : List α) : (a :: b :: c :: d :: (X ++ Y)).Perm (c :: a :: d :: (X ++ [b] ++ Y)) := by
  have p1 : (a :: b :: c :: d :: (X ++ Y)).Perm (c :: a :: b :: d :: (X ++ Y)) := List.perm_middle (l₁ := [a, b])
  have p2 : (b :: d :: (X ++ Y)).Perm (d :: b :: (X ++ Y)) := List.Perm.swap _ _ _
  have p3 : (b :: (X ++ Y)).Perm (X ++ [b] ++ Y) := by
    rw [List.append_assoc]
    exact (List.perm_middle (l₁ := X) (a := b) (l₂ := Y)).symm
  exact p1.trans (((p2.trans (p3.cons d)).cons a).cons c)
theorem perm_r {α : Type} (a b c : α) (X Y : List α) : (a :: b :: c :: (X ++ Y)).Perm (c :: a :: (X ++ (Y ++ [b]))) := by
  have p1 : (a :: b :: c :: (X ++ Y)).Perm (c :: a :: b :: (X ++ Y)) := List.perm_middle (l₁ := [a, b])
  have p3 : (b :: (X ++ Y)).Perm (X ++ (Y ++ [b])) := by
    rw [← List.append_assoc]
    exact (List.perm_append_singleton b (X ++ Y)).symm
  exact p1.trans ((p3.cons a).cons c)
/-- the one list is told, and lies in out -/
structure Tk3 (w wr : World) (g : Nat) (L : List (List Chg)) (i : Nat) (vo vr : Value) (D E : List (List Chg × Value)) (vu : Value) (lu : List Chg) : Prop where
  own : Own wr g (lstP w.heap.size vu lu :: tks w.heap.size vo vr D E)
  kp : Kept [] w wr
  g0 : g < w.heap.size
  fD : D.map Prod.fst = L.take (i + 1)
  fE : E.map Prod.fst = L.take i
theorem Tk2.appT {x : Chg} (h : Tk2 w wr g L i vo vr D E vt vu lt lu) (k7 : Kept [] wr w7) (r8 : Row w8 w.heap.size 3 v' (lt.length + 1) (ccells lt ++ [.int .i64 x.key, .int .u64 x.val, .bool x.gone])) (k8 : Kept vt.ownBlock.toList w7 w8) (o8 : v'.ownBlock = vt.ownBlock ∨ (v'.ownBlock = some w7.heap.size ∧ Kept [] w7 w8)) : Tk2 w w8 g L i vo vr D E v' vu (lt ++ [x]) lu := by
  have hp : Cs w8 w.heap.size v' (lt ++ [x]) := by unfold Cs; rw [List.length_append, ccells_append]; exact r8
  exact ⟨h.own.app (Nat.lt_of_lt_of_le h.g0 h.kp.size) k7 k8 o8 hp (Row.stays _ _ _ _ _) (fun y hy => (Row.lt hp y hy).2), (h.kp.then k7).trans k8 (fun y hy => .inr (Row.lt h.rowT y (own_mem.1 hy)).1), h.g0, h.fD, h.fE⟩
theorem Tk2.rowU (h : Tk2 w wr g L i vo vr D E vt vu lt lu) : Cs wr w.heap.size vu lu := h.own.holds (lstP w.heap.size vu lu) (by simp)
theorem Tk2.rowO (h : Tk2 w wr g L i vo vr D E vt vu lt lu) : Row wr w.heap.size 1 vo D.length (D.map Prod.snd) := h.own.holds (rowP w.heap.size vo D) (by simp [tks])
theorem Tk3.rowR (h : Tk3 w wr g L i vo vr D E vu lu) : Row wr w.heap.size 1 vr E.length (E.map Prod.snd) := h.own.holds (rowP w.heap.size vr E) (by simp [tks])
theorem Tk2.appU {x : Chg} (h : Tk2 w wr g L i vo vr D E vt vu lt lu) (k7 : Kept [] wr w7) (r8 : Row w8 w.heap.size 3 v' (lu.length + 1) (ccells lu ++ [.int .i64 x.key, .int .u64 x.val, .bool x.gone])) (k8 : Kept vu.ownBlock.toList w7 w8) (o8 : v'.ownBlock = vu.ownBlock ∨ (v'.ownBlock = some w7.heap.size ∧ Kept [] w7 w8)) : Tk2 w w8 g L i vo vr D E vt v' lt (lu ++ [x]) := by
  have hp : Cs w8 w.heap.size v' (lu ++ [x]) := by unfold Cs; rw [List.length_append, ccells_append]; exact r8
  have q := h.own.perm (List.Perm.swap _ _ _)
  exact ⟨(q.app (Nat.lt_of_lt_of_le h.g0 h.kp.size) k7 k8 o8 hp (Row.stays _ _ _ _ _) (fun y hy => (Row.lt hp y hy).2)).perm (List.Perm.swap _ _ _), (h.kp.then k7).trans k8 (fun y hy => .inr (Row.lt h.rowU y (own_mem.1 hy)).1), h.g0, h.fD, h.fE⟩
theorem Tk2.appO (h : Tk2 w wr g L i vo vr D E vt vu l lu) (hl : L[i]? = some l) (k7 : Kept [] wr w7) (r8 : Row w8 w.heap.size 1 v' (D.length + 1) (D.map Prod.snd ++ [vt])) (k8 : Kept vo.ownBlock.toList w7 w8) (o8 : v'.ownBlock = vo.ownBlock ∨ (v'.ownBlock = some w7.heap.size ∧ Kept [] w7 w8)) : Tk3 w w8 g L i v' vr (D ++ [(l, vt)]) E vu lu := by
  have hp : Row w8 w.heap.size 1 v' (D ++ [(l, vt)]).length ((D ++ [(l, vt)]).map Prod.snd) := by rw [List.length_append, List.map_append]; exact r8
  have q := h.own.perm (List.perm_middle (l₁ := [lstP w.heap.size vt l, lstP w.heap.size vu lu]))
  have q2 := q.app (v' := v') (p' := (rowP w.heap.size v' (D ++ [(l, vt)])).2) (Nat.lt_of_lt_of_le h.g0 h.kp.size) k7 k8 o8 hp (Row.stays _ _ _ _ _) (fun y hy => (Row.lt hp y hy).2)
  have q3 := q2.perm (perm_o (rowP w.heap.size v' (D ++ [(l, vt)])) (lstP w.heap.size vt l) (lstP w.heap.size vu lu) (rowP w.heap.size vr E) (prs w.heap.size D) (prs w.heap.size E))
  refine ⟨?_, (h.kp.then k7).trans k8 (fun y hy => .inr (Row.lt h.rowO y (own_mem.1 hy)).1), h.g0, by rw [List.map_append, h.fD, List.take_add_one, hl]; rfl, h.fE⟩
  have e : prs w.heap.size (D ++ [(l, vt)]) = prs w.heap.size D ++ [lstP w.heap.size vt l] := by unfold prs; rw [List.map_append]; rfl
  unfold tks
  rw [e]
  exact q3
theorem Tk3.appR (h : Tk3 w wr g L i vo vr D E vu l) (hl : L[i]? = some l) (k7 : Kept [] wr w7) (r8 : Row w8 w.heap.size 1 v' (E.length + 1) (E.map Prod.snd ++ [vu])) (k8 : Kept vr.ownBlock.toList w7 w8) (o8 : v'.ownBlock = vr.ownBlock ∨ (v'.ownBlock = some w7.heap.size ∧ Kept [] w7 w8)) : Tk1 w w8 g L (i + 1) vo v' D (E ++ [(l, vu)]) := by
  have hp : Row w8 w.heap.size 1 v' (E ++ [(l, vu)]).length ((E ++ [(l, vu)]).map Prod.snd) := by rw [List.length_append, List.map_append]; exact r8
  have q := h.own.perm (List.perm_middle (l₁ := [lstP w.heap.size vu l, rowP w.heap.size vo D]))
  have q2 := q.app (v' := v') (p' := (rowP w.heap.size v' (E ++ [(l, vu)])).2) (Nat.lt_of_lt_of_le h.g0 h.kp.size) k7 k8 o8 hp (Row.stays _ _ _ _ _) (fun y hy => (Row.lt hp y hy).2)
  have q3 := q2.perm (perm_r (rowP w.heap.size v' (E ++ [(l, vu)])) (lstP w.heap.size vu l) (rowP w.heap.size vo D) (prs w.heap.size D) (prs w.heap.size E))
  refine ⟨?_, (h.kp.then k7).trans k8 (fun y hy => .inr (Row.lt h.rowR y (own_mem.1 hy)).1), h.g0, h.fD, by rw [List.map_append, h.fE, List.take_add_one, hl]; rfl⟩
  have e : prs w.heap.size (E ++ [(l, vu)]) = prs w.heap.size E ++ [lstP w.heap.size vu l] := by unfold prs; rw [List.map_append]; rfl
  unfold tks
  rw [e]
  exact q3
theorem Tk3.then (h : Tk3 w wr g L i vo vr D E vu lu) (k : Kept [] wr w7) : Tk3 w w7 g L i vo vr D E vu lu := ⟨h.own.then k (by simp), h.kp.then k, h.g0, h.fD, h.fE⟩
theorem Tk1.lls (h : Tk1 w wr g L i vo vr D E) : Ll wr vo D ∧ Ll wr vr E := by
  refine ⟨⟨(h.own.holds (rowP w.heap.size vo D) (by simp [tks])).mono (Nat.zero_le _), fun d hd => Row.mono (h.own.holds (d.2, fun w' => Cs w' w.heap.size d.2 d.1) ?_) (Nat.zero_le _)⟩, ⟨(h.own.holds (rowP w.heap.size vr E) (by simp [tks])).mono (Nat.zero_le _), fun d hd => Row.mono (h.own.holds (d.2, fun w' => Cs w' w.heap.size d.2 d.1) ?_) (Nat.zero_le _)⟩⟩
  · exact List.mem_cons_of_mem _ (List.mem_cons_of_mem _ (List.mem_append_left _ (List.mem_map.2 ⟨d, hd, rfl⟩)))
  · exact List.mem_cons_of_mem _ (List.mem_cons_of_mem _ (List.mem_append_right _ (List.mem_map.2 ⟨d, hd, rfl⟩)))
end
end Go.Proofs.YtocpagpkpibmaaaDoor

