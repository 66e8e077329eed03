import Derived.Test.YtnjfahgmebmakaaGreatDoorRows
import Derived.Deep.Slices
import Derived.Deep.MidRow
import Derived.LaidLaws
import Derived.LaidHandle
import Derived.Stop.Joined
import Derived.JoinedOf
import Derived.ChangeVars
import Derived.Test.YtnjfahgmebmakaaGreatDoorC7
/-
  OWN WORK (by mkpnq.py). What came in (layer 18): a Config; scripts.
-/
namespace Go.Proofs.YtnjfahgmebmakaaGreatDoor
open Go.ChangeShapes Go.WideShapes Go.ChangeAt Go.RowKit Go.Deep
set_option linter.unusedVariables false
set_option linter.unusedSimpArgs false
theorem choose_lt18 {α : Type} [Inhabited α] {n : Nat} {Q : Nat → α → Prop} (h : ∀ i, i < n → ∃ q, Q i q) : ∃ q : Nat → α, ∀ i, i < n → Q i (q i) := by
  refine ⟨fun i => if hi : i < n then Classical.choose (h i hi) else default, fun i hi => ?_⟩
  simp only [hi, dite_true]
  exact Classical.choose_spec (h i hi)
theorem i64_of_wf {z : Int} (h : (Lit.int .i64 z).wf = true) : I64 z := by
  have hb : -9223372036854775808 ≤ z ∧ z ≤ 9223372036854775807 := by simpa [Lit.wf, IntKind.min, IntKind.max, IntKind.signed, IntKind.bits] using h
  exact ⟨by omega, by omega⟩
theorem u64_of_wf {z : Int} (h : (Lit.int .u64 z).wf = true) : u64 z := by
  have hb : 0 ≤ z ∧ z ≤ 18446744073709551615 := by simpa [Lit.wf, IntKind.min, IntKind.max, IntKind.signed, IntKind.bits] using h
  exact ⟨by omega, by omega⟩
theorem len3 {α : Type} {l : List α} (h : l.length = 3) : ∃ a b c, l = [a, b, c] := by
  match l, h with
  | [a, b, c], _ => exact ⟨a, b, c, rfl⟩
theorem len4 {α : Type} {l : List α} (h : l.length = 4) : ∃ a b c d, l = [a, b, c, d] := by
  match l, h with
  | [a, b, c, d], _ => exact ⟨a, b, c, d, rfl⟩
theorem len5 {α : Type} {l : List α} (h : l.length = 5) : ∃ a b c d e, l = [a, b, c, d, e] := by
  match l, h with
  | [a, b, c, d, e], _ => exact ⟨a, b, c, d, e, rfl⟩
theorem len6 {α : Type} {l : List α} (h : l.length = 6) : ∃ a b c d e f, l = [a, b, c, d, e, f] := by
  match l, h with
  | [a, b, c, d, e, f], _ => exact ⟨a, b, c, d, e, f, rfl⟩
set_option maxRecDepth 20000 in
theorem Op_open {H : Type} {enc : TypeId × Value → H} {W : World} {t e : TypeId} {f0 f1 f2 f3 f4 : Field} {ao : Option Addr} {len cap : Nat} {d : DataW H} {p : List MemPlace} (ht : Tryz.prog.underlying t = some (.slice e)) (he : Tryz.prog.underlying e = some (.struct #[f0, f1, f2, f3, f4]))
    (ce : Tryz.prog.cellsOf e = 5) (ho : f0.offset = 0 ∧ f1.offset = 1 ∧ f2.offset = 2 ∧ f3.offset = 3 ∧ f4.offset = 4) (hc : Tryz.prog.cellsOf f0.type = 1 ∧ Tryz.prog.cellsOf f1.type = 1 ∧ Tryz.prog.cellsOf f2.type = 1 ∧ Tryz.prog.cellsOf f3.type = 1 ∧ Tryz.prog.cellsOf f4.type = 1) (hu : Tryz.prog.underlying f0.type = some (.int .i64) ∧ Tryz.prog.underlying f1.type = some (.int .i64) ∧ Tryz.prog.underlying f2.type = some (.int .i64) ∧ Tryz.prog.underlying f3.type = some (.int .u64) ∧ Tryz.prog.underlying f4.type = some (.int .i64))
    (h : DataW.Trod enc Tryz.prog W 0 (fun _ => true) true t (.slice ao len cap) d p) : ∃ ss : List OpR, ss.length = len ∧ Ops W (.slice ao len cap) ss ∧ (d = .nil ∧ len = 0 ∨ ∃ el sp, d = .slice el sp ∧ el.length = len) := by
  obtain ⟨o0, o1, o2, o3, o4⟩ := ho
  obtain ⟨c0, c1, c2, c3, c4⟩ := hc
  obtain ⟨t0, t1, t2, t3, t4⟩ := hu
  obtain ⟨fuel, hf⟩ := h
  rcases open_slice ht hf with ⟨hcs, hx⟩ | ⟨a, l, c, m, n, D, Pl, hcs, hb, hl, hm, hmm, hx, hel⟩
  · simp [Value.cells] at hcs
    obtain ⟨rfl, rfl, rfl⟩ := hcs
    obtain ⟨rfl, rfl⟩ := Prod.mk.inj hx
    exact ⟨[], rfl, ⟨none, 0, rfl, Nat.le_refl _, by simp [maxLen], fun _ => rfl, fun a e => (by cases e)⟩, .inl ⟨rfl, rfl⟩⟩
  · simp [Value.cells] at hcs
    obtain ⟨rfl, rfl, rfl⟩ := hcs
    obtain ⟨rfl, rfl⟩ := Prod.mk.inj hx
    have hmm' : m = cap := by simpa using hmm
    have each : ∀ i, i < m → ∃ q : OpR, OpAt W (a.add (i * 5)) q := by
      intro i hi
      obtain ⟨cs', g1, g2⟩ := hel i hi
      rw [ce] at g1
      obtain ⟨_, hlen, hcell⟩ := World.cells?_some g1
      obtain ⟨xs, k, hk, hxy, _, hxl, hff⟩ := DataW.trod_struct he g2
      obtain ⟨y0, y1, y2, y3, y4, rfl⟩ := len5 (show xs.length = 5 from hxl)
      obtain ⟨v0, v1, v2, v3, v4, rfl⟩ := len5 hlen
      have q0 := hff 0 f0 rfl
      have q1 := hff 1 f1 rfl
      have q2 := hff 2 f2 rfl
      have q3 := hff 3 f3 rfl
      have q4 := hff 4 f4 rfl
      simp [o0, o1, o2, o3, o4, c0, c1, c2, c3, c4] at q0 q1 q2 q3 q4
      obtain ⟨z0, e0, -, w0⟩ := DataW.trod_int t0 q0
      obtain ⟨z1, e1, -, w1⟩ := DataW.trod_int t1 q1
      obtain ⟨z2, e2, -, w2⟩ := DataW.trod_int t2 q2
      obtain ⟨z3, e3, -, w3⟩ := DataW.trod_int t3 q3
      obtain ⟨z4, e4, -, w4⟩ := DataW.trod_int t4 q4
      simp at e0 e1 e2 e3 e4
      subst e0 e1 e2 e3 e4
      refine ⟨⟨z0, z1, z2, z3, z4⟩, fun j u hj => ?_, i64_of_wf w1, i64_of_wf w2, u64_of_wf w3, i64_of_wf w4⟩
      have hjl := (List.getElem?_eq_some_iff.1 hj).1
      simp only [OpR.cs, List.length_cons, List.length_nil] at hjl
      have q := hcell j (by omega)
      rw [← hj]
      simpa [OpR.cs] using q
    haveI : Inhabited OpR := ⟨⟨0, 0, 0, 0, 0⟩⟩
    obtain ⟨q, hq⟩ := choose_lt18 each
    refine ⟨(List.range len).map q, by simp, ⟨some a, cap, by simp, by simpa using hl, hm, fun e => (by cases e), fun a' e i s hs => ?_⟩, .inr ⟨_, _, rfl, by simp⟩⟩
    cases e
    simp only [List.getElem?_map] at hs
    obtain ⟨j, hj, rfl⟩ := Option.map_eq_some_iff.1 hs
    obtain ⟨hj2, rfl⟩ := List.getElem?_eq_some_iff.1 hj
    have hi : i < len := by simpa using hj2
    simp only [List.getElem_range]
    exact hq i (by omega)
theorem ops_open {H : Type} {enc : TypeId × Value → H} {W : World} {ao : Option Addr} {len cap : Nat} {d : DataW H} {p : List MemPlace} (h : DataW.Trod enc Tryz.prog W 0 (fun _ => true) true 26 (.slice ao len cap) d p) : ∃ ss : List OpR, ss.length = len ∧ Ops W (.slice ao len cap) ss ∧ (d = .nil ∧ len = 0 ∨ ∃ el sp, d = .slice el sp ∧ el.length = len) :=
  Op_open Tryz.underlying26 Tryz.underlying66 (by kernel_rfl) ⟨rfl, rfl, rfl, rfl, rfl⟩ ⟨by kernel_rfl, by kernel_rfl, by kernel_rfl, by kernel_rfl, by kernel_rfl⟩ ⟨by kernel_rfl, by kernel_rfl, by kernel_rfl, by kernel_rfl, by kernel_rfl⟩ h
theorem conf_open {H : Type} {enc : TypeId × Value → H} {W : World} {cs : Array Value} {d : DataW H} {p : List MemPlace} (hsz : cs.size = 6)
    (h : DataW.Trod enc Tryz.prog W 0 (fun _ => true) true 25 (.agg cs) d p) : ∃ c : Cf, Value.agg cs = .agg #[.int .i64 c.pages, .int .i64 c.slots, .int .i64 c.log, .int .i64 c.frames, .int .i64 c.table, .int .i64 c.keys] ∧ (I64 c.pages ∧ I64 c.slots ∧ I64 c.log ∧ I64 c.frames ∧ I64 c.table ∧ I64 c.keys) := by
  obtain ⟨fuel, hf⟩ := h
  obtain ⟨xs, k, hk, hxy, _, hxl, hff⟩ := DataW.trod_struct Tryz.underlying25 hf
  obtain ⟨y0, y1, y2, y3, rfl⟩ := len4 (show xs.length = 4 from hxl)
  obtain ⟨v0, v1, v2, v3, v4, v5, hv⟩ := len6 (show cs.toList.length = 6 by simpa using hsz)
  have ci : Tryz.prog.cellsOf 3 = 1 := by kernel_rfl
  have cS : Tryz.prog.cellsOf 23 = 3 := by kernel_rfl
  have q0 := hff 0 _ rfl
  have q1 := hff 1 _ rfl
  have q2 := hff 2 _ rfl
  have q3 := hff 3 _ rfl
  simp [Value.cells, hv, ci, cS] at q0 q1 q2 q3
  obtain ⟨xs', k', hk', hxy', _, hxl', hff'⟩ := DataW.trod_struct Tryz.underlying23 q0
  obtain ⟨y0', y1', y2', rfl⟩ := len3 (show xs'.length = 3 from hxl')
  have r0 := hff' 0 _ rfl
  have r1 := hff' 1 _ rfl
  have r2 := hff' 2 _ rfl
  simp [ci] at r0 r1 r2
  obtain ⟨z0, e0, -, w0⟩ := DataW.trod_int Tryz.underlying3 r0
  obtain ⟨z1, e1, -, w1⟩ := DataW.trod_int Tryz.underlying3 r1
  obtain ⟨z2, e2, -, w2⟩ := DataW.trod_int Tryz.underlying3 r2
  obtain ⟨z3, e3, -, w3⟩ := DataW.trod_int Tryz.underlying3 q1
  obtain ⟨z4, e4, -, w4⟩ := DataW.trod_int Tryz.underlying3 q2
  obtain ⟨z5, e5, -, w5⟩ := DataW.trod_int Tryz.underlying3 q3
  simp at e0 e1 e2 e3 e4 e5
  subst e0 e1 e2 e3 e4 e5
  have hcs : cs = #[.int .i64 z0, .int .i64 z1, .int .i64 z2, .int .i64 z3, .int .i64 z4, .int .i64 z5] := by rw [← Array.toArray_toList (xs := cs), hv]
  subst hcs
  exact ⟨⟨z0, z1, z2, z3, z4, z5⟩, rfl, i64_of_wf w0, i64_of_wf w1, i64_of_wf w2, i64_of_wf w3, i64_of_wf w4, i64_of_wf w5⟩
end Go.Proofs.YtnjfahgmebmakaaGreatDoor

/-
  OWN WORK. Numbers that came in (layer 18).
-/
namespace Go.Proofs.YtnjfahgmebmakaaGreatDoor
open Go.ChangeShapes Go.WideShapes Go.ChangeAt Go.RowKit Go.Deep
set_option linter.unusedVariables false
theorem inn_open {H : Type} {enc : TypeId × Value → H} {W : World} {ao : Option Addr} {len cap : Nat} {d : DataW H} {p : List MemPlace} (h : DataW.Trod enc Tryz.prog W 0 (fun _ => true) true 31 (.slice ao len cap) d p) : ∃ l : List Int, l.length = len ∧ Inn W (.slice ao len cap) l := by
  obtain ⟨fuel, hf⟩ := h
  rcases open_ints Tryz.underlying31 Tryz.underlying3 (by kernel_rfl) hf with ⟨hcs, hx⟩ | ⟨x, n, c, zs, hcs, _, hl, hm, hz, hx, hcell, hwz⟩
  · simp [Value.cells] at hcs
    obtain ⟨rfl, rfl, rfl⟩ := hcs
    exact ⟨[], rfl, ⟨none, 0, rfl, Nat.le_refl _, by simp [maxLen], fun _ => rfl, fun a e => by cases e⟩⟩
  · simp [Value.cells] at hcs
    obtain ⟨rfl, rfl, rfl⟩ := hcs
    have hz' : zs.length = cap := by simpa using hz
    refine ⟨zs.take len, by rw [List.length_take]; omega, ⟨some x, cap, by rw [List.length_take, Nat.min_eq_left (by omega)], by rw [List.length_take]; omega, hm, fun e => (by cases e), fun a ha i k hk => ?_⟩⟩
    cases ha
    have hi : i < len := by have := (List.getElem?_eq_some_iff.1 hk).1; rw [List.length_take] at this; omega
    rw [List.getElem?_take, if_pos hi] at hk
    have q := hcell i (by omega)
    rw [List.getD, hk] at q
    exact ⟨q, i64_of_wf (hwz k (List.mem_of_getElem? hk))⟩
end Go.Proofs.YtnjfahgmebmakaaGreatDoor

/-
  OWN WORK. The model (layer 18): rows of sixteen bytes; the bytes of numbers.
-/
namespace Go.Proofs.YtnjfahgmebmakaaGreatDoor
open Go.RowKit
set_option linter.unusedVariables false
set_option linter.unusedSimpArgs false

theorem blk_setCells_aux {g : Nat} {t : TypeId} : ∀ (vs pre post old : List Value) (w : World), old.length = vs.length → Blk w g t (pre ++ old ++ post) → Blk (w.setCells g pre.length vs) g t (pre ++ vs ++ post)
  | [], pre, post, old, w, hl, h => by
    obtain rfl : old = [] := List.eq_nil_of_length_eq_zero (by simpa using hl)
    exact h
  | v :: r, pre, post, o :: old, w, hl, h => by
    obtain ⟨q, -⟩ := h.set pre.length v
    have e : (pre ++ (o :: old) ++ post).set pre.length v = (pre ++ [v]) ++ old ++ post := by
      rw [List.append_assoc, List.set_append_right _ _ (Nat.le_refl _), Nat.sub_self]
      simp
    rw [e] at q
    have ih := blk_setCells_aux r (pre ++ [v]) post old _ (by simpa using hl) q
    rw [World.setCells]
    rw [show (pre ++ [v]).length = pre.length + 1 by simp] at ih
    simpa using ih
theorem blk_setCells {w : World} {g : Nat} {t : TypeId} {old : List Value} (h : Blk w g t old) (vs : List Value) (hl : vs.length = old.length) : Blk (w.setCells g 0 vs) g t vs := by
  have q := blk_setCells_aux vs [] [] old w hl.symm (by simpa using h)
  simpa using q
def b8 (l : List Int) : List Value := l.map (Value.int .u8)
theorem b8_at {l : List Int} {j : Nat} {x : Int} (h : l[j]? = some x) : (b8 l)[j]? = some (.int .u8 x) := by simp [b8, h]
theorem b8_set (l : List Int) (j : Nat) (x : Int) : (b8 l).set j (.int .u8 x) = b8 (l.set j x) := by simp [b8, List.map_set]
def shr : Nat → Int → Int
  | 0, v => v
  | i + 1, v => shr i v / 256
theorem shr_next (i : Nat) (v : Int) : shr i (v / 256) = shr (i + 1) v := by
  induction i with
  | zero => rfl
  | succ i ih => simp only [shr] at *; rw [ih]
theorem digits_snoc : ∀ (i : Nat) (v : Int), digits (i + 1) v = digits i v ++ [shr i v % 256]
  | 0, v => rfl
  | i + 1, v => by
    rw [show digits (i + 1 + 1) v = (v % 256) :: digits (i + 1) (v / 256) from rfl, digits_snoc i (v / 256), shr_next]
    rfl
theorem shr_pos {v : Int} (h : 0 ≤ v) : ∀ i : Nat, 0 ≤ shr i v ∧ shr i v ≤ v
  | 0 => ⟨h, Int.le_refl _⟩
  | i + 1 => by have := shr_pos h i; simp only [shr]; omega
def part (A : List Int) (m i : Nat) (v : Int) : List Int := A ++ digits i v ++ zeros (m - i)
theorem part_zero (A : List Int) (m : Nat) (v : Int) : part A m 0 v = A ++ zeros m := by simp [part, digits]
theorem part_all (A : List Int) (m : Nat) (v : Int) : part A m m v = A ++ digits m v := by simp [part, zeros]
theorem part_next (A : List Int) {m i : Nat} (h : i < m) (v : Int) : (part A m i v).set (A.length + i) (shr i v % 256) = part A m (i + 1) v := by
  have e : (A ++ digits i v).length = A.length + i := by simp [digits_length]
  unfold part
  rw [List.set_append_right _ _ (by omega), e, Nat.sub_self, show m - i = (m - (i + 1)) + 1 by omega, zeros, List.replicate_succ, List.set_cons_zero, digits_snoc]
  simp [zeros]
theorem part_old (A : List Int) {m i : Nat} (h : i < m) (v : Int) : (part A m i v)[A.length + i]? = some 0 := by
  have e : (A ++ digits i v).length = A.length + i := by simp [digits_length]
  unfold part
  rw [List.getElem?_append_right (by omega), e, Nat.sub_self, show m - i = (m - (i + 1)) + 1 by omega, zeros, List.replicate_succ]
  rfl
theorem len16 {hs : List Int} (h : hs.length = 16) : ∃ x0 x1 x2 x3 x4 x5 x6 x7 x8 x9 x10 x11 x12 x13 x14 x15, hs = [x0, x1, x2, x3, x4, x5, x6, x7, x8, x9, x10, x11, x12, x13, x14, x15] := by
  match hs, h with
  | [x0, x1, x2, x3, x4, x5, x6, x7, x8, x9, x10, x11, x12, x13, x14, x15], _ => exact ⟨x0, x1, x2, x3, x4, x5, x6, x7, x8, x9, x10, x11, x12, x13, x14, x15, rfl⟩
theorem b8_length (l : List Int) : (b8 l).length = l.length := by simp [b8]
theorem b8_all (l : List Int) : (b8 l).toArray.all (·.oneCell') = true := by
  simp [b8, Value.oneCell']
theorem run_range {P : Program} {w : World} {g : Nat} {t : TypeId} {L : List Int} {d : TypeDesc} (T : TypeId) (hi : (P.info? T).map (·.size) = some 16) (hu : P.underlying T = some d) (hd : d.isRow = true) (hl : L.length = 16) (h : Blk w g t (b8 L)) : w.rangeAt g 0 (b8 L) := fun j v hv => by
  have := h.cell hv
  simpa using this
theorem run_over16 {P : Program} {w : World} {g : Nat} {t : TypeId} {L Z : List Int} (T : TypeId) (hi : (P.info? T).map (·.size) = some 16) (h : Blk w g t (b8 Z)) (hl : L.length = 16) (hz : Z.length = 16 := by rfl) : w.there g 0 (b8 L).toArray.size ∧ True ∧ Blk (w.setCells g 0 (b8 L)) g t (b8 L) ∧ Kept [g] w (w.setCells g 0 (b8 L)) := by
  refine ⟨fun j hj => ?_, trivial, ?_, kept_setCells g _ 0 w⟩
  · rw [List.size_toArray, b8_length, hl] at hj
    obtain ⟨x, hx⟩ : ∃ x, (b8 Z)[j]? = some x := ⟨_, List.getElem?_eq_getElem (by rw [b8_length, hz]; exact hj)⟩
    have c := h.cell hx
    refine ⟨?_, h.free _⟩
    rw [Nat.zero_add, c]; rfl
  · have q := blk_setCells h (b8 L) (by rw [b8_length, b8_length, hl, hz])
    exact q
theorem run_whole {P : Program} {w : World} {g : Nat} {t : TypeId} {L : List Int} {d : TypeDesc} (T : TypeId) (hi : (P.info? T).map (·.size) = some 16) (hu : P.underlying T = some d) (hd : d.isRow = true) (hl : L.length = 16) (h : Blk w g t (b8 L)) : (loadVar T ⟨g, 0, none⟩).run P w = .ok (.agg (b8 L).toArray) w :=
  run_loadVar_mid w g 0 T (b8 L) d (run_range T hi hu hd hl h) hu hd (by rw [b8_length, hl]; exact hi)
def SlotIs (a b : List Int) : Prop := a = b
theorem SlotIs.eq {a b : List Int} (h : SlotIs a b) : a = b := h
theorem Blk.fill16 {w : World} {g : Nat} {t : TypeId} {z0 z1 z2 z3 z4 z5 z6 z7 z8 z9 z10 z11 z12 z13 z14 z15 : Value} (h : Blk w g t [z0, z1, z2, z3, z4, z5, z6, z7, z8, z9, z10, z11, z12, z13, z14, z15]) (v0 v1 v2 v3 v4 v5 v6 v7 v8 v9 v10 v11 v12 v13 v14 v15 : Value) : Blk ((((((((((((((((w.setCell ⟨g, 0, none⟩ v0).setCell ⟨g, 1, none⟩ v1).setCell ⟨g, 2, none⟩ v2).setCell ⟨g, 3, none⟩ v3).setCell ⟨g, 4, none⟩ v4).setCell ⟨g, 5, none⟩ v5).setCell ⟨g, 6, none⟩ v6).setCell ⟨g, 7, none⟩ v7).setCell ⟨g, 8, none⟩ v8).setCell ⟨g, 9, none⟩ v9).setCell ⟨g, 10, none⟩ v10).setCell ⟨g, 11, none⟩ v11).setCell ⟨g, 12, none⟩ v12).setCell ⟨g, 13, none⟩ v13).setCell ⟨g, 14, none⟩ v14).setCell ⟨g, 15, none⟩ v15) g t [v0, v1, v2, v3, v4, v5, v6, v7, v8, v9, v10, v11, v12, v13, v14, v15] ∧ Kept [g] w ((((((((((((((((w.setCell ⟨g, 0, none⟩ v0).setCell ⟨g, 1, none⟩ v1).setCell ⟨g, 2, none⟩ v2).setCell ⟨g, 3, none⟩ v3).setCell ⟨g, 4, none⟩ v4).setCell ⟨g, 5, none⟩ v5).setCell ⟨g, 6, none⟩ v6).setCell ⟨g, 7, none⟩ v7).setCell ⟨g, 8, none⟩ v8).setCell ⟨g, 9, none⟩ v9).setCell ⟨g, 10, none⟩ v10).setCell ⟨g, 11, none⟩ v11).setCell ⟨g, 12, none⟩ v12).setCell ⟨g, 13, none⟩ v13).setCell ⟨g, 14, none⟩ v14).setCell ⟨g, 15, none⟩ v15) := by
  have b0 := h.set 0 v0
  have b1 := b0.1.set 1 v1
  have b2 := b1.1.set 2 v2
  have b3 := b2.1.set 3 v3
  have b4 := b3.1.set 4 v4
  have b5 := b4.1.set 5 v5
  have b6 := b5.1.set 6 v6
  have b7 := b6.1.set 7 v7
  have b8 := b7.1.set 8 v8
  have b9 := b8.1.set 9 v9
  have b10 := b9.1.set 10 v10
  have b11 := b10.1.set 11 v11
  have b12 := b11.1.set 12 v12
  have b13 := b12.1.set 13 v13
  have b14 := b13.1.set 14 v14
  have b15 := b14.1.set 15 v15
  exact ⟨b15.1, (((((((((((((((b0.2.trans b1.2 (by simp)).trans b2.2 (by simp)).trans b3.2 (by simp)).trans b4.2 (by simp)).trans b5.2 (by simp)).trans b6.2 (by simp)).trans b7.2 (by simp)).trans b8.2 (by simp)).trans b9.2 (by simp)).trans b10.2 (by simp)).trans b11.2 (by simp)).trans b12.2 (by simp)).trans b13.2 (by simp)).trans b14.2 (by simp)).trans b15.2 (by simp))⟩
end Go.Proofs.YtnjfahgmebmakaaGreatDoor

/-
  OWN WORK. What the program's text lays in the package variable that errors.As reads (layer 18): one cell; a world where it lies.
-/
namespace Go.Proofs.YtnjfahgmebmakaaGreatDoor
open Go.ChangeShapes Go.WideShapes Go.RowKit
set_option linter.unusedVariables false
def laidL : List (String × DataW Unit) := [("errors.errorType", Rows.laid_errors_errorType)]
theorem et_at : Tryz.prog.globalNamed "errors.errorType" = some 0 := by kernel_rfl
theorem rt_at : (Tryz.prog.cutTypes.find? (·.1 == "internal/reflectlite.rtype")).map (·.2) = some 188 := by kernel_rfl
theorem oneRow : ((List.range Tryz.prog.types.size).filter fun t => Tryz.prog.rowNamed t [101, 114, 114, 111, 114]) = [83] := by kernel_rfl
/-- the variable's one cell -/
def Vr (w : World) : Prop := w.cell? ⟨0, 0, none⟩ = some (.iface 188 (.agg #[.pointer (some ⟨1, 83, none⟩)]))
theorem vr_of_laid {W : World} (h : laidMetH Tryz.prog laidL W) : Vr W := by
  have h' : laidMet Tryz.prog [] W ∧ handlesMet Tryz.prog laidL W := h
  obtain ⟨name, u, ty, e1, e2, e3, e4, e5⟩ := h'.2 _ (List.mem_singleton.2 rfl)
  have en : name = [101, 114, 114, 111, 114] := (Option.some.inj e1).symm
  subst en
  obtain rfl := Option.some.inj (rt_at.symm.trans e2)
  have hm : ty ∈ (List.range Tryz.prog.types.size).filter fun t => Tryz.prog.rowNamed t [101, 114, 114, 111, 114] := List.mem_filter.2 ⟨List.mem_range.2 e3, e4⟩
  rw [oneRow] at hm
  obtain rfl := List.mem_singleton.1 hm
  have hh : typeHandle Tryz.prog 83 = .pointer (some ⟨1, 83, none⟩) := by kernel_rfl
  rw [hh] at e5
  unfold Vr
  simpa using World.var?_cell et_at e5 0
/-- a world in which it lies -/
noncomputable def laidWorld (os : Os) : World :=
  let w0 := World.holding Tryz.prog os ⟨#[], #[], []⟩
  { w0 with heap := w0.heap.modify 0 fun
      | .cells _ t frozen => .cells #[.iface 188 (.agg #[.pointer (some ⟨1, 83, none⟩)])] t frozen
      | o => o }
theorem laidWorld_met (os : Os) (args : Array Value) : laidMetH Tryz.prog laidL ((laidWorld os).forCall (fun _ _ => 0) ⟨#[], args, []⟩).memory :=
  laidMetH_of_parts (laidMet_nil _ _) (by kernel_rfl)
end Go.Proofs.YtnjfahgmebmakaaGreatDoor

