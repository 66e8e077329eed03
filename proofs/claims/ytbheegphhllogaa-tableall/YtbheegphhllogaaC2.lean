import Derived.Test.YtbheegphhllogaaRows
import Derived.Deep.Slices
import Derived.Test.YtbheegphhllogaaC1
/-
  OWN WORK (by mktb6.py). The table: the face of the program's; the law's same.
-/
namespace Go.Proofs.Ytbheegphhllogaa
open Go.RowKit
set_option linter.unusedVariables false
set_option linter.unusedSimpArgs false

/-- what the laws ask of the program's table: Tb w g F m S: at g lies a table for m rows that tells S, in the blocks F -/
structure TbOps (Tb : World → Nat → List Nat → Int → List RowR → Prop) : Prop where
  kept : ∀ {w w' : World} {g : Nat} {F : List Nat} {m : Int} {S : List RowR} {D : List Nat}, Tb w g F m S → Kept D w w' → (∀ x ∈ F, x ∉ D) → Tb w' g F m S
  lt : ∀ {w : World} {g : Nat} {F : List Nat} {m : Int} {S : List RowR}, Tb w g F m S → ∀ x ∈ F, x < w.heap.size
  ok : ∀ {w : World} {g : Nat} {F : List Nat} {m : Int} {S : List RowR}, Tb w g F m S → OkT m S
  new : ∀ (most : Int) (w : World), I64 most → Calls Try.prog 16 #[.int .i64 most] w fun e w' => (isM most ∧ ∃ g F, e = .returned (.tuple #[.pointer (some ⟨g, 0, none⟩), .int .i64 0]) ∧ Tb w' g F most [] ∧ (∀ x ∈ F, w.heap.size ≤ x) ∧ Kept [] w w') ∨ (¬ isM most ∧ e = .returned (.tuple #[.pointer none, .int .i64 161]) ∧ Kept [] w w')
  put : ∀ {g : Nat} {F : List Nat} {m : Int} {S : List RowR} (x : RowR) (w : World), Tb w g F m S → x.i64 → Calls Try.prog 14 #[.pointer (some ⟨g, 0, none⟩), x.v] w fun e w' => ∃ F', e = .returned (.int .i64 (putE m S x)) ∧ Tb w' g F' m (putT m S x) ∧ Fr w F F' ∧ Kept F w w'
  set : ∀ {g : Nat} {F : List Nat} {m : Int} {S : List RowR} (x : RowR) (w : World), Tb w g F m S → x.i64 → Calls Try.prog 20 #[.pointer (some ⟨g, 0, none⟩), x.v] w fun e w' => ∃ F', e = .returned (.int .i64 (setE S x)) ∧ Tb w' g F' m (setT S x) ∧ Fr w F F' ∧ Kept F w w'
  get : ∀ {g : Nat} {F : List Nat} {m : Int} {S : List RowR} (b : Int) (w : World), Tb w g F m S → I64 b → Calls Try.prog 12 #[.pointer (some ⟨g, 0, none⟩), .int .i64 b] w fun e w' => e = .returned (.tuple #[(rowOf (findB S b)).v, .bool (findB S b).isSome]) ∧ Kept [] w w'
  byId : ∀ {g : Nat} {F : List Nat} {m : Int} {S : List RowR} (b : Int) (w : World), Tb w g F m S → I64 b → Calls Try.prog 13 #[.pointer (some ⟨g, 0, none⟩), .int .i64 b] w fun e w' => e = .returned (.tuple #[(rowOf (findI S b)).v, .bool (findI S b).isSome]) ∧ Kept [] w w'
  drop : ∀ {g : Nat} {F : List Nat} {m : Int} {S : List RowR} (b : Int) (w : World), Tb w g F m S → I64 b → Calls Try.prog 17 #[.pointer (some ⟨g, 0, none⟩), .int .i64 b] w fun e w' => ∃ F', e = .returned (.tuple #[(rowOf (findB S b)).v, .bool (findB S b).isSome]) ∧ Tb w' g F' m (dropL S b) ∧ Fr w F F' ∧ Kept F w w'
  rows : ∀ {g : Nat} {F : List Nat} {m : Int} {S : List RowR} (w : World), Tb w g F m S → Calls Try.prog 9 #[.pointer (some ⟨g, 0, none⟩)] w fun e w' => ∃ v, e = .returned v ∧ Rw w' w.heap.size v S ∧ Kept [] w w'
  count : ∀ {g : Nat} {F : List Nat} {m : Int} {S : List RowR} (w : World), Tb w g F m S → Calls Try.prog 10 #[.pointer (some ⟨g, 0, none⟩)] w fun e w' => e = .returned (.int .i64 (S.length : Int)) ∧ Kept [] w w'
theorem rows_eq {la lb : List RowR} (hl : la.length = lb.length) (h : ∀ i x y, i < la.length → la[i]? = some x → lb[i]? = some y → x = y) : la = lb := by
  apply List.ext_getElem hl
  intro i h1 h2
  exact h i _ _ h1 (List.getElem?_eq_getElem h1) (List.getElem?_eq_getElem h2)
theorem rows_ne {la lb : List RowR} {i : Nat} {x y : RowR} (h1 : la[i]? = some x) (h2 : lb[i]? = some y) (h : x ≠ y) : la ≠ lb := fun e => h (by rw [e, h2] at h1; cases h1; rfl)
set_option maxRecDepth 20000 in
set_option maxHeartbeats 1600000 in
theorem same_any (a b : Value) (la lb : List RowR) (b1 b2 : Nat) (w : World) (ha : Rw w b1 a la) (hb : Rw w b2 b lb) : Calls Try.prog 15 #[a, b] w fun e w' => e = .returned (.bool (decide (la = lb))) ∧ Kept [] w w' := by
  obtain ⟨p, c, hpa⟩ := ha.shape
  subst hpa
  obtain ⟨q, d, hqb⟩ := hb.shape
  subst hqb
  obtain ⟨n, hn⟩ : ∃ n, n = la.length := ⟨_, rfl⟩
  obtain ⟨m, hm⟩ : ∃ m, m = lb.length := ⟨_, rfl⟩
  have HA := @hideH _ ha
  have HB := @hideH _ hb
  have HN := @hideH _ (And.intro hn (And.intro hm ha.len))
  rw [← hn, ← hm]
  clear ha hb hn hm
  go_enter Try.func15, Try.ntmps15
  by_cases hl : n = m
  · subst hl
    go_wp2
    go_loopw [5] (fun i wr => ∃ k : Nat, k ≤ n ∧ i = .int .i64 k ∧ Hid ((∀ i x y, i < k → la[i]? = some x → lb[i]? = some y → x = y) ∧ Kept [] w wr)) (fun i _ => n - (intOf i).toNat)
    case atStart => exact ⟨0, Nat.zero_le _, rfl, (fun i x y hi => absurd hi (Nat.not_lt_zero i)), Kept.refl _ _⟩
    case round =>
      obtain ⟨k, hk, rfl, hh⟩ := hrel
      by_cases hkl : k < n
      · have hkl' : (k : Int) < (n : Int) := by omega
        have h0 : (0 : Int) ≤ (k : Int) := by omega
        have wk : IntKind.i64.wrap ((k : Int) + 1) = (k : Int) + 1 := wrap_i64_of (by omega) (by have e1 := HN.out.1; have e2 := HN.out.2.2; unfold maxLen at e2; omega)
        obtain ⟨x, hx⟩ : ∃ x, la[k]? = some x := ⟨_, List.getElem?_eq_getElem (by have := HN.out.1; omega)⟩
        obtain ⟨y, hy⟩ : ∃ y, lb[k]? = some y := ⟨_, List.getElem?_eq_getElem (by have := HN.out.2.1; omega)⟩
        obtain ⟨ga, epa, -, -, ⟨a0, a1, a2, a3, a4⟩, -⟩ := HA.out.at hx
        obtain ⟨gb, epb, -, -, ⟨b0, b1', b2', b3, b4⟩, -⟩ := HB.out.at hy
        subst epa epb
        replace a0 := hh.out.2.cell a0 (by simp)
        replace a1 := hh.out.2.cell a1 (by simp)
        replace a2 := hh.out.2.cell a2 (by simp)
        replace a3 := hh.out.2.cell a3 (by simp)
        replace a4 := hh.out.2.cell a4 (by simp)
        replace b0 := hh.out.2.cell b0 (by simp)
        replace b1' := hh.out.2.cell b1' (by simp)
        replace b2' := hh.out.2.cell b2' (by simp)
        replace b3 := hh.out.2.cell b3 (by simp)
        replace b4 := hh.out.2.cell b4 (by simp)
        have hxy := eqRow x y
        by_cases e : x = y
        · have HH := @hideH _ (show ∀ i x y, i < k + 1 → la[i]? = some x → lb[i]? = some y → x = y from fun i x' y' hi h1 h2 => by
            by_cases c : i = k
            · subst c; rw [hx] at h1; rw [hy] at h2; cases h1; cases h2; exact e
            · exact hh.out.1 i x' y' (by omega) h1 h2)
          have HK := @hideH _ hh.out.2
          rw [decide_eq_true e] at hxy
          clear hx hy e hh
          go_wp2
          go_quiet (fail)
          go_wp2
          go_roundw
          case rel => exact ⟨k + 1, by omega, by go_num, HH.out, HK.out.drewN' _⟩
          case measure => simp [intOf]; omega
        · have HE := @hideH _ (rows_ne hx hy e)
          have HK := @hideH _ hh.out.2
          rw [decide_eq_false e] at hxy
          clear hx hy e hh
          go_wp2
          go_quiet (fail)
          go_wp2
          go_ret
          exact ⟨by rw [decide_eq_false HE.out]; rfl, HK.out.drewN' _⟩
      · have HE := @hideH _ (show la = lb from rows_eq (by rw [← HN.out.1, ← HN.out.2.1]) (fun i x y hi => hh.out.1 i x y (by have := HN.out.1; omega)))
        go_wp2
        go_ret
        exact ⟨by rw [decide_eq_true HE.out]; rfl, hh.out.2⟩
  · have hl' : ((n : Int) != (m : Int)) = true := by simp; omega
    have HE := @hideH _ (show la ≠ lb from fun e => hl (by rw [HN.out.1, HN.out.2.1, e]))
    clear hl
    go_wp2
    go_ret
    exact ⟨by rw [decide_eq_false HE.out]; rfl, Kept.refl _ _⟩
theorem same_eq (a b : Value) (l : List RowR) (b1 b2 : Nat) (w : World) (ha : Rw w b1 a l) (hb : Rw w b2 b l) : Calls Try.prog 15 #[a, b] w fun e w' => e = .returned (.bool true) ∧ Kept [] w w' := by
  have q := same_any a b l l b1 b2 w ha hb
  rw [decide_eq_true (rfl : l = l)] at q
  exact q
end Go.Proofs.Ytbheegphhllogaa

/-
  OWN WORK. As Late: the last operation may wait for a read by others between them.
-/
namespace Go.Proofs.Ytbheegphhllogaa
open Go.RowKit
set_option linter.unusedVariables false

section
variable {P : Program} {ops : Array Oper} {Q : Exit → Act → World → Prop} {md : Region.Mode} {S : World → Prop} {z : Nat}
/-- each of C waits for number i, or for another of C -/
def guards (md : Region.Mode) (ops : Array Oper) (C : List Nat) (i : Nat) : Bool := C.all fun j => match ops[j]? with
  | some o => o.after.any fun e => Region.binds md e && (e.on == i || C.contains e.on)
  | none => false
theorem guards_ready {C : List Nat} {i j : Nat} {listed : Array Bool} (h : guards md ops C i = true) (hi : listed.getD i false = false) (hC : ∀ k ∈ C, listed.getD k false = false) (hj : j ∈ Region.ready md ops listed) : j ∉ C := fun hm => by
  obtain ⟨-, o, ho, hall⟩ := mem_ready.1 hj
  have q := List.all_eq_true.1 h j hm
  rw [ho] at q
  obtain ⟨k, hk, he⟩ := Array.any_eq_true.1 q
  simp at he
  have := hall (o.after[k]) (Array.getElem_mem hk) he.1
  rcases he.2 with e | e
  · rw [e, hi] at this; cases this
  · rw [hC _ e] at this; cases this
theorem wpAnyZ_firstC {i : Nat} {oi : Oper} {v : Value} {C : List Nat} (hi : ops[i]? = some oi) (hsel : ∀ (j : Nat) (o : Oper) cs b, ops[j]? = some o → o.op ≠ .select cs b)
    (hQ : ∀ c a w, Q (.panic c) (a.put oi.dst v) w → Q (.panic c) a w) (hg : guards md ops C i = true) (hz : z ∈ C) :
    ∀ (n : Nat) (listed : Array Bool) (a : Act) (w : World),
      (∀ k ∈ C, listed.getD k false = false) →
      (∀ j oj, ops[j]? = some oj → j ≠ i → listed.getD j true = false → (∀ e ∈ oj.after, Region.binds md e = true → e.on ≠ i) → oi.apart ops oj = true) →
      i ∈ Region.ready md ops listed → YieldsIf P ops S oi v a → S w →
      wpAnyZ P md ops Q S z n (listed.setIfInBounds i true) (a.put oi.dst v) w → wpAnyZ P md ops Q S z (n + 1) listed a w := by
  intro n
  induction n with
  | zero =>
    intro listed a w _ _ hr hy hS H
    refine ⟨fun h => (by rw [h] at hr; cases hr), fun j hj => ?_⟩
    by_cases e : j = i
    · subst e; exact hy.wpOp hi hS ⟨fun _ => hS, H⟩
    · have := ready_mono hj e
      rw [H.1] at this
      cases this
  | succ n ih =>
    intro listed a w hC hfree hr hy hS H
    have hun := (mem_ready.1 hr).1
    have hunf : listed.getD i false = false := by
      rcases Nat.lt_or_ge i listed.size with c | c
      · simp [c] at hun ⊢; exact hun
      · simp [c]
    refine ⟨fun h => (by rw [h] at hr; cases hr), fun j hj => ?_⟩
    by_cases e : j = i
    · subst e; exact hy.wpOp hi hS ⟨fun _ => hS, H⟩
    · have hjC := guards_ready hg hunf hC hj
      have hjz : j ≠ z := fun c => hjC (c ▸ hz)
      obtain ⟨hju, oj, hoj, hall⟩ := mem_ready.1 hj
      have hno : ∀ e ∈ oj.after, Region.binds md e = true → e.on ≠ i := fun e he hb c => by
        have := hall e he hb
        rw [c, hunf] at this
        cases this
      have h2 := wpOp_putIf hoj (hfree j oj hoj e hju hno) (fun cs b => hsel i oi cs b hi) (fun cs b => hsel j oj cs b hoj) hQ hy (H.2 j (ready_mono hj e))
      have hfree2 : ∀ k ok, ops[k]? = some ok → k ≠ i → (listed.setIfInBounds j true).getD k true = false → (∀ e ∈ ok.after, Region.binds md e = true → e.on ≠ i) → oi.apart ops ok = true := fun k ok hk hki hkj hnk => by
        by_cases c : j = k
        · subst c; exact hfree j ok hk hki hju hnk
        · exact hfree k ok hk hki (by rwa [getD_set_ne true c] at hkj) hnk
      have hC2 : ∀ k ∈ C, (listed.setIfInBounds j true).getD k false = false := fun k hk => by
        have hne : j ≠ k := fun c => hjC (by rw [c]; exact hk)
        rw [getD_set_ne false hne]
        exact hC k hk
      refine wpOp_mono (fun a' w' h3 => ⟨h3.2.1, ih (listed.setIfInBounds j true) a' w' hC2 hfree2 (ready_mono hr (Ne.symm e)) h3.1 (h3.2.1 hjz) ?_⟩) h2
      rw [Array.setIfInBounds_comm _ _ e]
      exact h3.2.2
/-- take number i first -/
theorem wpAnyZ_takeC (i : Nat) (C : List Nat) {oi : Oper} {v : Value} {n : Nat} {listed : Array Bool} {a : Act} {w : World} (hi : ops[i]? = some oi)
    (hs : Region.noSelect ops = true) (hg : guards md ops C i = true) (hz : C.contains z = true) (hl : C.all (fun k => !listed.getD k false) = true) (hf : Region.free md ops listed i = true) (hr : (Region.ready md ops listed).contains i = true)
    (hQ : ∀ c a w, Q (.panic c) (a.put oi.dst v) w → Q (.panic c) a w) (hw : Region.wanted oi (yielded ops a.tmps) = true) (hy : ∀ w, S w → (execOp a.eval oi).run P w = .ok (.value v) w) (hS : S w)
    (h : wpAnyZ P md ops Q S z n (listed.setIfInBounds i true) (a.put oi.dst v) w) : wpAnyZ P md ops Q S z (n + 1) listed a w :=
  wpAnyZ_firstC hi (Region.noSelect_spec hs) hQ hg (by simpa using hz) n listed a w (fun k hk => by simpa using List.all_eq_true.1 hl k hk) (Region.free_spec hi hf) (by simpa using hr) (.inl ⟨hw, hy⟩) hS h
end
end Go.Proofs.Ytbheegphhllogaa

/-
  OWN WORK. As Late: two operations that may come up; reads taken behind the last one.
-/
namespace Go.Proofs.Ytbheegphhllogaa
open Go.RowKit
set_option linter.unusedVariables false

section
variable {P : Program} {ops : Array Oper} {Q : Exit → Act → World → Prop} {md : Region.Mode} {S : World → Prop} {z : Nat}
theorem wpAnyZ_firstD {i : Nat} {oi : Oper} {v : Value} (hi : ops[i]? = some oi) (hsel : ∀ (j : Nat) (o : Oper) cs b, ops[j]? = some o → o.op ≠ .select cs b)
    (hQ : ∀ c a w, Q (.panic c) (a.put oi.dst v) w → Q (.panic c) a w) :
    ∀ (n : Nat) (listed : Array Bool) (a : Act) (w : World),
      listed.getD z true = true →
      (∀ j oj, ops[j]? = some oj → j ≠ i → listed.getD j true = false → (∀ e ∈ oj.after, Region.binds md e = true → e.on ≠ i) → oi.apart ops oj = true) →
      i ∈ Region.ready md ops listed → YieldsIf P ops S oi v a → S w →
      wpAnyZ P md ops Q S z n (listed.setIfInBounds i true) (a.put oi.dst v) w → wpAnyZ P md ops Q S z (n + 1) listed a w := by
  intro n
  induction n with
  | zero =>
    intro listed a w _ _ hr hy hS H
    refine ⟨fun h => (by rw [h] at hr; cases hr), fun j hj => ?_⟩
    by_cases e : j = i
    · subst e; exact hy.wpOp hi hS ⟨fun _ => hS, H⟩
    · have := ready_mono hj e
      rw [H.1] at this
      cases this
  | succ n ih =>
    intro listed a w hz hfree hr hy hS H
    have hun := (mem_ready.1 hr).1
    have hunf : listed.getD i false = false := by
      rcases Nat.lt_or_ge i listed.size with c | c
      · simp [c] at hun ⊢; exact hun
      · simp [c]
    refine ⟨fun h => (by rw [h] at hr; cases hr), fun j hj => ?_⟩
    by_cases e : j = i
    · subst e; exact hy.wpOp hi hS ⟨fun _ => hS, H⟩
    · obtain ⟨hju, oj, hoj, hall⟩ := mem_ready.1 hj
      have hjz : j ≠ z := fun c => by rw [c, hz] at hju; cases hju
      have hno : ∀ e ∈ oj.after, Region.binds md e = true → e.on ≠ i := fun e he hb c => by
        have := hall e he hb
        rw [c, hunf] at this
        cases this
      have h2 := wpOp_putIf hoj (hfree j oj hoj e hju hno) (fun cs b => hsel i oi cs b hi) (fun cs b => hsel j oj cs b hoj) hQ hy (H.2 j (ready_mono hj e))
      have hfree2 : ∀ k ok, ops[k]? = some ok → k ≠ i → (listed.setIfInBounds j true).getD k true = false → (∀ e ∈ ok.after, Region.binds md e = true → e.on ≠ i) → oi.apart ops ok = true := fun k ok hk hki hkj hnk => by
        by_cases c : j = k
        · subst c; exact hfree j ok hk hki hju hnk
        · exact hfree k ok hk hki (by rwa [getD_set_ne true c] at hkj) hnk
      refine wpOp_mono (fun a' w' h3 => ⟨h3.2.1, ih (listed.setIfInBounds j true) a' w' (by rw [getD_set_ne true hjz]; exact hz) hfree2 (ready_mono hr (Ne.symm e)) h3.1 (h3.2.1 hjz) ?_⟩) h2
      rw [Array.setIfInBounds_comm _ _ e]
      exact h3.2.2
/-- take number i first, where z is done -/
theorem wpAnyZ_takeD (i : Nat) {oi : Oper} {v : Value} {n : Nat} {listed : Array Bool} {a : Act} {w : World} (hi : ops[i]? = some oi)
    (hs : Region.noSelect ops = true) (hz : listed.getD z true = true) (hf : Region.free md ops listed i = true) (hr : (Region.ready md ops listed).contains i = true)
    (hQ : ∀ c a w, Q (.panic c) (a.put oi.dst v) w → Q (.panic c) a w) (hw : Region.wanted oi (yielded ops a.tmps) = true) (hy : ∀ w, S w → (execOp a.eval oi).run P w = .ok (.value v) w) (hS : S w)
    (h : wpAnyZ P md ops Q S z n (listed.setIfInBounds i true) (a.put oi.dst v) w) : wpAnyZ P md ops Q S z (n + 1) listed a w :=
  wpAnyZ_firstD hi (Region.noSelect_spec hs) hQ n listed a w hz (Region.free_spec hi hf) (by simpa using hr) (.inl ⟨hw, hy⟩) hS h
/-- only numbers i and j may come up -/
theorem wpAnyZ_two (i j : Nat) {oi oj : Oper} {n : Nat} {listed : Array Bool} {a : Act} {w : World} (hi : ops[i]? = some oi) (hj : ops[j]? = some oj) (hr : Region.ready md ops listed = [i, j])
    (h1 : ∀ K : Act → World → Prop, (∀ a' w', (i ≠ z → S w') → wpAnyZ P md ops Q S z n (listed.setIfInBounds i true) a' w' → K a' w') → if Region.wanted oi (yielded ops a.tmps) = true then Oper.wp P oi a w K Q else K (a.put oi.dst undef) w)
    (h2 : ∀ K : Act → World → Prop, (∀ a' w', (j ≠ z → S w') → wpAnyZ P md ops Q S z n (listed.setIfInBounds j true) a' w' → K a' w') → if Region.wanted oj (yielded ops a.tmps) = true then Oper.wp P oj a w K Q else K (a.put oj.dst undef) w) : wpAnyZ P md ops Q S z (n + 1) listed a w := by
  refine ⟨fun c => absurd (hr.symm.trans c) (by simp), fun k hk => ?_⟩
  rw [hr] at hk
  simp at hk
  rcases hk with rfl | rfl
  · exact wpOp_step hi fun K hK => h1 K fun a' w' q1 q2 => hK a' w' ⟨q1, q2⟩
  · exact wpOp_step hj fun K hK => h2 K fun a' w' q1 q2 => hK a' w' ⟨q1, q2⟩
end
end Go.Proofs.Ytbheegphhllogaa

/-
  OWN WORK (by mktb7.py). The law: known.
-/
namespace Go.Proofs.Ytbheegphhllogaa
open Go.RowKit
set_option linter.unusedVariables false
set_option linter.unusedSimpArgs false

theorem i64_small {x : Int} (h1 : -256 ≤ x) (h2 : x ≤ 256) : I64 x := ⟨by omega, by omega⟩
def row5 : RowR := ⟨5, 3, 1, 5, 0⟩
def row6 : RowR := ⟨6, 3, 1, 6, 0⟩
theorem row5_i64 : row5.i64 := ⟨i64_small (by decide) (by decide), i64_small (by decide) (by decide), i64_small (by decide) (by decide), i64_small (by decide) (by decide), i64_small (by decide) (by decide)⟩
theorem row6_i64 : row6.i64 := ⟨i64_small (by decide) (by decide), i64_small (by decide) (by decide), i64_small (by decide) (by decide), i64_small (by decide) (by decide), i64_small (by decide) (by decide)⟩
/-- a list of one row that is laid -/
theorem Rw.lit1 (w : World) (e : TypeId) (x : RowR) : Rw (w.alloc (.cells x.cs.toArray e)) w.heap.size (.slice (some ⟨w.heap.size, 0, none⟩) 1 1) [x] := by
  refine ⟨rfl, rcells_one [x], _, _, rfl, Nat.le_refl _, by simp [maxLen], .inr ⟨_, rfl, Nat.le_refl _, by rw [World.size_alloc]; omega, fun j u hj => (Blk.new w e x.cs).cell hj, fun j hj => ⟨?_, (Blk.new w e x.cs).free j⟩⟩⟩
  obtain ⟨u, hu⟩ : ∃ u, x.cs[j]? = some u := ⟨_, List.getElem?_eq_getElem (by simp [RowR.cs]; omega)⟩
  rw [(Blk.new w e x.cs).cell hu]
  rfl
set_option maxRecDepth 20000 in
set_option maxHeartbeats 3200000 in
theorem known_any {Tb : World → Nat → List Nat → Int → List RowR → Prop} (O : TbOps Tb) (w : World) : Calls Try.prog 8 #[] w fun e w' => e = .returned (.bool true) ∧ Kept [] w w' := by
  go_enter Try.func8, Try.ntmps8
  go_wp2_with fail
  refine (O.new 2 w (i64_small (by decide) (by decide))).mono ?_
  rintro e w1 (⟨-, g, F, rfl, l1, hF, k1⟩ | ⟨hn, -⟩)
  rotate_left
  · exact absurd (show isM 2 by decide) hn
  have HF := @hideH _ hF
  clear hF
  obtain ⟨w2, hw2⟩ : ∃ wx, wx = w1.alloc (.cells #[.int .i64 5, .int .i64 3, .int .i64 1, .int .i64 5, .int .i64 0] 24) := ⟨_, rfl⟩
  have k2 : Kept [] w1 w2 := by rw [hw2]; exact (Kept.refl [] w1).alloc _
  have X : Blk w2 w1.heap.size 24 row5.cs := by rw [hw2]; exact Blk.new w1 _ _
  have x0 := X.cell (j := 0) rfl
  have x1 := X.cell (j := 1) rfl
  have x2 := X.cell (j := 2) rfl
  have x3 := X.cell (j := 3) rfl
  have x4 := X.cell (j := 4) rfl
  simp only [row5] at x0 x1 x2 x3 x4
  go_upto_region 5 with fail
  rw [← hw2]
  clear hw2
  have q := O.put row5 w2 (O.kept l1 k2 (by simp)) row5_i64
  unfold RowR.v at q
  simp only [row5] at q
  have hq := @hideH _ q
  clear q
  go_wp2_with fail
  refine hq.out.mono ?_
  clear hq
  rintro e w3 ⟨F3, rfl, l3, fr3, k3⟩
  rw [show putE 2 [] ⟨5, 3, 1, 5, 0⟩ = 0 from by decide]
  rw [show putT 2 [] ⟨5, 3, 1, 5, 0⟩ = [row5] from by decide] at l3
  have n2 : w1.heap.size ∉ F := fun hm => by have := O.lt l1 _ hm; omega
  have s2 : w1.heap.size < w2.heap.size := X.lt
  have HF3 := @hideH _ (show ∀ x ∈ F3, w.heap.size ≤ x ∧ x ≠ w1.heap.size from fun x hx => by rcases fr3 x hx with q | q; exact ⟨HF.out x q, fun e => n2 (by rw [← e]; exact q)⟩; have := k1.size; exact ⟨by omega, by omega⟩)
  have K3 := @hideH _ ((k1.then k2).trans k3 (fun x hx => .inr (HF.out x hx)))
  replace x0 := k3.cell x0 n2
  replace x1 := k3.cell x1 n2
  replace x2 := k3.cell x2 n2
  replace x3 := k3.cell x3 n2
  replace x4 := k3.cell x4 n2
  have HS3 := @hideH _ (show w1.heap.size < w3.heap.size from Nat.lt_of_lt_of_le s2 k3.size)
  clear k1 k2 k3 fr3 X l1 n2 s2 HF
  have q := O.put row6 w3 l3 row6_i64
  unfold RowR.v at q
  simp only [row6] at q
  have hq := @hideH _ q
  clear q
  go_wp2_with fail
  refine hq.out.mono ?_
  clear hq
  rintro e w4 ⟨F4, rfl, l4, fr4, k4⟩
  rw [show putE 2 [row5] ⟨6, 3, 1, 6, 0⟩ = 160 from by decide]
  rw [show putT 2 [row5] ⟨6, 3, 1, 6, 0⟩ = [row5] from by decide] at l4
  have K4 := @hideH _ (K3.out.trans k4 (fun x hx => .inr (HF3.out x hx).1))
  replace x0 := k4.cell x0 (fun hm => (HF3.out _ hm).2 rfl)
  replace x1 := k4.cell x1 (fun hm => (HF3.out _ hm).2 rfl)
  replace x2 := k4.cell x2 (fun hm => (HF3.out _ hm).2 rfl)
  replace x3 := k4.cell x3 (fun hm => (HF3.out _ hm).2 rfl)
  replace x4 := k4.cell x4 (fun hm => (HF3.out _ hm).2 rfl)
  clear k4 fr4 l3 HF3 K3
  have q := O.get 5 w4 l4 (i64_small (by decide) (by decide))
  rw [show rowOf (findB [row5] 5) = row5 from by decide, show (findB [row5] 5).isSome = true from by decide] at q
  unfold RowR.v at q
  simp only [row5] at q
  have hq := @hideH _ q
  clear q
  go_wp2_with fail
  refine hq.out.mono ?_
  clear hq
  rintro e w5 ⟨rfl, k5⟩
  replace x0 := k5.cell x0 (by simp)
  replace x1 := k5.cell x1 (by simp)
  replace x2 := k5.cell x2 (by simp)
  replace x3 := k5.cell x3 (by simp)
  replace x4 := k5.cell x4 (by simp)
  obtain ⟨w6, hw6⟩ : ∃ wx, wx = w5.alloc (.cells #[.int .i64 5, .int .i64 3, .int .i64 1, .int .i64 5, .int .i64 0] 24) := ⟨_, rfl⟩
  have kw6 : Kept [] w5 w6 := by rw [hw6]; exact (Kept.refl [] w5).alloc _
  have X : Blk w6 w5.heap.size 24 row5.cs := by rw [hw6]; exact Blk.new w5 _ _
  have a0 := X.cell (j := 0) rfl
  have a1 := X.cell (j := 1) rfl
  have a2 := X.cell (j := 2) rfl
  have a3 := X.cell (j := 3) rfl
  have a4 := X.cell (j := 4) rfl
  simp only [row5] at a0 a1 a2 a3 a4
  clear X
  replace x0 := kw6.cell x0 (by simp)
  replace x1 := kw6.cell x1 (by simp)
  replace x2 := kw6.cell x2 (by simp)
  replace x3 := kw6.cell x3 (by simp)
  replace x4 := kw6.cell x4 (by simp)
  have K6 := @hideH _ ((K4.out.then k5).then kw6)
  have l6 := O.kept (O.kept l4 k5 (by simp)) kw6 (by simp)
  clear k5 kw6 l4 K4
  go_upto_region 8 with fail
  rw [← hw6]
  clear hw6
  have q := O.byId 3 w6 l6 (i64_small (by decide) (by decide))
  rw [show rowOf (findI [row5] 3) = row5 from by decide, show (findI [row5] 3).isSome = true from by decide] at q
  unfold RowR.v at q
  simp only [row5] at q
  have hq := @hideH _ q
  clear q
  go_wp2_with fail
  refine hq.out.mono ?_
  clear hq
  rintro e w7 ⟨rfl, k7⟩
  replace x0 := k7.cell x0 (by simp)
  replace x1 := k7.cell x1 (by simp)
  replace x2 := k7.cell x2 (by simp)
  replace x3 := k7.cell x3 (by simp)
  replace x4 := k7.cell x4 (by simp)
  replace a0 := k7.cell a0 (by simp)
  replace a1 := k7.cell a1 (by simp)
  replace a2 := k7.cell a2 (by simp)
  replace a3 := k7.cell a3 (by simp)
  replace a4 := k7.cell a4 (by simp)
  obtain ⟨w8, hw8⟩ : ∃ wx, wx = w7.alloc (.cells #[.int .i64 5, .int .i64 3, .int .i64 1, .int .i64 5, .int .i64 0] 24) := ⟨_, rfl⟩
  have kw8 : Kept [] w7 w8 := by rw [hw8]; exact (Kept.refl [] w7).alloc _
  have X : Blk w8 w7.heap.size 24 row5.cs := by rw [hw8]; exact Blk.new w7 _ _
  have b0 := X.cell (j := 0) rfl
  have b1 := X.cell (j := 1) rfl
  have b2 := X.cell (j := 2) rfl
  have b3 := X.cell (j := 3) rfl
  have b4 := X.cell (j := 4) rfl
  simp only [row5] at b0 b1 b2 b3 b4
  clear X
  replace x0 := kw8.cell x0 (by simp)
  replace x1 := kw8.cell x1 (by simp)
  replace x2 := kw8.cell x2 (by simp)
  replace x3 := kw8.cell x3 (by simp)
  replace x4 := kw8.cell x4 (by simp)
  replace a0 := kw8.cell a0 (by simp)
  replace a1 := kw8.cell a1 (by simp)
  replace a2 := kw8.cell a2 (by simp)
  replace a3 := kw8.cell a3 (by simp)
  replace a4 := kw8.cell a4 (by simp)
  have K8 := @hideH _ ((K6.out.then k7).then kw8)
  have l8 := O.kept (O.kept l6 k7 (by simp)) kw8 (by simp)
  clear k7 kw8 l6 K6
  go_upto_region 9 with fail
  rw [← hw8]
  clear hw8
  have e5 := eqRow row5 row5
  rw [decide_eq_true (rfl : row5 = row5)] at e5
  simp only [row5] at e5
  obtain ⟨ba, hba⟩ : ∃ n, n = w5.heap.size := ⟨_, rfl⟩
  obtain ⟨bb, hbb⟩ : ∃ n, n = w7.heap.size := ⟨_, rfl⟩
  obtain ⟨bx, hbx⟩ : ∃ n, n = w1.heap.size := ⟨_, rfl⟩
  rw [← hba] at a0 a1 a2 a3 a4
  rw [← hbb] at b0 b1 b2 b3 b4
  rw [← hbx] at x0 x1 x2 x3 x4
  rw [← hba, ← hbb, ← hbx]
  clear hba hbb hbx HS3
  have kx : Kept [] w8 w8.drew := (Kept.refl [] w8).drew
  have lx := O.kept l8 kx (by simp)
  go_region_held3 (fun w' => w'.cell? ⟨bx, 0, none⟩ = some (.int .i64 5) ∧ w'.cell? ⟨bx, 1, none⟩ = some (.int .i64 3) ∧ w'.cell? ⟨bx, 2, none⟩ = some (.int .i64 1) ∧ w'.cell? ⟨bx, 3, none⟩ = some (.int .i64 5) ∧ w'.cell? ⟨bx, 4, none⟩ = some (.int .i64 0) ∧ w'.cell? ⟨ba, 0, none⟩ = some (.int .i64 5) ∧ w'.cell? ⟨ba, 1, none⟩ = some (.int .i64 3) ∧ w'.cell? ⟨ba, 2, none⟩ = some (.int .i64 1) ∧ w'.cell? ⟨ba, 3, none⟩ = some (.int .i64 5) ∧ w'.cell? ⟨ba, 4, none⟩ = some (.int .i64 0) ∧ w'.cell? ⟨bb, 0, none⟩ = some (.int .i64 5) ∧ w'.cell? ⟨bb, 1, none⟩ = some (.int .i64 3) ∧ w'.cell? ⟨bb, 2, none⟩ = some (.int .i64 1) ∧ w'.cell? ⟨bb, 3, none⟩ = some (.int .i64 5) ∧ w'.cell? ⟨bb, 4, none⟩ = some (.int .i64 0))
    (first
      | (exact ⟨(kx).cell x0 List.not_mem_nil, (kx).cell x1 List.not_mem_nil, (kx).cell x2 List.not_mem_nil, (kx).cell x3 List.not_mem_nil, (kx).cell x4 List.not_mem_nil, (kx).cell a0 List.not_mem_nil, (kx).cell a1 List.not_mem_nil, (kx).cell a2 List.not_mem_nil, (kx).cell a3 List.not_mem_nil, (kx).cell a4 List.not_mem_nil, (kx).cell b0 List.not_mem_nil, (kx).cell b1 List.not_mem_nil, (kx).cell b2 List.not_mem_nil, (kx).cell b3 List.not_mem_nil, (kx).cell b4 List.not_mem_nil⟩)
      | (exact ⟨(kx.alloc _).cell x0 List.not_mem_nil, (kx.alloc _).cell x1 List.not_mem_nil, (kx.alloc _).cell x2 List.not_mem_nil, (kx.alloc _).cell x3 List.not_mem_nil, (kx.alloc _).cell x4 List.not_mem_nil, (kx.alloc _).cell a0 List.not_mem_nil, (kx.alloc _).cell a1 List.not_mem_nil, (kx.alloc _).cell a2 List.not_mem_nil, (kx.alloc _).cell a3 List.not_mem_nil, (kx.alloc _).cell a4 List.not_mem_nil, (kx.alloc _).cell b0 List.not_mem_nil, (kx.alloc _).cell b1 List.not_mem_nil, (kx.alloc _).cell b2 List.not_mem_nil, (kx.alloc _).cell b3 List.not_mem_nil, (kx.alloc _).cell b4 List.not_mem_nil⟩)
      | fail)
    (first
      | (go_at_call 10; refine (O.count _ lx).mono ?_; rintro e wa ⟨rfl, ka⟩; replace kx := kx.then ka; replace lx := O.kept lx ka (by simp); clear ka)
      | (go_at_call 9; refine (O.rows _ lx).mono ?_; rintro e wb ⟨v1, rfl, m6, kb⟩; replace kx := kx.then kb; replace lx := O.kept lx kb (by simp); clear kb)
      | (go_at_call 9; refine (O.rows _ (O.kept lx ((Kept.refl [] wa).alloc _) (by simp))).mono ?_; rintro e wb ⟨v1, rfl, m6, kb⟩; have lit := (Rw.lit1 wa 24 row5).kept kb (by simp); replace kx := (kx.alloc _).then kb; clear kb)
      | (go_at_call 15; refine (same_eq _ _ _ _ _ _ m6 lit).mono ?_; rintro e wc ⟨rfl, kc⟩; replace kx := kx.then kc; clear kc)
      | (go_at_call 15; refine (same_eq _ _ _ _ _ _ (m6.kept ((Kept.refl [] _).alloc _) (by simp)) (Rw.lit1 _ _ row5)).mono ?_; rintro e wc ⟨rfl, kc⟩; replace kx := (kx.alloc _).then kc; clear kc)
      | fail)
  all_goals (have HKX := @hideH _ (K8.out.then kx); clear kx; go_wp2; go_ret; exact ⟨rfl, HKX.out⟩)
end Go.Proofs.Ytbheegphhllogaa

/-
  OWN WORK. The table (layer 16): a script that came in.
-/
namespace Go.Proofs.Ytbheegphhllogaa
open Go.ChangeShapes Go.WideShapes Go.ChangeAt Go.RowKit Go.Deep
set_option linter.unusedVariables false

structure StepT where
  second : Bool
  kind : Int
  r : RowR
  n : Int
def StepT.cs (s : StepT) : List Value := [.bool s.second, .int .i64 s.kind, .int .i64 s.r.birth, .int .i64 s.r.id, .int .i64 s.r.state, .int .i64 s.r.last, .int .i64 s.r.next, .int .i64 s.n]
def StepT.i64 (s : StepT) : Prop := I64 s.kind ∧ s.r.i64 ∧ I64 s.n
def StepAt (w : World) (a : Addr) (s : StepT) : Prop := (∀ (j : Nat) u, s.cs[j]? = some u → w.cell? (a.add j) = some u) ∧ s.i64
/-- v is a slice of these steps -/
def Scr (w : World) (v : Value) (ss : List StepT) : Prop :=
  ∃ (p : Option Addr) (c : Nat), v = .slice p ss.length c ∧ ss.length ≤ c ∧ c ≤ maxLen ∧ (p = none → c = 0) ∧ ∀ a, p = some a → ∀ (i : Nat) s, ss[i]? = some s → StepAt w (a.add (i * 8)) s
theorem StepAt.kept {w w' : World} {a : Addr} {s : StepT} (h : StepAt w a s) (k : Kept [] w w') : StepAt w' a s := ⟨fun j u hj => k.cell (h.1 j u hj) (by simp), h.2⟩
theorem Scr.kept {w w' : World} {v : Value} {ss : List StepT} (h : Scr w v ss) (k : Kept [] w w') : Scr w' v ss := by
  obtain ⟨p, c, e, h1, h2, h3, h4⟩ := h
  exact ⟨p, c, e, h1, h2, h3, fun a ha i s hs => (h4 a ha i s hs).kept k⟩
theorem Scr.shape {w : World} {v : Value} {ss : List StepT} (h : Scr w v ss) : ∃ p c, v = .slice p ss.length c ∧ ss.length ≤ maxLen := by
  obtain ⟨p, c, e, h1, h2, -⟩ := h
  exact ⟨p, c, e, by omega⟩
theorem Scr.at {w : World} {v : Value} {ss : List StepT} (h : Scr w v ss) {k : Nat} {s : StepT} (hk : ss[k]? = some s) :
    ∃ b o c, v = .slice (some ⟨b, o, none⟩) ss.length c ∧ (w.cell? ⟨b, o + k * 8, none⟩ = some (.bool s.second) ∧ w.cell? ⟨b, o + k * 8 + 1, none⟩ = some (.int .i64 s.kind) ∧ w.cell? ⟨b, o + k * 8 + 2, none⟩ = some (.int .i64 s.r.birth) ∧ w.cell? ⟨b, o + k * 8 + 3, none⟩ = some (.int .i64 s.r.id) ∧ w.cell? ⟨b, o + k * 8 + 4, none⟩ = some (.int .i64 s.r.state) ∧ w.cell? ⟨b, o + k * 8 + 5, none⟩ = some (.int .i64 s.r.last) ∧ w.cell? ⟨b, o + k * 8 + 6, none⟩ = some (.int .i64 s.r.next) ∧ w.cell? ⟨b, o + k * 8 + 7, none⟩ = some (.int .i64 s.n)) ∧ s.i64 := by
  obtain ⟨p, c, rfl, h1, h2, h3, h4⟩ := h
  have hkl := (List.getElem?_eq_some_iff.1 hk).1
  cases p with
  | none => have := h3 rfl; omega
  | some a =>
    have h0 := (h4 a rfl 0 ss[0] (List.getElem?_eq_getElem (by omega))).1 0 _ rfl
    have hs := spot_of_cell h0
    have hs' : a.spot = none := by
      unfold Addr.add at hs
      split at hs <;> simp_all
    obtain ⟨g, g4⟩ := h4 a rfl k s hk
    obtain ⟨b, o, sp⟩ := a
    simp only at hs'
    subst hs'
    have hA : (⟨b, o, none⟩ : Addr).add (k * 8) = ⟨b, o + k * 8, none⟩ := add_none (a := ⟨b, o, none⟩) rfl (k * 8)
    rw [hA] at g
    have q : ∀ (j : Nat) u, s.cs[j]? = some u → w.cell? ⟨b, o + k * 8 + j, none⟩ = some u := fun j u hj => by have := g j u hj; rw [add_none (a := ⟨b, o + k * 8, none⟩) rfl] at this; exact this
    exact ⟨b, o, c, rfl, ⟨q 0 _ rfl, q 1 _ rfl, q 2 _ rfl, q 3 _ rfl, q 4 _ rfl, q 5 _ rfl, q 6 _ rfl, q 7 _ rfl⟩, g4⟩
theorem eight_of {α : Type} {l : List α} (h : l.length = 8) : ∃ a b c d e f g h, l = [a, b, c, d, e, f, g, h] := by
  match l, h with
  | [a, b, c, d, e, f, g, h], _ => exact ⟨a, b, c, d, e, f, g, h, rfl⟩
theorem five_of {α : Type} {l : List α} (h : l.length = 5) : ∃ a b c d e, l = [a, b, c, d, e] := by
  match l, h with
  | [a, b, c, d, e], _ => exact ⟨a, b, c, d, e, rfl⟩
theorem four_of16 {α : Type} {l : List α} (h : l.length = 4) : ∃ a b c d, l = [a, b, c, d] := by
  match l, h with
  | [a, b, c, d], _ => exact ⟨a, b, c, d, rfl⟩
theorem choose_lt16 {α : Type} [Inhabited α] {n : Nat} {Q : Nat → α → Prop} (h : ∀ i, i < n → ∃ q, Q i q) : ∃ q : Nat → α, ∀ i, i < n → Q i (q i) := by
  refine ⟨fun i => if hi : i < n then Classical.choose (h i hi) else default, fun i hi => ?_⟩
  simp only [hi, dite_true]
  exact Classical.choose_spec (h i hi)
theorem i64_of_wf {z : Int} (h : (Lit.int .i64 z).wf = true) : I64 z := by
  have hb : -9223372036854775808 ≤ z ∧ z ≤ 9223372036854775807 := by simpa [Lit.wf, IntKind.min, IntKind.max, IntKind.signed, IntKind.bits] using h
  exact ⟨by omega, by omega⟩
/-- what of the types is asked: five numbers in a row, and a step of a test, a number, a row and a number -/
structure StepTypes (P : Program) (e r : TypeId) (f0 f1 f2 f3 g0 g1 g2 g3 g4 : Field) : Prop where
  he : P.underlying e = some (.struct #[f0, f1, f2, f3])
  hr : P.underlying r = some (.struct #[g0, g1, g2, g3, g4])
  ce : P.cellsOf e = 8
  cr : P.cellsOf r = 5
  fo : f0.offset = 0 ∧ f1.offset = 1 ∧ f2.offset = 2 ∧ f3.offset = 7
  ft : f2.type = r
  fc : P.cellsOf f0.type = 1 ∧ P.cellsOf f1.type = 1 ∧ P.cellsOf f3.type = 1
  fu : P.underlying f0.type = some .bool ∧ P.underlying f1.type = some (.int .i64) ∧ P.underlying f3.type = some (.int .i64)
  go : g0.offset = 0 ∧ g1.offset = 1 ∧ g2.offset = 2 ∧ g3.offset = 3 ∧ g4.offset = 4
  gc : P.cellsOf g0.type = 1 ∧ P.cellsOf g1.type = 1 ∧ P.cellsOf g2.type = 1 ∧ P.cellsOf g3.type = 1 ∧ P.cellsOf g4.type = 1
  gu : P.underlying g0.type = some (.int .i64) ∧ P.underlying g1.type = some (.int .i64) ∧ P.underlying g2.type = some (.int .i64) ∧ P.underlying g3.type = some (.int .i64) ∧ P.underlying g4.type = some (.int .i64)
theorem steps_open {H : Type} {enc : TypeId × Value → H} {W : World} {t e r : TypeId} {f0 f1 f2 f3 g0 g1 g2 g3 g4 : Field} {ao : Option Addr} {len cap : Nat} {d : DataW H} {p : List MemPlace} (ht : Try.prog.underlying t = some (.slice e)) (T : StepTypes Try.prog e r f0 f1 f2 f3 g0 g1 g2 g3 g4)
    (h : DataW.Trod enc Try.prog W 0 (fun _ => true) true t (.slice ao len cap) d p) : ∃ ss : List StepT, ss.length = len ∧ Scr W (.slice ao len cap) ss := by
  obtain ⟨fuel, hf⟩ := h
  rcases open_slice ht hf with ⟨hcs, hx⟩ | ⟨a, l, c, m, n, D, Pl, hcs, hb, hl, hm, hmm, hx, hel⟩
  · simp [Value.cells] at hcs
    obtain ⟨rfl, rfl, rfl⟩ := hcs
    exact ⟨[], rfl, ⟨none, 0, rfl, Nat.le_refl _, by simp [maxLen], fun _ => rfl, fun a e => (by cases e)⟩⟩
  · simp [Value.cells] at hcs
    obtain ⟨rfl, rfl, rfl⟩ := hcs
    have hmm' : m = cap := by simpa using hmm
    have each : ∀ i, i < m → ∃ q : StepT, StepAt W (a.add (i * 8)) q := by
      intro i hi
      obtain ⟨cs', h1, h2⟩ := hel i hi
      rw [T.ce] at h1
      obtain ⟨_, hlen, hcell⟩ := World.cells?_some h1
      obtain ⟨xs, k, hk, hxy, _, hxl, hff⟩ := DataW.trod_struct T.he h2
      obtain ⟨y0, y1, y2, y3, rfl⟩ := four_of16 (show xs.length = 4 from hxl)
      obtain ⟨v0, v1, v2, v3, v4, v5, v6, v7, rfl⟩ := eight_of hlen
      have q0 := hff 0 f0 rfl
      have q1 := hff 1 f1 rfl
      have q2 := hff 2 f2 rfl
      have q3 := hff 3 f3 rfl
      obtain ⟨o0, o1, o2, o3⟩ := T.fo
      obtain ⟨c0, c1, c3⟩ := T.fc
      simp [o0, o1, o2, o3, c0, c1, c3, T.ft, T.cr] at q0 q1 q2 q3
      obtain ⟨z0, e0, -⟩ := DataW.trod_bool T.fu.1 q0
      obtain ⟨z1, e1, -, w1⟩ := DataW.trod_int T.fu.2.1 q1
      obtain ⟨z7, e7, -, w7⟩ := DataW.trod_int T.fu.2.2 q3
      obtain ⟨xs2, k2, hk2, hxy2, _, hxl2, hff2⟩ := DataW.trod_struct T.hr q2
      obtain ⟨u0, u1, u2, u3, u4, rfl⟩ := five_of (show xs2.length = 5 from hxl2)
      have p0 := hff2 0 g0 rfl
      have p1 := hff2 1 g1 rfl
      have p2 := hff2 2 g2 rfl
      have p3 := hff2 3 g3 rfl
      have p4 := hff2 4 g4 rfl
      obtain ⟨a0, a1, a2, a3, a4⟩ := T.go
      obtain ⟨b0, b1, b2, b3, b4⟩ := T.gc
      simp [a0, a1, a2, a3, a4, b0, b1, b2, b3, b4] at p0 p1 p2 p3 p4
      obtain ⟨z2, e2, -, w2⟩ := DataW.trod_int T.gu.1 p0
      obtain ⟨z3, e3, -, w3⟩ := DataW.trod_int T.gu.2.1 p1
      obtain ⟨z4, e4, -, w4⟩ := DataW.trod_int T.gu.2.2.1 p2
      obtain ⟨z5, e5, -, w5⟩ := DataW.trod_int T.gu.2.2.2.1 p3
      obtain ⟨z6, e6, -, w6⟩ := DataW.trod_int T.gu.2.2.2.2 p4
      simp at e0 e1 e2 e3 e4 e5 e6 e7
      subst e0 e1 e2 e3 e4 e5 e6 e7
      refine ⟨⟨z0, z1, ⟨z2, z3, z4, z5, z6⟩, z7⟩, fun j u hj => ?_, i64_of_wf w1, ⟨i64_of_wf w2, i64_of_wf w3, i64_of_wf w4, i64_of_wf w5, i64_of_wf w6⟩, i64_of_wf w7⟩
      have hj8 : j < 8 := by have := (List.getElem?_eq_some_iff.1 hj).1; simpa [StepT.cs] using this
      have x := hcell j (by omega)
      rw [x]
      exact hj
    haveI : Inhabited StepT := ⟨⟨false, 0, rowZ, 0⟩⟩
    obtain ⟨q, hq⟩ := choose_lt16 each
    refine ⟨(List.range len).map q, by simp, ⟨some a, cap, by simp, by simpa using hl, hm, fun e => (by cases e), fun a' e i s hs => ?_⟩⟩
    cases e
    simp only [List.getElem?_map] at hs
    obtain ⟨j, hj, rfl⟩ := Option.map_eq_some_iff.1 hs
    obtain ⟨hj2, rfl⟩ := List.getElem?_eq_some_iff.1 hj
    have hi : i < len := by simpa using hj2
    simp only [List.getElem_range]
    exact hq i (by omega)
/-- what one step leaves -/
def playT (m : Int) (S : List RowR) (s : StepT) : List RowR := if s.kind = 0 then putT m S s.r else if s.kind = 1 then setT S s.r else if s.kind = 4 then dropL S s.n else S
theorem playT_put {m : Int} {S : List RowR} {s : StepT} (h : s.kind = 0) : playT m S s = putT m S s.r := if_pos h
theorem playT_set {m : Int} {S : List RowR} {s : StepT} (h : s.kind = 1) : playT m S s = setT S s.r := by unfold playT; rw [if_neg (by omega), if_pos h]
theorem playT_drop {m : Int} {S : List RowR} {s : StepT} (h : s.kind = 4) : playT m S s = dropL S s.n := by unfold playT; rw [if_neg (by omega), if_neg (by omega), if_pos h]
theorem playT_none {m : Int} {S : List RowR} {s : StepT} (h0 : s.kind ≠ 0) (h1 : s.kind ≠ 1) (h4 : s.kind ≠ 4) : playT m S s = S := by unfold playT; rw [if_neg h0, if_neg h1, if_neg h4]
theorem OkT.play {m : Int} {S : List RowR} (h : OkT m S) (s : StepT) : OkT m (playT m S s) := by
  unfold playT
  split
  · exact h.put _
  · split
    · exact h.set _
    · split
      · exact h.drop _
      · exact h
end Go.Proofs.Ytbheegphhllogaa

/-
  OWN WORK (by mktb4.py). The document's table (layer 16): Drop.
-/
namespace Go.Proofs.Ytbheegphhllogaa
open Go.RowKit
set_option linter.unusedVariables false
set_option linter.unusedSimpArgs false

theorem run_cut_to_sz {P : Program} (w : World) (t e : TypeId) (sz : Nat) (hu : P.underlying t = some (.slice e)) (hsz : (P.info? e).map (·.size) = some sz) (p : Option Addr) (n c k : Nat) (hk : k ≤ c) :
    (Instr.slice t (.slice p n c) none (some (.int .i64 (k : Int))) none).run P w = .ok (.slice p k c) w := by
  obtain ⟨i, hi, hs⟩ := Option.map_eq_some_iff.1 hsz
  simp [Instr.slice, run_underlying hu, Instr.sliceBounds, run_sliceBound, sizeOf, typeInfo, hi, (by omega : (k : Int) ≤ (c : Int))]
  intro _
  cases p with
  | none => rfl
  | some a =>
    obtain ⟨b, o, s⟩ := a
    cases s <;> simp [Addr.add]
/-- a front of a row is a source -/
theorem Row.fore {P : Program} {w w' : World} {base sz g n c : Nat} {cs : List Value} {t e : TypeId} (ht : P.underlying t = some (.slice e)) (h : Row w base sz (.slice (some ⟨g, 0, none⟩) n c) n cs) (hc : ∀ (j : Nat) u, cs[j]? = some u → w'.cell? ⟨g, j, none⟩ = some u) (k : Nat) (hk : k ≤ n) : Src P sz t (.slice (some ⟨g, 0, none⟩) k c) k (cs.take (k * sz)) w' := by
  obtain ⟨h1, h2, p', c', e', h3, h4, h5⟩ := h
  cases e'
  have hm : k * sz ≤ n * sz := Nat.mul_le_mul_right _ hk
  refine Src.ofSlice w' ht _ _ _ _ (by rw [List.length_take]; omega) (fun j u hj => ?_) (fun u hu => h2 u (List.mem_of_mem_take hu))
  rw [add_none (a := ⟨g, 0, none⟩) rfl]
  rw [List.getElem?_take] at hj
  split at hj
  · simpa using hc _ u hj
  · cases hj
theorem rt_drop {w w2 w3 w4 : World} {g : Nat} {m : Int} {v v1 v2 : Value} {S L : List RowR} {y : RowR} {k : Nat} {b : Int} {N : Nat} (kw : Kept [] w w2) (B : Blk w g 63 [.int .i64 m, v]) (R : Rw w 0 v L) (pm : S.Perm L) (ok : OkT m S) (hvg : ∀ y, v.ownBlock = some y → y ≠ g) (hk : L[k]? = some y) (hb : y.birth = b)
    (k3 : Kept [] w2 w3) (o3 : v1.ownBlock = none ∨ (v1.ownBlock = some w2.heap.size ∧ Kept [] w2 w3)) (hN : N = L.length - 1) (r4 : Row w4 0 5 v2 N ((rcells L).take (k * 5) ++ (rcells L).drop ((k + 1) * 5))) (k4 : Kept v1.ownBlock.toList w3 w4) (o4 : v2.ownBlock = v1.ownBlock ∨ (v2.ownBlock = some w3.heap.size ∧ Kept [] w3 w4)) :
    Blk w4 g 63 [.int .i64 m, v] ∧ Rt (w4.setCell ⟨g, 1, none⟩ v2) g (g :: v2.ownBlock.toList) m (dropL S b) ∧ Fr w (g :: v.ownBlock.toList) (g :: v2.ownBlock.toList) ∧ Kept (g :: v.ownBlock.toList) w (w4.setCell ⟨g, 1, none⟩ v2) ∧ Kept [] w2 w4 ∧ ∀ y, v2.ownBlock = some y → w2.heap.size ≤ y := by
  have s2 := kw.size
  have s3 := k3.size
  have hl := B.lt
  have h1 : ∀ y, v1.ownBlock = some y → w2.heap.size ≤ y := fun y hy => by
    rcases o3 with o | ⟨o, -⟩
    · rw [o] at hy; cases hy
    · rw [o] at hy; cases hy; omega
  have h2 : ∀ y, v2.ownBlock = some y → w2.heap.size ≤ y := fun y hy => by
    rcases o4 with o | ⟨o, -⟩
    · rw [o] at hy; exact h1 y hy
    · rw [o] at hy; cases hy; omega
  have k24 : Kept [] w2 w4 := k3.trans k4 (fun x hx => .inr (h1 x (own_mem.1 hx)))
  have B4 := B.kept (kw.then k24) (by simp)
  obtain ⟨B5, k5⟩ := B4.set 1 v2
  refine ⟨B4, ⟨v2, dropL L b, B5, ?_, pm.filter _, ok.drop b, rfl, fun y hy => by have := h2 y hy; omega⟩, fun x hx => ?_, ?_, k24, h2⟩
  · have e : dropL L b = L.take k ++ L.drop (k + 1) := dropL_at (ok.dif.perm pm) hk hb
    have hkl := (List.getElem?_eq_some_iff.1 hk).1
    have q := Row.kept r4 k5 (fun y hy hm => by have := h2 y hy; simp at hm; omega)
    unfold Rw
    rw [e, rcells_append, ← rcells_take, ← rcells_drop, List.length_append, List.length_take, List.length_drop, show min k L.length + (L.length - (k + 1)) = N by omega]
    exact q
  · rcases List.mem_cons.1 hx with rfl | hx
    · exact .inl (by simp)
    · exact .inr (by have := h2 x (own_mem.1 hx); omega)
  · exact ((kw.then k24).mono (T := g :: v.ownBlock.toList) (by simp)).trans k5 (fun y hy => .inl (by simp at hy; simp [hy]))
set_option maxRecDepth 20000 in
set_option maxHeartbeats 1600000 in
theorem rDrop {g : Nat} {F : List Nat} {m : Int} {S : List RowR} (b : Int) (w : World) (h : Rt w g F m S) : Calls Try.prog 29 #[.pointer (some ⟨g, 0, none⟩), .int .i64 b] w fun e w' => ∃ F', e = .returned (.tuple #[(rowOf (findB S b)).v, .bool (findB S b).isSome]) ∧ Rt w' g F' m (dropL S b) ∧ Fr w F F' ∧ Kept F w w' := by
  obtain ⟨v, L, B, R, pm, ok, hF, hvg⟩ := h
  subst hF
  have HFB := @hideH _ (findB_perm ok.dif pm b)
  have HPL := @hideH _ pm.length_eq
  have HOK := @hideH _ ok
  have HPM := @hideH _ pm
  obtain ⟨inf, hin1, hin2, hin3, hin4⟩ := info_parts3 (show (Try.prog.info? 24).map (fun i => (i.zero, i.size, i.bytes)) = some (some (.agg #[.int .i64 0, .int .i64 0, .int .i64 0, .int .i64 0, .int .i64 0]), 5, 40) by kernel_rfl)
  have HI := @hideH _ (And.intro hin1 (And.intro hin2 (And.intro hin3 hin4)))
  clear hin1 hin2 hin3 hin4
  obtain ⟨w1, hw1⟩ : ∃ wx, wx = w.alloc (.cells #[.int .i64 0, .int .i64 0, .int .i64 0, .int .i64 0, .int .i64 0] 24) := ⟨_, rfl⟩
  have kw1 : Kept [] w w1 := by rw [hw1]; exact (Kept.refl [] w).alloc _
  have Z : Blk w1 w.heap.size 24 rowZ.cs := by rw [hw1]; exact Blk.new w _ _
  obtain ⟨p, c, hv⟩ := R.shape
  subst hv
  obtain ⟨n, hn⟩ : ∃ n, n = L.length := ⟨_, rfl⟩
  have HN := @hideH _ (And.intro hn R.len)
  have HZ := @hideH _ (And.intro Z kw1)
  have R1 := R.kept kw1 (by simp)
  have B1 := B.kept kw1 (by simp)
  have HA := @hideH _ (rAt b w1 B1 R1)
  have HR1 := @hideH _ R1
  rw [← hn] at B1
  have c1 := B1.cell (j := 1) rfl
  have HRt := @hideH _ (show ∀ w', Kept [] w w' → Rt w' g (g :: (Value.slice p L.length c).ownBlock.toList) m S from fun w' k => ⟨_, L, B.kept k (by simp), R.kept k (by simp), pm, ok, rfl, hvg⟩)
  have H0 := @hideH _ (And.intro B (And.intro R hvg))
  have H8 := @hideH _ (show n ≤ 8 by have e1 := ok.len; have e2 := ok.most; rw [pm.length_eq, ← hn] at e1; omega)
  clear B1 R1 hn Z kw1 B R pm ok hvg
  go_enter Try.func29, Try.ntmps29
  go_upto_region 1 with fail
  rw [← hw1]
  clear hw1
  go_wp2_with fail
  refine HA.out.mono ?_
  clear HA
  rintro e wx ⟨hwx, i, rfl, hi⟩
  rw [hwx]
  clear hwx wx
  rcases hi with ⟨rfl, he⟩ | ⟨k, y, rfl, hx, hb, he⟩
  · have HE := @hideH _ he
    clear he
    obtain ⟨w2, hw2⟩ : ∃ wx, wx = setBox w1 w.heap.size rowZ := ⟨_, rfl⟩
    have S := HZ.out.1.setRow rowZ
    rw [← hw2] at S
    have HS := @hideH _ S
    clear S
    unfold setBox at hw2
    simp only [rowZ] at hw2
    have z0 := HZ.out.1.cell (j := 0) rfl
    have z1 := HZ.out.1.cell (j := 1) rfl
    have z2 := HZ.out.1.cell (j := 2) rfl
    have z3 := HZ.out.1.cell (j := 3) rfl
    have z4 := HZ.out.1.cell (j := 4) rfl
    have f0 := HZ.out.1.free 0
    have f1 := HZ.out.1.free 1
    have f2 := HZ.out.1.free 2
    have f3 := HZ.out.1.free 3
    have f4 := HZ.out.1.free 4
    simp only [rowZ] at z0 z1 z2 z3 z4
    have HK := @hideH _ (show Kept [] w w2 from HZ.out.2.trans HS.out.2 (fun y hy => .inr (by simp at hy; omega)))
    go_wp2
    rw [← hw2]
    have r0 := HS.out.1.cell (j := 0) rfl
    have r1 := HS.out.1.cell (j := 1) rfl
    have r2 := HS.out.1.cell (j := 2) rfl
    have r3 := HS.out.1.cell (j := 3) rfl
    have r4 := HS.out.1.cell (j := 4) rfl
    refine bodyPost_ret (by simp [results, Try.results29, go_sem, r0, r1, r2, r3, r4]; try rfl) rfl ?_
    exact ⟨_, by rw [HFB.out, HE.out]; rfl, by rw [dropL_none (HFB.out.trans HE.out)]; exact HRt.out _ HK.out, Fr.refl _ _, HK.out.mono (by simp)⟩
  · have hkn : k < n := by have := HN.out.1; have := (List.getElem?_eq_some_iff.1 hx).1; omega
    have hkl' : (k : Int) < (n : Int) := by omega
    have h0 : (0 : Int) ≤ (k : Int) := by omega
    have h0' : ¬ (k : Int) < (0 : Int) := by omega
    have wk : IntKind.i64.wrap ((k : Int) + 1) = (k : Int) + 1 := wrap_i64_of (by omega) (by have := H8.out; omega)
    obtain ⟨gl, hp, -, -, ⟨d0, d1, d2, d3, d4⟩, -⟩ := HR1.out.at hx
    subst hp
    have HX := @hideH _ (And.intro hx (And.intro hb he))
    have HKN := @hideH _ hkn
    clear he hx hb hkn
    obtain ⟨w2, hw2⟩ : ∃ wx, wx = w1.alloc (.cells #[.int .i64 y.birth, .int .i64 y.id, .int .i64 y.state, .int .i64 y.last, .int .i64 y.next] 24) := ⟨_, rfl⟩
    have kw2 : Kept [] w1 w2 := by rw [hw2]; exact (Kept.refl [] w1).alloc _
    have Y : Blk w2 w1.heap.size 24 y.cs := by rw [hw2]; exact Blk.new w1 _ _
    have HY := @hideH _ (And.intro Y kw2)
    have c2 := kw2.cell c1 (by simp)
    have HZ2 := @hideH _ (HZ.out.1.kept kw2 (by simp))
    have HKW := @hideH _ (HZ.out.2.then kw2)
    have R2 := HR1.out.kept kw2 (by simp)
    unfold Rw at R2
    rw [← HN.out.1] at R2
    obtain ⟨gl', e', -, -, hc2, -⟩ := R2.pos (by have := HKN.out; omega)
    cases e'
    have hcc := (Row.shape R2)
    have HCC := @hideH _ (show n ≤ c by obtain ⟨p', c', e', h3, -⟩ := hcc; cases e'; exact h3)
    clear hcc
    have cut1 := fun (u : World) => run_cut_to_sz (P := Try.prog) u 26 24 5 Try.underlying26 (by kernel_rfl) (some ⟨gl, 0, none⟩) n c k (by have := HCC.out; have := HKN.out; omega)
    have src1 := Row.fore (P := Try.prog) (w' := w2) Try.underlying26 R2 hc2 k (by have := HKN.out; omega)
    have HR2 := @hideH _ (And.intro R2 hc2)
    clear kw2 Y R2 hc2
    go_upto_region 5 with fail
    rw [← hw2]
    clear hw2 d0 d1 d2 d3 d4 c1
    go_upto_region 7 with (at_builtin; refine wpList_append_row2 rfl (.tmp 22) (.tmp 28) 26 rfl 0 24 inf (.agg #[.int .i64 0, .int .i64 0, .int .i64 0, .int .i64 0, .int .i64 0]) 5 40 Try.underlying26 HI.out.1 HI.out.2.1 HI.out.2.2.1 HI.out.2.2.2 rfl _ 0 [] (by rfl) (Row.nil _ _ _) _ k _ (by rfl) src1 (by have e1 := H8.out; have e2 := HKN.out; omega) (by have e1 := H8.out; have e2 := HKN.out; unfold maxLen; omega) (by have e1 := H8.out; have e2 := HKN.out; omega) (Nat.zero_le _) ?_; intro v1 w3 r3 k3 o3; rw [Nat.zero_add, List.nil_append] at r3; obtain ⟨p1, c3, hv1, -⟩ := Row.shape r3; subst hv1)
    have k3' : Kept [] w2 w3 := k3
    have c3 := k3'.cell c2 (by simp)
    obtain ⟨sa, hsa⟩ : ∃ sa, sa = (if c = k + 1 then some (⟨gl, 0, none⟩ : Addr) else Option.map (fun x : Addr => x.add ((k + 1) * 5)) (some ⟨gl, 0, none⟩)) := ⟨_, rfl⟩
    have cut2 : ∀ u : World, (Instr.slice 26 (.slice (some ⟨gl, 0, none⟩) n c) (some (.int .i64 ((k : Int) + 1))) none none).run Try.prog u = .ok (.slice sa (n - (k + 1)) (c - (k + 1))) u := fun u => by have q := run_cut_from_sz (P := Try.prog) u 26 24 5 Try.underlying26 (by kernel_rfl) (some ⟨gl, 0, none⟩) n c (k + 1) (by have := HKN.out; omega); rw [← hsa] at q; exact q
    have src2 := Row.rest (P := Try.prog) (w' := w3) Try.underlying26 HR2.out.1 (fun j u hj => k3'.cell (HR2.out.2 j u hj) (by simp)) (k + 1) (by have := HKN.out; omega) sa hsa
    clear cut1 src1 hsa
    go_upto_region 8 with (at_builtin; refine wpList_append_row2 rfl (.tmp 31) (.tmp 38) 26 rfl 0 24 inf (.agg #[.int .i64 0, .int .i64 0, .int .i64 0, .int .i64 0, .int .i64 0]) 5 40 Try.underlying26 HI.out.1 HI.out.2.1 HI.out.2.2.1 HI.out.2.2.2 rfl _ _ _ (by rfl) r3 _ _ _ (by rfl) src2 (by have e1 := H8.out; have e2 := HKN.out; omega) (by have e1 := H8.out; have e2 := HKN.out; unfold maxLen; omega) (by have e1 := H8.out; have e2 := HKN.out; omega) (Nat.zero_le _) ?_; intro v2 w4 r4 k4 o4; obtain ⟨p2, cc2, hv2, -⟩ := Row.shape r4; subst hv2; have FIN := rt_drop HKW.out H0.out.1 H0.out.2.1 HPM.out HOK.out H0.out.2.2 HX.out.1 HX.out.2.1 k3' o3 (show k + (n - (k + 1)) = L.length - 1 by have e1 := HN.out.1; have e2 := HKN.out; omega) r4 k4 o4; have c4 := FIN.1.cell (j := 1) rfl; have f4 := FIN.1.free 1; have HF := @hideH _ FIN.2; clear FIN r4 k4 o4 src2)
    obtain ⟨w5, hw5⟩ : ∃ wx, wx = w4.setCell ⟨g, 1, none⟩ (.slice p2 (k + (n - (k + 1))) cc2) := ⟨_, rfl⟩
    rw [← hw5] at HF
    rw [← hw5]
    have k45 : Kept [g] w4 w5 := by rw [hw5]; exact (Kept.refl [g] w4).setCell (.inl (by simp)) _
    clear hw5 c4 f4 c2 c3 r3 k3 o3 k3' cut2
    have hgl : g < w.heap.size := H0.out.1.lt
    have hs1 := HZ.out.2.size
    have BY := (HY.out.1.kept HF.out.2.2.2.1 (by simp)).kept k45 (by simp; omega)
    have BZ := (HZ2.out.kept HF.out.2.2.2.1 (by simp)).kept k45 (by simp; omega)
    have HBZ := @hideH _ BZ
    have y0 := BY.cell (j := 0) rfl
    have y1 := BY.cell (j := 1) rfl
    have y2 := BY.cell (j := 2) rfl
    have y3 := BY.cell (j := 3) rfl
    have y4 := BY.cell (j := 4) rfl
    obtain ⟨w6, hw6⟩ : ∃ wx, wx = setBox w5 w.heap.size y := ⟨_, rfl⟩
    have S := BZ.setRow y
    rw [← hw6] at S
    have HS := @hideH _ S
    clear S
    unfold setBox at hw6
    have z0 := BZ.cell (j := 0) rfl
    have z1 := BZ.cell (j := 1) rfl
    have z2 := BZ.cell (j := 2) rfl
    have z3 := BZ.cell (j := 3) rfl
    have z4 := BZ.cell (j := 4) rfl
    have f0 := BZ.free 0
    have f1 := BZ.free 1
    have f2 := BZ.free 2
    have f3 := BZ.free 3
    have f4 := BZ.free 4
    simp only [rowZ] at z0 z1 z2 z3 z4
    clear BZ BY k45
    have HSS := @hideH _ (And.intro hgl hs1)
    clear hgl hs1
    go_wp2
    rw [← hw6]
    have r0 := HS.out.1.cell (j := 0) rfl
    have r1 := HS.out.1.cell (j := 1) rfl
    have r2 := HS.out.1.cell (j := 2) rfl
    have r3 := HS.out.1.cell (j := 3) rfl
    have r4 := HS.out.1.cell (j := 4) rfl
    refine bodyPost_ret (by simp [results, Try.results29, go_sem, r0, r1, r2, r3, r4]; try rfl) rfl ?_
    refine ⟨_, by rw [HFB.out, HX.out.2.2]; rfl, HF.out.1.kept HS.out.2 (fun q hq hm => ?_), HF.out.2.1, HF.out.2.2.1.trans HS.out.2 (fun q hq => .inr (by simp at hq; omega))⟩
    simp at hm
    rw [hm] at hq
    rcases List.mem_cons.1 hq with e | e
    · have := HSS.out.1; omega
    · have h1 := HF.out.2.2.2.2 _ (own_mem.1 e); have h2 := HZ.out.1.lt; have h3 := HY.out.2.size; omega
end Go.Proofs.Ytbheegphhllogaa

/-
  OWN WORK. The table: the least birth above the last one told, again and again (plain).
-/
namespace Go.Proofs.Ytbheegphhllogaa
set_option linter.unusedVariables false
def lenV : Value → Nat
  | .slice _ n _ => n
  | _ => 0
def lastB (S : List RowR) : Nat → Int
  | 0 => 0
  | j + 1 => (S.getD j rowZ).birth
theorem lastB_zero (S : List RowR) : lastB S 0 = 0 := rfl
theorem lastB_succ (S : List RowR) (j : Nat) : lastB S (j + 1) = (S.getD j rowZ).birth := rfl
def Best (l : List RowR) (last : Int) (b : RowR) : Prop := (b = rowZ ∧ ∀ x ∈ l, ¬ last < x.birth) ∨ (b ∈ l ∧ last < b.birth ∧ ∀ x ∈ l, last < x.birth → b.birth ≤ x.birth)
theorem Best.start (last : Int) : Best [] last rowZ := .inl ⟨rfl, by simp⟩
theorem Best.low {l : List RowR} {last : Int} {b x : RowR} (h : Best l last b) (hx : ¬ last < x.birth) : Best (l ++ [x]) last b := by
  rcases h with ⟨h1, h2⟩ | ⟨h1, h2, h3⟩
  · refine .inl ⟨h1, fun y hy => ?_⟩
    rcases List.mem_append.1 hy with hy | hy
    · exact h2 y hy
    · simp at hy; rw [hy]; exact hx
  · refine .inr ⟨List.mem_append_left _ h1, h2, fun y hy q => ?_⟩
    rcases List.mem_append.1 hy with hy | hy
    · exact h3 y hy q
    · simp at hy; rw [hy] at q; exact absurd q hx
theorem Best.first {l : List RowR} {last : Int} {b x : RowR} (h : Best l last b) (hl : 0 ≤ last) (hb : b.birth = 0) (hx : last < x.birth) : Best (l ++ [x]) last x := by
  rcases h with ⟨h1, h2⟩ | ⟨h1, h2, h3⟩
  · refine .inr ⟨by simp, hx, fun y hy q => ?_⟩
    rcases List.mem_append.1 hy with hy | hy
    · exact absurd q (h2 y hy)
    · simp at hy; rw [hy]; exact Int.le_refl _
  · omega
theorem Best.less {l : List RowR} {last : Int} {b x : RowR} (h : Best l last b) (hb : b.birth ≠ 0) (hx : last < x.birth) (hxb : x.birth < b.birth) : Best (l ++ [x]) last x := by
  rcases h with ⟨h1, h2⟩ | ⟨h1, h2, h3⟩
  · rw [h1] at hb; exact absurd rfl hb
  · refine .inr ⟨by simp, hx, fun y hy q => ?_⟩
    rcases List.mem_append.1 hy with hy | hy
    · have := h3 y hy q; omega
    · simp at hy; rw [hy]; exact Int.le_refl _
theorem Best.more {l : List RowR} {last : Int} {b x : RowR} (h : Best l last b) (hb : b.birth ≠ 0) (hxb : ¬ x.birth < b.birth) : Best (l ++ [x]) last b := by
  rcases h with ⟨h1, h2⟩ | ⟨h1, h2, h3⟩
  · rw [h1] at hb; exact absurd rfl hb
  · refine .inr ⟨List.mem_append_left _ h1, h2, fun y hy q => ?_⟩
    rcases List.mem_append.1 hy with hy | hy
    · exact h3 y hy q
    · simp at hy; rw [hy]; omega
theorem getD_at {S : List RowR} {j : Nat} (h : j < S.length) : S.getD j rowZ = S[j] := by rw [List.getD_eq_getElem?_getD, List.getElem?_eq_getElem h]; rfl
theorem lastB_pos {m : Int} {S : List RowR} (ok : OkT m S) : ∀ j, 0 ≤ lastB S j
  | 0 => Int.le_refl _
  | j + 1 => by
    rw [lastB_succ]
    by_cases h : j < S.length
    · rw [getD_at h]; have := (ok.right _ (List.getElem_mem h)).1.1; omega
    · rw [List.getD_eq_getElem?_getD, List.getElem?_eq_none (by omega)]; exact Int.le_refl _
theorem lastB_lt {m : Int} {S : List RowR} (ok : OkT m S) : ∀ {j : Nat} (hj : j < S.length), lastB S j < (S[j]).birth
  | 0, hj => by have := (ok.right _ (List.getElem_mem hj)).1.1; rw [lastB_zero]; omega
  | j + 1, hj => by
    rw [lastB_succ]
    rw [getD_at (by omega)]
    exact List.pairwise_iff_getElem.1 ok.up j (j + 1) (by omega) hj (by omega)
theorem best_at {m : Int} {S L : List RowR} (ok : OkT m S) (pm : S.Perm L) {j : Nat} (hj : j < S.length) {b : RowR} (h : Best L (lastB S j) b) : S[j]? = some b := by
  have hy : S[j] ∈ L := pm.mem_iff.1 (List.getElem_mem hj)
  have hl := lastB_lt ok hj
  rcases h with ⟨h1, h2⟩ | ⟨h1, h2, h3⟩
  · exact absurd hl (h2 _ hy)
  · obtain ⟨i, hi, rfl⟩ := List.getElem_of_mem (pm.mem_iff.2 h1)
    have q := h3 _ hy hl
    by_cases c : j < i
    · have := List.pairwise_iff_getElem.1 ok.up j i hj hi c; omega
    · by_cases c2 : i = j
      · subst c2; exact List.getElem?_eq_getElem hi
      · exfalso
        obtain ⟨d, rfl⟩ : ∃ d, j = d + 1 := ⟨j - 1, by omega⟩
        rw [lastB_succ] at h2
        rw [getD_at (by omega)] at h2
        by_cases c3 : i = d
        · subst c3; omega
        · have := List.pairwise_iff_getElem.1 ok.up i d hi (by omega) (by omega); omega
theorem take_snoc {S : List RowR} {j : Nat} {b : RowR} (h : S[j]? = some b) : S.take (j + 1) = S.take j ++ [b] := by rw [List.take_add_one, h]; rfl
theorem lastB_next {S : List RowR} {j : Nat} {b : RowR} (h : S[j]? = some b) : lastB S (j + 1) = b.birth := by rw [lastB_succ]; rw [List.getD_eq_getElem?_getD, h]; rfl
end Go.Proofs.Ytbheegphhllogaa

/-
  OWN WORK (by mktb5.py). The document's table (layer 16): Rows.
-/
namespace Go.Proofs.Ytbheegphhllogaa
open Go.RowKit
set_option linter.unusedVariables false
set_option linter.unusedSimpArgs false

set_option maxRecDepth 20000 in
set_option maxHeartbeats 3200000 in
theorem rRows {g : Nat} {F : List Nat} {m : Int} {S : List RowR} (w : World) (h : Rt w g F m S) : Calls Try.prog 30 #[.pointer (some ⟨g, 0, none⟩)] w fun e w' => ∃ v, e = .returned v ∧ Rw w' w.heap.size v S ∧ Kept [] w w' := by
  obtain ⟨v, L, B, R, pm, ok, hF, hvg⟩ := h
  obtain ⟨inf, hin1, hin2, hin3, hin4⟩ := info_parts3 (show (Try.prog.info? 24).map (fun i => (i.zero, i.size, i.bytes)) = some (some (.agg #[.int .i64 0, .int .i64 0, .int .i64 0, .int .i64 0, .int .i64 0]), 5, 40) by kernel_rfl)
  have HI := @hideH _ (And.intro hin1 (And.intro hin2 (And.intro hin3 hin4)))
  clear hin1 hin2 hin3 hin4
  obtain ⟨p, c, hv⟩ := R.shape
  subst hv
  obtain ⟨n, hn⟩ : ∃ n, n = L.length := ⟨_, rfl⟩
  have HN := @hideH _ (And.intro hn (show S.length = n by rw [hn]; exact pm.length_eq))
  have HOK := @hideH _ ok
  have HPM := @hideH _ pm
  have HR := @hideH _ R
  rw [← hn] at B
  have HB := @hideH _ B
  have H8 := @hideH _ (show n ≤ 8 by have e1 := ok.len; have e2 := ok.most; rw [pm.length_eq, ← hn] at e1; omega)
  clear B R pm ok hvg hF hn
  go_enter Try.func30, Try.ntmps30
  go_wp2
  go_loopw [3, 4] (fun vo vl wr => ∃ j : Nat, j ≤ n ∧ vl = .int .i64 (lastB S j) ∧ (∃ p' c', vo = .slice p' j c') ∧ Hid (Rw wr w.heap.size vo (S.take j) ∧ Kept [] w wr)) (fun vo _ _ => n - lenV vo)
  case atStart => exact ⟨0, Nat.zero_le _, rfl, ⟨_, _, rfl⟩, Rw.nil _ _, Kept.refl _ _⟩
  case round =>
    obtain ⟨j, hj, rfl, ⟨p', c', rfl⟩, hh⟩ := hrel
    obtain ⟨wo, rfl⟩ : ∃ wo, wo = wr := ⟨_, rfl⟩
    have HB1 := @hideH _ (HB.out.kept hh.out.2 (by simp))
    have c1 := HB1.out.cell (j := 1) rfl
    by_cases hjl : j < n
    · have hjl' : (j : Int) < (n : Int) := by omega
      obtain ⟨la, hla⟩ : ∃ la, la = lastB S j := ⟨_, rfl⟩
      have HLA := @hideH _ (And.intro hla (lastB_pos HOK.out j))
      rw [← hla]
      clear hla
      obtain ⟨w1, hw1⟩ : ∃ wx, wx = wo.alloc (.cells #[.int .i64 0, .int .i64 0, .int .i64 0, .int .i64 0, .int .i64 0] 24) := ⟨_, rfl⟩
      have kw1 : Kept [] wo w1 := by rw [hw1]; exact (Kept.refl [] wo).alloc _
      have Z : Blk w1 wo.heap.size 24 rowZ.cs := by rw [hw1]; exact Blk.new wo _ _
      have HZ := @hideH _ (And.intro Z kw1)
      replace c1 := kw1.cell c1 (by simp)
      have c1o := HB1.out.cell (j := 1) rfl
      clear Z kw1
      go_upto_region 5 with fail
      rw [← hw1]
      clear hw1 c1o
      obtain ⟨bx, hbx⟩ : ∃ bx, bx = wo.heap.size := ⟨_, rfl⟩
      rw [← hbx] at HZ
      rw [← hbx]
      have HBX := @hideH _ hbx
      clear hbx c1
      go_wp2
      go_loopw [6] (fun vi wi => ∃ (k : Nat) (b : RowR), k ≤ n ∧ vi = .int .i64 k ∧ Hid (Blk wi bx 24 b.cs ∧ Kept [] wo wi ∧ Best (L.take k) la b)) (fun vi _ => n - (intOf vi).toNat)
      case atStart => exact ⟨0, rowZ, Nat.zero_le _, rfl, HZ.out.1, HZ.out.2, Best.start _⟩
      case round =>
        obtain ⟨k, b, hk, rfl, h2⟩ := hrel
        have c1 := (HB1.out.kept h2.out.2.1 (by simp)).cell (j := 1) rfl
        have hs0 := HBX.out
        clear hs0
        by_cases hkl : k < n
        · have hkl' : (k : Int) < (n : Int) := by omega
          have h0 : (0 : Int) ≤ (k : Int) := by omega
          have wk : IntKind.i64.wrap ((k : Int) + 1) = (k : Int) + 1 := wrap_i64_of (by omega) (by have := H8.out; omega)
          obtain ⟨x, hx⟩ : ∃ x, L[k]? = some x := ⟨_, List.getElem?_eq_getElem (by have := HN.out.1; omega)⟩
          have RK := @hideH _ (HR.out.kept (hh.out.2.then h2.out.2.1) (by simp))
          obtain ⟨gl, hp, -, -, ⟨d0, d1, d2, d3, d4⟩, -⟩ := RK.out.at hx
          subst hp
          have HX := @hideH _ (show L.take (k + 1) = L.take k ++ [x] from take_snoc hx)
          clear hx
          have e0 := h2.out.1.cell (j := 0) rfl
          by_cases ha : la < x.birth
          rotate_left
          · have HA := @hideH _ (h2.out.2.2.low ha)
            have ha' : decide (la < x.birth) = false := decide_eq_false ha
            go_wp2
            go_quiet (fail)
            go_wp2
            go_roundw
            case rel => exact ⟨k + 1, b, by omega, by go_num, h2.out.1.kept ((Kept.refl [] wr).drewN' _) (by simp), h2.out.2.1.drewN' _, by rw [HX.out]; exact HA.out⟩
            case measure => simp [intOf]; omega
          have ha' : decide (la < x.birth) = true := decide_eq_true ha
          by_cases hb : b.birth = 0
          · have hb' : (b.birth == 0) = true := by simpa using hb
            have HBB := @hideH _ (h2.out.2.2.first (by have := HLA.out.2; rw [← HLA.out.1] at this; exact this) hb ha)
            clear hb
            have HBE := @hideH _ (show Best (L.take (k + 1)) la x by rw [HX.out]; exact HBB.out)
            go_upto_region 8 with fail
            go_quiet (fail)
            obtain ⟨w6, hw6⟩ : ∃ wx, wx = wr.drewN nq := ⟨_, rfl⟩
            have k6 : Kept [] wr w6 := by rw [hw6]; exact (Kept.refl [] wr).drewN' _
            rw [← hw6]
            clear hw6
            replace d0 := k6.cell d0 (by simp)
            replace d1 := k6.cell d1 (by simp)
            replace d2 := k6.cell d2 (by simp)
            replace d3 := k6.cell d3 (by simp)
            replace d4 := k6.cell d4 (by simp)
            replace c1 := k6.cell c1 (by simp)
            have BZ := h2.out.1.kept k6 (by simp)
            obtain ⟨w7, hw7⟩ : ∃ wx, wx = setBox w6 bx x := ⟨_, rfl⟩
            have S := BZ.setRow x
            rw [← hw7] at S
            have HS := @hideH _ S
            clear S
            unfold setBox at hw7
            have z0 := BZ.cell (j := 0) rfl
            have z1 := BZ.cell (j := 1) rfl
            have z2 := BZ.cell (j := 2) rfl
            have z3 := BZ.cell (j := 3) rfl
            have z4 := BZ.cell (j := 4) rfl
            have f0 := BZ.free 0
            have f1 := BZ.free 1
            have f2 := BZ.free 2
            have f3 := BZ.free 3
            have f4 := BZ.free 4
            have HK7 := @hideH _ (show Kept [] wo w7 from (h2.out.2.1.then k6).trans HS.out.2 (fun y hy => .inr (by have := HBX.out; simp at hy; omega)))
            clear BZ k6
            go_upto_region 7 with fail
            rw [← hw7]
            clear hw7 z0 z1 z2 z3 z4 f0 f1 f2 f3 f4 d0 d1 d2 d3 d4 c1 e0
            go_wp2
            go_roundw
            case rel => exact ⟨k + 1, x, by omega, by go_num, HS.out.1, HK7.out, HBE.out⟩
            case measure => simp [intOf]; omega
          · have hb' : (b.birth == 0) = false := by simpa using hb
            by_cases hc : x.birth < b.birth
            · have HBB := @hideH _ (h2.out.2.2.less hb ha hc)
              have hc' : decide (x.birth < b.birth) = true := decide_eq_true hc
              clear hb
              have HBE := @hideH _ (show Best (L.take (k + 1)) la x by rw [HX.out]; exact HBB.out)
              go_upto_region 8 with fail
              go_quiet (fail)
              obtain ⟨w6, hw6⟩ : ∃ wx, wx = wr.drewN nq := ⟨_, rfl⟩
              have k6 : Kept [] wr w6 := by rw [hw6]; exact (Kept.refl [] wr).drewN' _
              rw [← hw6]
              clear hw6
              replace d0 := k6.cell d0 (by simp)
              replace d1 := k6.cell d1 (by simp)
              replace d2 := k6.cell d2 (by simp)
              replace d3 := k6.cell d3 (by simp)
              replace d4 := k6.cell d4 (by simp)
              replace c1 := k6.cell c1 (by simp)
              have BZ := h2.out.1.kept k6 (by simp)
              obtain ⟨w7, hw7⟩ : ∃ wx, wx = setBox w6 bx x := ⟨_, rfl⟩
              have S := BZ.setRow x
              rw [← hw7] at S
              have HS := @hideH _ S
              clear S
              unfold setBox at hw7
              have z0 := BZ.cell (j := 0) rfl
              have z1 := BZ.cell (j := 1) rfl
              have z2 := BZ.cell (j := 2) rfl
              have z3 := BZ.cell (j := 3) rfl
              have z4 := BZ.cell (j := 4) rfl
              have f0 := BZ.free 0
              have f1 := BZ.free 1
              have f2 := BZ.free 2
              have f3 := BZ.free 3
              have f4 := BZ.free 4
              have HK7 := @hideH _ (show Kept [] wo w7 from (h2.out.2.1.then k6).trans HS.out.2 (fun y hy => .inr (by have := HBX.out; simp at hy; omega)))
              clear BZ k6
              go_upto_region 7 with fail
              rw [← hw7]
              clear hw7 z0 z1 z2 z3 z4 f0 f1 f2 f3 f4 d0 d1 d2 d3 d4 c1 e0
              go_wp2
              go_roundw
              case rel => exact ⟨k + 1, x, by omega, by go_num, HS.out.1, HK7.out, HBE.out⟩
              case measure => simp [intOf]; omega
            · have HBB := @hideH _ (h2.out.2.2.more (x := x) hb hc)
              have hc' : decide (x.birth < b.birth) = false := decide_eq_false hc
              clear hb
              go_wp2
              go_quiet (fail)
              go_wp2
              go_roundw
              case rel => exact ⟨k + 1, b, by omega, by go_num, h2.out.1.kept ((Kept.refl [] wr).drewN' _) (by simp), h2.out.2.1.drewN' _, by rw [HX.out]; exact HBB.out⟩
              case measure => simp [intOf]; omega
        · have hkl' : ¬ (k : Int) < (n : Int) := by omega
          have ek : k = n := by omega
          subst ek
          have HBJ := @hideH _ (show S[j]? = some b from best_at HOK.out HPM.out (by have := HN.out.2; omega) (by have q := h2.out.2.2; rw [HN.out.1, List.take_length, HLA.out.1] at q; exact q))
          have BZ := h2.out.1
          have z0 := BZ.cell (j := 0) rfl
          have z1 := BZ.cell (j := 1) rfl
          have z2 := BZ.cell (j := 2) rfl
          have z3 := BZ.cell (j := 3) rfl
          have z4 := BZ.cell (j := 4) rfl
          have KK := @hideH _ (hh.out.2.then h2.out.2.1)
          obtain ⟨w7, hw7⟩ : ∃ wx, wx = wr.alloc (.cells #[.int .i64 b.birth, .int .i64 b.id, .int .i64 b.state, .int .i64 b.last, .int .i64 b.next] 24) := ⟨_, rfl⟩
          have k7 : Kept [] wr w7 := by rw [hw7]; exact (Kept.refl [] wr).alloc _
          have hsrc := src_row (P := Try.prog) wr 26 24 Try.underlying26 b
          unfold RowR.cs at hsrc
          try dsimp only at hsrc
          rw [← hw7] at hsrc
          have R7 := (hh.out.1.kept (h2.out.2.1.then k7) (by simp))
          unfold Rw at R7
          rw [List.length_take, show min j S.length = j by have := HN.out.2; omega] at R7
          replace z0 := k7.cell z0 (by simp)
          have hsz := KK.out.size
          have hs7 := k7.size
          have HS7 := @hideH _ (And.intro hsz hs7)
          clear hsz hs7
          have w0 := BZ.cell (j := 0) rfl
          clear BZ
          go_upto_region 11 with (at_builtin; rw [← hw7]; refine wpList_append_row2 rfl (.tmp 60) (.tmp 62) 26 rfl w.heap.size 24 inf (.agg #[.int .i64 0, .int .i64 0, .int .i64 0, .int .i64 0, .int .i64 0]) 5 40 Try.underlying26 HI.out.1 HI.out.2.1 HI.out.2.2.1 HI.out.2.2.2 rfl _ _ _ (by rfl) R7 _ 1 _ (by rfl) hsrc (by have e1 := H8.out; omega) (by have e1 := H8.out; unfold maxLen; omega) (by have e1 := H8.out; omega) (by have := HS7.out; omega) ?_; intro v' w8 r8 k8 o8; obtain ⟨p8, c8, hv8, -⟩ := Row.shape r8; subst hv8)
          have HK8 := @hideH _ (show Kept [] w w8 from (KK.out.then k7).trans k8 (fun y hy => .inr (hh.out.1.lt (own_mem.1 hy)).1))
          have y0 := k8.cell z0 (fun hm => by have e1 : bx < wo.heap.size := (hh.out.1.lt (own_mem.1 hm)).2; have e2 := HBX.out; omega)
          have HR8 := @hideH _ (show Rw w8 w.heap.size (.slice p8 (j + 1) c8) (S.take (j + 1)) by unfold Rw; rw [take_snoc HBJ.out, List.length_append, List.length_take, show min j S.length = j by have := HN.out.2; omega, rcells_snoc]; exact r8)
          clear r8 k8 o8 k7 R7 hsrc hw7 c1 z0 z1 z2 z3 z4 w0
          go_wp2
          go_roundw
          case rel => exact ⟨j + 1, by omega, by rw [lastB_next HBJ.out], ⟨p8, c8, rfl⟩, HR8.out, HK8.out⟩
          case measure => simp [lenV]; omega
    · have hjl' : ¬ (j : Int) < (n : Int) := by omega
      have HF := @hideH _ (show S.take j = S by rw [show j = S.length by have := HN.out.2; omega, List.take_length])
      go_wp2
      go_ret
      exact ⟨_, rfl, by rw [← HF.out]; exact hh.out.1, hh.out.2⟩
end Go.Proofs.Ytbheegphhllogaa

/-
  OWN WORK (by mktb8.py). The law: one step of both.
-/
namespace Go.Proofs.Ytbheegphhllogaa
open Go.RowKit
set_option linter.unusedVariables false
set_option linter.unusedSimpArgs false

theorem dis_left {w : World} {F F' G : List Nat} (hn : ∀ x ∈ F, x ∉ G) (fr : Fr w F F') (lt : ∀ x ∈ G, x < w.heap.size) : ∀ x ∈ F', x ∉ G := fun x hx hm => by
  rcases fr x hx with q | q
  · exact hn x q hm
  · have := lt x hm; omega
theorem dis_right {w : World} {F G G' : List Nat} (hn : ∀ x ∈ F, x ∉ G) (fr : Fr w G G') (lt : ∀ x ∈ F, x < w.heap.size) : ∀ x ∈ F, x ∉ G' := fun x hx hm => by
  rcases fr x hm with q | q
  · exact hn x hx q
  · have := lt x hx; omega
theorem dis_swap {F G : List Nat} (hn : ∀ x ∈ F, x ∉ G) : ∀ x ∈ G, x ∉ F := fun x hx hm => hn x hm hx
theorem Rt.open_ {w : World} {g : Nat} {F : List Nat} {m : Int} {S : List RowR} (h : Rt w g F m S) : ∃ p c, w.cell? ⟨g, 1, none⟩ = some (.slice p S.length c) ∧ g ∈ F := by
  obtain ⟨v, L, h1, h2, h3, h4, rfl, h6⟩ := h
  obtain ⟨p, c, rfl⟩ := h2.shape
  exact ⟨p, c, by have q := h1.cell (j := 1) rfl; rw [← h3.length_eq] at q; exact q, by simp⟩
theorem rGetS {g : Nat} {F : List Nat} {m : Int} {S : List RowR} (b : Int) (w : World) (h : Rt w g F m S) : Calls Try.prog 27 #[.pointer (some ⟨g, 0, none⟩), .int .i64 b] w fun e w' => e = .returned (.tuple #[(rowOf (findB S b)).v, .bool (findB S b).isSome]) ∧ Kept [] w w' := by
  obtain ⟨v, L, h1, h2, h3, h4, h5, h6⟩ := h
  rw [findB_perm h4.dif h3 b]
  exact rGet b w h1 h2
theorem rByIdS {g : Nat} {F : List Nat} {m : Int} {S : List RowR} (b : Int) (w : World) (h : Rt w g F m S) : Calls Try.prog 28 #[.pointer (some ⟨g, 0, none⟩), .int .i64 b] w fun e w' => e = .returned (.tuple #[(rowOf (findI S b)).v, .bool (findI S b).isSome]) ∧ Kept [] w w' := by
  obtain ⟨v, L, h1, h2, h3, h4, h5, h6⟩ := h
  rw [findI_perm h4.dif h3 b]
  exact rById b w h1 h2
set_option maxRecDepth 20000 in
set_option maxHeartbeats 12800000 in
theorem step_any {Tb : World → Nat → List Nat → Int → List RowR → Prop} (O : TbOps Tb) {gP : Nat} {F : List Nat} {gR : Nat} {G : List Nat} {m : Int} {S : List RowR} (s : StepT) (w : World) (l : Tb w gP F m S) (r : Rt w gR G m S) (hn : ∀ x ∈ F, x ∉ G) (nn : s.i64) : Calls Try.prog 19 #[.agg #[.pointer (some ⟨gP, 0, none⟩), .pointer (some ⟨gR, 0, none⟩)], .agg #[.bool s.second, .int .i64 s.kind, .int .i64 s.r.birth, .int .i64 s.r.id, .int .i64 s.r.state, .int .i64 s.r.last, .int .i64 s.r.next, .int .i64 s.n]] w fun e w' => e = .returned (.bool true) ∧ ∃ F' G', Tb w' gP F' m (playT m S s) ∧ Rt w' gR G' m (playT m S s) ∧ (∀ x ∈ F', x ∉ G') ∧ Fr w F F' ∧ Fr w G G' ∧ Kept (F ++ G) w w' := by
  have HNN := @hideH _ nn
  have n0 : w.heap.size ∉ F ++ G := fun hm => by rcases List.mem_append.1 hm with q | q; have := O.lt l _ q; omega; have := r.lt _ q; omega
  have n1 : w.heap.size + 1 ∉ F ++ G := fun hm => by rcases List.mem_append.1 hm with q | q; have := O.lt l _ q; omega; have := r.lt _ q; omega
  obtain ⟨w1, hw1⟩ : ∃ wx, wx = w.alloc (.cells #[.pointer (some ⟨gP, 0, none⟩), .pointer (some ⟨gR, 0, none⟩)] 47) := ⟨_, rfl⟩
  have k1 : Kept [] w w1 := by rw [hw1]; exact (Kept.refl [] w).alloc _
  have B0 : Blk w1 w.heap.size 47 [.pointer (some ⟨gP, 0, none⟩), .pointer (some ⟨gR, 0, none⟩)] := by rw [hw1]; exact Blk.new w _ _
  obtain ⟨w2, hw2⟩ : ∃ wx, wx = w1.alloc (.cells #[.bool s.second, .int .i64 s.kind, .int .i64 s.r.birth, .int .i64 s.r.id, .int .i64 s.r.state, .int .i64 s.r.last, .int .i64 s.r.next, .int .i64 s.n] 49) := ⟨_, rfl⟩
  have k2 : Kept [] w1 w2 := by rw [hw2]; exact (Kept.refl [] w1).alloc _
  have B1 : Blk w2 w1.heap.size 49 [.bool s.second, .int .i64 s.kind, .int .i64 s.r.birth, .int .i64 s.r.id, .int .i64 s.r.state, .int .i64 s.r.last, .int .i64 s.r.next, .int .i64 s.n] := by rw [hw2]; exact Blk.new w1 _ _
  have e1 : w1.heap.size = w.heap.size + 1 := by rw [hw1, World.size_alloc]
  rw [e1] at B1
  have B02 := B0.kept k2 (by simp)
  have k02 := k1.then k2
  have c0 := B02.cell (j := 0) rfl
  have c1 := B02.cell (j := 1) rfl
  have d0 := B1.cell (j := 0) rfl
  have d1 := B1.cell (j := 1) rfl
  have d2 := B1.cell (j := 2) rfl
  have d3 := B1.cell (j := 3) rfl
  have d4 := B1.cell (j := 4) rfl
  have d5 := B1.cell (j := 5) rfl
  have d6 := B1.cell (j := 6) rfl
  have d7 := B1.cell (j := 7) rfl
  have HK2 := @hideH _ k02
  have HLR := @hideH _ (And.intro (O.kept l k02 (by simp)) (And.intro (r.kept k02 (by simp)) (And.intro hn (Nat.le_trans (Nat.le_refl _) k02.size))))
  clear B0 B02 B1 k1 k2 e1 l r nn k02 hn
  go_enter Try.func19, Try.ntmps19
  go_upto_region 1 with fail
  rw [← hw1, ← hw2]
  clear hw1 hw2
  by_cases q0 : s.kind = 0
  · have HP := @hideH _ (playT_put (m := m) (S := S) q0)
    rw [q0] at d1
    clear q0
    have lx := O.kept HLR.out.1 (Kept.refl [] w2).drew (by simp)
    have rx := HLR.out.2.1.kept (Kept.refl [] w2).drew (by simp)
    have kx : Kept (F ++ G) w2 w2.drew := (Kept.refl _ w2).drew
    have hq := O.put s.r _ lx HNN.out.2.1
    unfold RowR.v at hq
    have hr := fun w6 (h : Rt w6 gR G m S) => rPut s.r w6 h
    unfold RowR.v at hr
    have HZ := @hideH _ (show w.heap.size ≤ w2.drew.heap.size from HLR.out.2.2.2)
    go_upto_region 3 with fail
    go_region_held3 (fun w' => w'.cell? ⟨w.heap.size, 0, none⟩ = some (.pointer (some ⟨gP, 0, none⟩)) ∧ w'.cell? ⟨w.heap.size, 1, none⟩ = some (.pointer (some ⟨gR, 0, none⟩)) ∧ w'.cell? ⟨w.heap.size + 1, 2, none⟩ = some (.int .i64 s.r.birth) ∧ w'.cell? ⟨w.heap.size + 1, 3, none⟩ = some (.int .i64 s.r.id) ∧ w'.cell? ⟨w.heap.size + 1, 4, none⟩ = some (.int .i64 s.r.state) ∧ w'.cell? ⟨w.heap.size + 1, 5, none⟩ = some (.int .i64 s.r.last) ∧ w'.cell? ⟨w.heap.size + 1, 6, none⟩ = some (.int .i64 s.r.next))
      (first
        | (exact ⟨kx.cell c0 n0, kx.cell c1 n0, kx.cell d2 n1, kx.cell d3 n1, kx.cell d4 n1, kx.cell d5 n1, kx.cell d6 n1⟩)
        | fail)
      (first
        | (go_at_call 14; refine hq.mono ?_; clear hq; rintro e w6 ⟨F6, rfl, l6, fr6, k6⟩; replace kx := kx.trans k6 (fun x hx => .inl (List.mem_append_left _ hx)); have r6 := rx.kept k6 (dis_swap HLR.out.2.2.1); have ds6 := dis_left HLR.out.2.2.1 fr6 rx.lt; have s6 := k6.size)
        | (go_at_call 25; refine (hr _ r6).mono ?_; clear hr; rintro e w7 ⟨G7, rfl, r7, fr7, k7⟩; replace kx := kx.trans k7 (fun x hx => .inl (List.mem_append_right _ hx)); have l7 := O.kept l6 k7 ds6; have ds7 := dis_right ds6 fr7 (O.lt l6))
        | fail)
    have FIN := @hideH _ (show ∃ F' G', Tb w7 gP F' m (playT m S s) ∧ Rt w7 gR G' m (playT m S s) ∧ (∀ x ∈ F', x ∉ G') ∧ Fr w F F' ∧ Fr w G G' ∧ Kept (F ++ G) w w7 from ⟨F6, G7, by rw [HP.out]; exact l7, by rw [HP.out]; exact r7, ds7, fr6.old HZ.out, fr7.old (Nat.le_trans HZ.out s6), (HK2.out.mono (T := F ++ G) (by simp)).trans kx (fun x hx => .inl hx)⟩)
    clear kx HLR
    go_wp2
    go_ret
    exact ⟨by first | rfl | simp, FIN.out⟩
  · have q0' : (s.kind == 0) = false := by simpa using q0
    by_cases q1 : s.kind = 1
    · have HP := @hideH _ (playT_set (m := m) (S := S) q1)
      rw [q1] at d1 q0'
      clear q1 q0
      have lx := O.kept HLR.out.1 (Kept.refl [] w2).drew (by simp)
      have rx := HLR.out.2.1.kept (Kept.refl [] w2).drew (by simp)
      have kx : Kept (F ++ G) w2 w2.drew := (Kept.refl _ w2).drew
      have hq := O.set s.r _ lx HNN.out.2.1
      unfold RowR.v at hq
      have hr := fun w6 (h : Rt w6 gR G m S) => rSet s.r w6 h
      unfold RowR.v at hr
      have HZ := @hideH _ (show w.heap.size ≤ w2.drew.heap.size from HLR.out.2.2.2)
      go_upto_region 5 with fail
      go_region_held3 (fun w' => w'.cell? ⟨w.heap.size, 0, none⟩ = some (.pointer (some ⟨gP, 0, none⟩)) ∧ w'.cell? ⟨w.heap.size, 1, none⟩ = some (.pointer (some ⟨gR, 0, none⟩)) ∧ w'.cell? ⟨w.heap.size + 1, 2, none⟩ = some (.int .i64 s.r.birth) ∧ w'.cell? ⟨w.heap.size + 1, 3, none⟩ = some (.int .i64 s.r.id) ∧ w'.cell? ⟨w.heap.size + 1, 4, none⟩ = some (.int .i64 s.r.state) ∧ w'.cell? ⟨w.heap.size + 1, 5, none⟩ = some (.int .i64 s.r.last) ∧ w'.cell? ⟨w.heap.size + 1, 6, none⟩ = some (.int .i64 s.r.next))
        (first
          | (exact ⟨kx.cell c0 n0, kx.cell c1 n0, kx.cell d2 n1, kx.cell d3 n1, kx.cell d4 n1, kx.cell d5 n1, kx.cell d6 n1⟩)
          | fail)
        (first
          | (go_at_call 20; refine hq.mono ?_; clear hq; rintro e w6 ⟨F6, rfl, l6, fr6, k6⟩; replace kx := kx.trans k6 (fun x hx => .inl (List.mem_append_left _ hx)); have r6 := rx.kept k6 (dis_swap HLR.out.2.2.1); have ds6 := dis_left HLR.out.2.2.1 fr6 rx.lt; have s6 := k6.size)
          | (go_at_call 26; refine (hr _ r6).mono ?_; clear hr; rintro e w7 ⟨G7, rfl, r7, fr7, k7⟩; replace kx := kx.trans k7 (fun x hx => .inl (List.mem_append_right _ hx)); have l7 := O.kept l6 k7 ds6; have ds7 := dis_right ds6 fr7 (O.lt l6))
          | fail)
      have FIN := @hideH _ (show ∃ F' G', Tb w7 gP F' m (playT m S s) ∧ Rt w7 gR G' m (playT m S s) ∧ (∀ x ∈ F', x ∉ G') ∧ Fr w F F' ∧ Fr w G G' ∧ Kept (F ++ G) w w7 from ⟨F6, G7, by rw [HP.out]; exact l7, by rw [HP.out]; exact r7, ds7, fr6.old HZ.out, fr7.old (Nat.le_trans HZ.out s6), (HK2.out.mono (T := F ++ G) (by simp)).trans kx (fun x hx => .inl hx)⟩)
      clear kx HLR
      go_wp2
      go_ret
      exact ⟨by first | rfl | simp, FIN.out⟩
    · have q1' : (s.kind == 1) = false := by simpa using q1
      by_cases q2 : s.kind = 2
      · have HP := @hideH _ (playT_none (m := m) (S := S) q0 q1 (by omega))
        rw [q2] at d1 q0' q1'
        clear q2 q0 q1
        obtain ⟨y, hy⟩ : ∃ y, y = rowOf (findB S s.n) := ⟨_, rfl⟩
        obtain ⟨bo, hbo⟩ : ∃ bo, bo = (findB S s.n).isSome := ⟨_, rfl⟩
        have hq := O.get s.n _ HLR.out.1 HNN.out.2.2
        rw [← hy, ← hbo] at hq
        unfold RowR.v at hq
        have HQ := @hideH _ hq
        have hr := fun w6 (h : Rt w6 gR G m S) => rGetS s.n w6 h
        rw [← hy, ← hbo] at hr
        unfold RowR.v at hr
        have HRR := @hideH _ hr
        clear hq hr hy hbo
        have kx : Kept (F ++ G) w2 w2 := Kept.refl _ w2
        go_wp2_with fail
        refine HQ.out.mono ?_
        clear HQ
        rintro e w3 ⟨rfl, k3⟩
        replace kx := kx.then k3
        have r3 := HLR.out.2.1.kept k3 (by simp)
        have l3 := O.kept HLR.out.1 k3 (by simp)
        have ds3 := HLR.out.2.2.1
        obtain ⟨w4, hw4⟩ : ∃ wx, wx = w3.alloc (.cells #[.int .i64 y.birth, .int .i64 y.id, .int .i64 y.state, .int .i64 y.last, .int .i64 y.next] 24) := ⟨_, rfl⟩
        have kw4 : Kept [] w3 w4 := by rw [hw4]; exact (Kept.refl [] w3).alloc _
        have Y : Blk w4 w3.heap.size 24 y.cs := by rw [hw4]; exact Blk.new w3 _ _
        replace kx := kx.then kw4
        have l4 := O.kept l3 kw4 (by simp)
        have r4 := r3.kept kw4 (by simp)
        have y0 := Y.cell (j := 0) rfl
        have y1 := Y.cell (j := 1) rfl
        have y2 := Y.cell (j := 2) rfl
        have y3 := Y.cell (j := 3) rfl
        have y4 := Y.cell (j := 4) rfl
        have s4 : w3.heap.size < w4.heap.size := Y.lt
        have ny : w3.heap.size ∉ G := fun hm => by have := r3.lt _ hm; omega
        have s3 := k3.size
        clear Y kw4 l3 r3 k3
        go_upto_region 8 with fail
        rw [← hw4]
        clear hw4
        have c1' := kx.cell c1 n0
        have d7' := kx.cell d7 n1
        go_wp2_with fail
        refine (HRR.out _ r4).mono ?_
        clear HRR c1' d7'
        rintro e w5 ⟨rfl, k5⟩
        replace kx := kx.then k5
        have l5 := O.kept l4 k5 (by simp)
        have r5 := r4.kept k5 (by simp)
        replace y0 := k5.cell y0 (by simp)
        replace y1 := k5.cell y1 (by simp)
        replace y2 := k5.cell y2 (by simp)
        replace y3 := k5.cell y3 (by simp)
        replace y4 := k5.cell y4 (by simp)
        obtain ⟨w6, hw6⟩ : ∃ wx, wx = w5.alloc (.cells #[.int .i64 y.birth, .int .i64 y.id, .int .i64 y.state, .int .i64 y.last, .int .i64 y.next] 24) := ⟨_, rfl⟩
        have kw6 : Kept [] w5 w6 := by rw [hw6]; exact (Kept.refl [] w5).alloc _
        have Y : Blk w6 w5.heap.size 24 y.cs := by rw [hw6]; exact Blk.new w5 _ _
        replace kx := kx.then kw6
        have l6 := O.kept l5 kw6 (by simp)
        have r6 := r5.kept kw6 (by simp)
        have z0 := Y.cell (j := 0) rfl
        have z1 := Y.cell (j := 1) rfl
        have z2 := Y.cell (j := 2) rfl
        have z3 := Y.cell (j := 3) rfl
        have z4 := Y.cell (j := 4) rfl
        replace y0 := kw6.cell y0 (by simp)
        replace y1 := kw6.cell y1 (by simp)
        replace y2 := kw6.cell y2 (by simp)
        replace y3 := kw6.cell y3 (by simp)
        replace y4 := kw6.cell y4 (by simp)
        have heq := eqRow y y
        rw [decide_eq_true (rfl : y = y)] at heq
        have HZ := @hideH _ (And.intro (show w.heap.size ≤ w2.heap.size from HLR.out.2.2.2) (And.intro s3 s4))
        clear s3 s4
        clear Y kw6 l5 r5 k5 l4 r4
        go_upto_region 9 with fail
        rw [← hw6]
        clear hw6
        have FIN := @hideH _ (show ∃ F' G', Tb w6 gP F' m (playT m S s) ∧ Rt w6 gR G' m (playT m S s) ∧ (∀ x ∈ F', x ∉ G') ∧ Fr w F F' ∧ Fr w G G' ∧ Kept (F ++ G) w w6 from ⟨F, G, by rw [HP.out]; exact l6, by rw [HP.out]; exact r6, ds3, Fr.refl _ _, Fr.refl _ _, (HK2.out.mono (T := F ++ G) (by simp)).trans kx (fun x hx => .inl hx)⟩)
        clear kx HLR
        go_wp2
        go_ret
        exact ⟨by first | rfl | simp, FIN.out⟩
      · have q2' : (s.kind == 2) = false := by simpa using q2
        by_cases q3 : s.kind = 3
        · have HP := @hideH _ (playT_none (m := m) (S := S) q0 q1 (by omega))
          rw [q3] at d1 q0' q1' q2'
          clear q3 q0 q1 q2
          obtain ⟨y, hy⟩ : ∃ y, y = rowOf (findI S s.n) := ⟨_, rfl⟩
          obtain ⟨bo, hbo⟩ : ∃ bo, bo = (findI S s.n).isSome := ⟨_, rfl⟩
          have hq := O.byId s.n _ HLR.out.1 HNN.out.2.2
          rw [← hy, ← hbo] at hq
          unfold RowR.v at hq
          have HQ := @hideH _ hq
          have hr := fun w6 (h : Rt w6 gR G m S) => rByIdS s.n w6 h
          rw [← hy, ← hbo] at hr
          unfold RowR.v at hr
          have HRR := @hideH _ hr
          clear hq hr hy hbo
          have kx : Kept (F ++ G) w2 w2 := Kept.refl _ w2
          go_wp2_with fail
          refine HQ.out.mono ?_
          clear HQ
          rintro e w3 ⟨rfl, k3⟩
          replace kx := kx.then k3
          have r3 := HLR.out.2.1.kept k3 (by simp)
          have l3 := O.kept HLR.out.1 k3 (by simp)
          have ds3 := HLR.out.2.2.1
          obtain ⟨w4, hw4⟩ : ∃ wx, wx = w3.alloc (.cells #[.int .i64 y.birth, .int .i64 y.id, .int .i64 y.state, .int .i64 y.last, .int .i64 y.next] 24) := ⟨_, rfl⟩
          have kw4 : Kept [] w3 w4 := by rw [hw4]; exact (Kept.refl [] w3).alloc _
          have Y : Blk w4 w3.heap.size 24 y.cs := by rw [hw4]; exact Blk.new w3 _ _
          replace kx := kx.then kw4
          have l4 := O.kept l3 kw4 (by simp)
          have r4 := r3.kept kw4 (by simp)
          have y0 := Y.cell (j := 0) rfl
          have y1 := Y.cell (j := 1) rfl
          have y2 := Y.cell (j := 2) rfl
          have y3 := Y.cell (j := 3) rfl
          have y4 := Y.cell (j := 4) rfl
          have s4 : w3.heap.size < w4.heap.size := Y.lt
          have ny : w3.heap.size ∉ G := fun hm => by have := r3.lt _ hm; omega
          have s3 := k3.size
          clear Y kw4 l3 r3 k3
          go_upto_region 12 with fail
          rw [← hw4]
          clear hw4
          have c1' := kx.cell c1 n0
          have d7' := kx.cell d7 n1
          go_wp2_with fail
          refine (HRR.out _ r4).mono ?_
          clear HRR c1' d7'
          rintro e w5 ⟨rfl, k5⟩
          replace kx := kx.then k5
          have l5 := O.kept l4 k5 (by simp)
          have r5 := r4.kept k5 (by simp)
          replace y0 := k5.cell y0 (by simp)
          replace y1 := k5.cell y1 (by simp)
          replace y2 := k5.cell y2 (by simp)
          replace y3 := k5.cell y3 (by simp)
          replace y4 := k5.cell y4 (by simp)
          obtain ⟨w6, hw6⟩ : ∃ wx, wx = w5.alloc (.cells #[.int .i64 y.birth, .int .i64 y.id, .int .i64 y.state, .int .i64 y.last, .int .i64 y.next] 24) := ⟨_, rfl⟩
          have kw6 : Kept [] w5 w6 := by rw [hw6]; exact (Kept.refl [] w5).alloc _
          have Y : Blk w6 w5.heap.size 24 y.cs := by rw [hw6]; exact Blk.new w5 _ _
          replace kx := kx.then kw6
          have l6 := O.kept l5 kw6 (by simp)
          have r6 := r5.kept kw6 (by simp)
          have z0 := Y.cell (j := 0) rfl
          have z1 := Y.cell (j := 1) rfl
          have z2 := Y.cell (j := 2) rfl
          have z3 := Y.cell (j := 3) rfl
          have z4 := Y.cell (j := 4) rfl
          replace y0 := kw6.cell y0 (by simp)
          replace y1 := kw6.cell y1 (by simp)
          replace y2 := kw6.cell y2 (by simp)
          replace y3 := kw6.cell y3 (by simp)
          replace y4 := kw6.cell y4 (by simp)
          have heq := eqRow y y
          rw [decide_eq_true (rfl : y = y)] at heq
          have HZ := @hideH _ (And.intro (show w.heap.size ≤ w2.heap.size from HLR.out.2.2.2) (And.intro s3 s4))
          clear s3 s4
          clear Y kw6 l5 r5 k5 l4 r4
          go_upto_region 13 with fail
          rw [← hw6]
          clear hw6
          have FIN := @hideH _ (show ∃ F' G', Tb w6 gP F' m (playT m S s) ∧ Rt w6 gR G' m (playT m S s) ∧ (∀ x ∈ F', x ∉ G') ∧ Fr w F F' ∧ Fr w G G' ∧ Kept (F ++ G) w w6 from ⟨F, G, by rw [HP.out]; exact l6, by rw [HP.out]; exact r6, ds3, Fr.refl _ _, Fr.refl _ _, (HK2.out.mono (T := F ++ G) (by simp)).trans kx (fun x hx => .inl hx)⟩)
          clear kx HLR
          go_wp2
          go_ret
          exact ⟨by first | rfl | simp, FIN.out⟩
        · have q3' : (s.kind == 3) = false := by simpa using q3
          by_cases q4 : s.kind = 4
          · have HP := @hideH _ (playT_drop (m := m) (S := S) q4)
            rw [q4] at d1 q0' q1' q2' q3'
            clear q4 q0 q1 q2 q3
            obtain ⟨y, hy⟩ : ∃ y, y = rowOf (findB S s.n) := ⟨_, rfl⟩
            obtain ⟨bo, hbo⟩ : ∃ bo, bo = (findB S s.n).isSome := ⟨_, rfl⟩
            have hq := O.drop s.n _ HLR.out.1 HNN.out.2.2
            rw [← hy, ← hbo] at hq
            unfold RowR.v at hq
            have HQ := @hideH _ hq
            have hr := fun w6 (h : Rt w6 gR G m S) => rDrop s.n w6 h
            rw [← hy, ← hbo] at hr
            unfold RowR.v at hr
            have HRR := @hideH _ hr
            clear hq hr hy hbo
            have kx : Kept (F ++ G) w2 w2 := Kept.refl _ w2
            go_wp2_with fail
            refine HQ.out.mono ?_
            clear HQ
            rintro e w3 ⟨F3, rfl, l3, fr3, k3⟩
            replace kx := kx.trans k3 (fun x hx => .inl (List.mem_append_left _ hx))
            have r3 := HLR.out.2.1.kept k3 (dis_swap HLR.out.2.2.1)
            have ds3 := dis_left HLR.out.2.2.1 fr3 HLR.out.2.1.lt
            obtain ⟨w4, hw4⟩ : ∃ wx, wx = w3.alloc (.cells #[.int .i64 y.birth, .int .i64 y.id, .int .i64 y.state, .int .i64 y.last, .int .i64 y.next] 24) := ⟨_, rfl⟩
            have kw4 : Kept [] w3 w4 := by rw [hw4]; exact (Kept.refl [] w3).alloc _
            have Y : Blk w4 w3.heap.size 24 y.cs := by rw [hw4]; exact Blk.new w3 _ _
            replace kx := kx.then kw4
            have l4 := O.kept l3 kw4 (by simp)
            have r4 := r3.kept kw4 (by simp)
            have y0 := Y.cell (j := 0) rfl
            have y1 := Y.cell (j := 1) rfl
            have y2 := Y.cell (j := 2) rfl
            have y3 := Y.cell (j := 3) rfl
            have y4 := Y.cell (j := 4) rfl
            have s4 : w3.heap.size < w4.heap.size := Y.lt
            have ny : w3.heap.size ∉ G := fun hm => by have := r3.lt _ hm; omega
            have s3 := k3.size
            clear Y kw4 l3 r3 k3
            go_upto_region 16 with fail
            rw [← hw4]
            clear hw4
            have c1' := kx.cell c1 n0
            have d7' := kx.cell d7 n1
            go_wp2_with fail
            refine (HRR.out _ r4).mono ?_
            clear HRR c1' d7'
            rintro e w5 ⟨G5, rfl, r5, fr5, k5⟩
            replace kx := kx.trans k5 (fun x hx => .inl (List.mem_append_right _ hx))
            have l5 := O.kept l4 k5 ds3
            have ds5 := dis_right ds3 fr5 (O.lt l4)
            replace y0 := k5.cell y0 ny
            replace y1 := k5.cell y1 ny
            replace y2 := k5.cell y2 ny
            replace y3 := k5.cell y3 ny
            replace y4 := k5.cell y4 ny
            obtain ⟨w6, hw6⟩ : ∃ wx, wx = w5.alloc (.cells #[.int .i64 y.birth, .int .i64 y.id, .int .i64 y.state, .int .i64 y.last, .int .i64 y.next] 24) := ⟨_, rfl⟩
            have kw6 : Kept [] w5 w6 := by rw [hw6]; exact (Kept.refl [] w5).alloc _
            have Y : Blk w6 w5.heap.size 24 y.cs := by rw [hw6]; exact Blk.new w5 _ _
            replace kx := kx.then kw6
            have l6 := O.kept l5 kw6 (by simp)
            have r6 := r5.kept kw6 (by simp)
            have z0 := Y.cell (j := 0) rfl
            have z1 := Y.cell (j := 1) rfl
            have z2 := Y.cell (j := 2) rfl
            have z3 := Y.cell (j := 3) rfl
            have z4 := Y.cell (j := 4) rfl
            replace y0 := kw6.cell y0 (by simp)
            replace y1 := kw6.cell y1 (by simp)
            replace y2 := kw6.cell y2 (by simp)
            replace y3 := kw6.cell y3 (by simp)
            replace y4 := kw6.cell y4 (by simp)
            have heq := eqRow y y
            rw [decide_eq_true (rfl : y = y)] at heq
            have HZ := @hideH _ (And.intro (show w.heap.size ≤ w2.heap.size from HLR.out.2.2.2) (And.intro s3 s4))
            clear s3 s4
            clear Y kw6 l5 r5 k5 l4 r4
            go_upto_region 17 with fail
            rw [← hw6]
            clear hw6
            have FIN := @hideH _ (show ∃ F' G', Tb w6 gP F' m (playT m S s) ∧ Rt w6 gR G' m (playT m S s) ∧ (∀ x ∈ F', x ∉ G') ∧ Fr w F F' ∧ Fr w G G' ∧ Kept (F ++ G) w w6 from ⟨F3, G5, by rw [HP.out]; exact l6, by rw [HP.out]; exact r6, ds5, fr3.old HZ.out.1, fr5.old (by have := HZ.out; omega), (HK2.out.mono (T := F ++ G) (by simp)).trans kx (fun x hx => .inl hx)⟩)
            clear kx HLR
            go_wp2
            go_ret
            exact ⟨by first | rfl | simp, FIN.out⟩
          · have q4' : (s.kind == 4) = false := by simpa using q4
            by_cases q5 : s.kind = 5
            · have HP := @hideH _ (playT_none (m := m) (S := S) q0 q1 q4)
              rw [q5] at d1 q0' q1' q2' q3' q4'
              clear q5 q0 q1 q2 q3 q4
              have lx := O.kept HLR.out.1 (Kept.refl [] w2).drew (by simp)
              have rx := HLR.out.2.1.kept (Kept.refl [] w2).drew (by simp)
              have kx : Kept [] w2 w2.drew := (Kept.refl _ w2).drew
              obtain ⟨pl, cl, cL, -⟩ := HLR.out.2.1.open_
              go_upto_region 19 with fail
              go_region_held3 (fun w' => w'.cell? ⟨w.heap.size, 0, none⟩ = some (.pointer (some ⟨gP, 0, none⟩)) ∧ w'.cell? ⟨w.heap.size, 1, none⟩ = some (.pointer (some ⟨gR, 0, none⟩)) ∧ w'.cell? ⟨gR, 1, none⟩ = some (.slice pl S.length cl))
                (first
                  | (exact ⟨kx.cell c0 List.not_mem_nil, kx.cell c1 List.not_mem_nil, kx.cell cL List.not_mem_nil⟩)
                  | fail)
                (first
                  | (go_at_call 9; refine (O.rows _ lx).mono ?_; rintro e w6 ⟨v1, rfl, m6, k6⟩; replace kx := kx.then k6; replace lx := O.kept lx k6 (by simp); replace rx := rx.kept k6 (by simp); clear k6)
                  | (go_at_call 30; refine (rRows _ rx).mono ?_; rintro e w7 ⟨v2, rfl, m7, k7⟩; have m67 := m6.kept k7 (by simp); replace kx := kx.then k7; replace lx := O.kept lx k7 (by simp); replace rx := rx.kept k7 (by simp); clear k7)
                  | (go_at_call 15; refine (same_eq _ _ _ _ _ _ m67 m7).mono ?_; rintro e w8 ⟨rfl, k8⟩; replace kx := kx.then k8; replace lx := O.kept lx k8 (by simp); replace rx := rx.kept k8 (by simp); clear k8)
                  | (go_at_call 10; refine (O.count _ lx).mono ?_; rintro e w9 ⟨rfl, k9⟩; replace kx := kx.then k9; replace lx := O.kept lx k9 (by simp); replace rx := rx.kept k9 (by simp); clear k9)
                  | fail)
              have HDS := @hideH _ HLR.out.2.2.1
              replace kx := kx.mono (T := F ++ G) (by simp)
              clear m6 m7 m67 cL
              have FIN := @hideH _ (show ∃ F' G', Tb w9 gP F' m (playT m S s) ∧ Rt w9 gR G' m (playT m S s) ∧ (∀ x ∈ F', x ∉ G') ∧ Fr w F F' ∧ Fr w G G' ∧ Kept (F ++ G) w w9 from ⟨F, G, by rw [HP.out]; exact lx, by rw [HP.out]; exact rx, HDS.out, Fr.refl _ _, Fr.refl _ _, (HK2.out.mono (T := F ++ G) (by simp)).trans kx (fun x hx => .inl hx)⟩)
              clear kx HLR
              go_wp2
              go_ret
              exact ⟨by first | rfl | simp, FIN.out⟩
            · have q5' : (s.kind == 5) = false := by simpa using q5
              have HP := @hideH _ (playT_none (m := m) (S := S) q0 q1 q4)
              clear q0 q1 q2 q3 q4 q5
              go_wp2
              go_ret
              exact ⟨by first | rfl | simp, F, G, by rw [HP.out]; exact HLR.out.1, by rw [HP.out]; exact HLR.out.2.1, HLR.out.2.2.1, Fr.refl _ _, Fr.refl _ _, HK2.out.mono (by simp)⟩
end Go.Proofs.Ytbheegphhllogaa

