import Derived.Maps.OwnSet
import Derived.Test.YtpbcfkfhkenhpaaRows
import Derived.Test.YtpbcfkfhkenhpaaC4
/-
  OWN WORK. Room: what came in: four numbers; scripts.
-/
namespace Go.Proofs.Ytpbcfkfhkenhpaa
open Go.ChangeShapes Go.WideShapes Go.ChangeAt Go.RowKit Go.Deep
set_option linter.unusedVariables false
theorem four_open {H : Type} {enc : TypeId × Value → H} {W : World} {t : TypeId} {f0 f1 f2 f3 : Field} {cs : Array Value} {d : DataW H} {p : List MemPlace} (ht : Try.prog.underlying t = some (.struct #[f0, f1, f2, f3])) (hsz : cs.size = 4)
    (o : f0.offset = 0 ∧ f1.offset = 1 ∧ f2.offset = 2 ∧ f3.offset = 3) (c : Try.prog.cellsOf f0.type = 1 ∧ Try.prog.cellsOf f1.type = 1 ∧ Try.prog.cellsOf f2.type = 1 ∧ Try.prog.cellsOf f3.type = 1)
    (u : Try.prog.underlying f0.type = some (.int .i64) ∧ Try.prog.underlying f1.type = some (.int .i64) ∧ Try.prog.underlying f2.type = some (.int .i64) ∧ Try.prog.underlying f3.type = some (.int .i64))
    (h : DataW.Trod enc Try.prog W 0 (fun _ => true) true t (.agg cs) d p) : ∃ z0 z1 z2 z3 : Int, Value.agg cs = .agg #[.int .i64 z0, .int .i64 z1, .int .i64 z2, .int .i64 z3] ∧ I64 z0 ∧ I64 z1 ∧ I64 z2 ∧ I64 z3 := by
  obtain ⟨fuel, hf⟩ := h
  obtain ⟨xs, k, hk, hxy, _, hxl, hff⟩ := DataW.trod_struct ht hf
  obtain ⟨y0, y1, y2, y3, rfl⟩ := Op_of (show xs.length = 4 from hxl)
  obtain ⟨v0, v1, v2, v3, hv⟩ := Op_of (show cs.toList.length = 4 by simpa using hsz)
  have q0 := hff 0 f0 rfl
  have q1 := hff 1 f1 rfl
  have q2 := hff 2 f2 rfl
  have q3 := hff 3 f3 rfl
  obtain ⟨o0, o1, o2, o3⟩ := o
  obtain ⟨c0, c1, c2, c3⟩ := c
  simp [Value.cells, hv, o0, c0, o1, c1, o2, c2, o3, c3] at q0 q1 q2 q3
  obtain ⟨z0, e0, -, w0⟩ := DataW.trod_int u.1 q0
  obtain ⟨z1, e1, -, w1⟩ := DataW.trod_int u.2.1 q1
  obtain ⟨z2, e2, -, w2⟩ := DataW.trod_int u.2.2.1 q2
  obtain ⟨z3, e3, -, w3⟩ := DataW.trod_int u.2.2.2 q3
  simp at e0 e1 e2 e3
  subst e0 e1 e2 e3
  have hcs : cs = #[.int .i64 z0, .int .i64 z1, .int .i64 z2, .int .i64 z3] := by rw [← Array.toArray_toList (xs := cs), hv]
  subst hcs
  exact ⟨z0, z1, z2, z3, rfl, i64_of_wf w0, i64_of_wf w1, i64_of_wf w2, i64_of_wf w3⟩
theorem ops_open {H : Type} {enc : TypeId × Value → H} {W : World} {ao : Option Addr} {len cap : Nat} {d : DataW H} {p : List MemPlace} (h : DataW.Trod enc Try.prog W 0 (fun _ => true) true 32 (.slice ao len cap) d p) : ∃ ss : List OpR, ss.length = len ∧ Ops W (.slice ao len cap) ss ∧ (d = .nil ∧ len = 0 ∨ ∃ el sp, d = .slice el sp ∧ el.length = len) :=
  Op_open Try.underlying32 Try.underlying35 (by kernel_rfl) ⟨rfl, rfl, rfl, rfl⟩ ⟨by kernel_rfl, by kernel_rfl, by kernel_rfl, by kernel_rfl⟩ ⟨by kernel_rfl, by kernel_rfl, by kernel_rfl, by kernel_rfl⟩ h
theorem lives_open {H : Type} {enc : TypeId × Value → H} {W : World} {ao : Option Addr} {len cap : Nat} {d : DataW H} {p : List MemPlace} (h : DataW.Trod enc Try.prog W 0 (fun _ => true) true 40 (.slice ao len cap) d p) : ∃ ss : List LifeR, ss.length = len ∧ Lfs W (.slice ao len cap) ss ∧ (d = .nil ∧ len = 0 ∨ ∃ el sp, d = .slice el sp ∧ el.length = len) :=
  Lf_open Try.underlying40 Try.underlying44 (by kernel_rfl) ⟨rfl, rfl, rfl⟩ ⟨by kernel_rfl, by kernel_rfl, by kernel_rfl⟩ ⟨by kernel_rfl, by kernel_rfl, by kernel_rfl⟩ h
end Go.Proofs.Ytpbcfkfhkenhpaa

/-
  OWN WORK. What must be kept free (layer 17): how the landed Room lies in memory: a map of pointers, each to what one keeps and a map that counts its updates.
-/
namespace Go.Proofs.Ytpbcfkfhkenhpaa
open Go.RowKit Go.Maps Go.ChangeMaps Go.MapKept Go.WideShapes
set_option linter.unusedVariables false

theorem wf_of_i64 {k : Int} (h : I64 k) : (Lit.int .i64 k).wf = true := by
  obtain ⟨h1, h2⟩ := h
  simp [Lit.wf, IntKind.min, IntKind.max, IntKind.signed, IntKind.bits]
  omega
theorem i64_wf15 {z : Int} (h : (Lit.int .i64 z).wf = true) : I64 z := by
  have hb : -9223372036854775808 ≤ z ∧ z ≤ 9223372036854775807 := by simpa [Lit.wf, IntKind.min, IntKind.max, IntKind.signed, IntKind.bits] using h
  exact ⟨by omega, by omega⟩
theorem keyLit_int (k : Int) : WideAt.IsKeyLit (.int .i64 k) := trivial
theorem keyL : Keyed Try.prog 3 := int_keyed Try.underlying3
theorem filter_one_less {X : Type} (a : Lit) : ∀ l : List (Lit × X), l.Pairwise (fun p q => p.1 ≠ q.1) → l.length ≤ (l.filter fun p => !p.1.sameKey a).length + 1
  | [], _ => by simp
  | x :: l, h => by
    obtain ⟨h1, h2⟩ := List.pairwise_cons.1 h
    have ih := filter_one_less a l h2
    by_cases c : x.1.sameKey a = true
    · have : l.filter (fun p => !p.1.sameKey a) = l := List.filter_eq_self.2 fun p hp => by
        have e := sameKey_ne (a := p.1) (b := a) (fun e2 => by
          have ex : x.1 = a := Classical.byContradiction fun q => by rw [sameKey_ne q] at c; cases c
          exact h1 p hp (by rw [ex, e2]))
        simp [e]
      rw [List.filter_cons, if_neg (by simp [c]), this]
      simp
    · rw [List.filter_cons, if_pos (by simpa using c)]
      simp only [List.length_cons]
      omega
/-- keys that are all on a list are no more than it has -/
theorem few_in {X : Type} : ∀ (ks : List Int) (l : List (Lit × X)), l.Pairwise (fun p q => p.1 ≠ q.1) → (∀ p ∈ l, ∃ x ∈ ks, p.1 = .int .i64 x) → l.length ≤ ks.length
  | [], l, _, h => by
    cases l with
    | nil => simp
    | cons x l => obtain ⟨j, hj, _⟩ := h x (by simp); simp at hj
  | m :: ks, l, hp, h => by
    have h1 := filter_one_less (.int .i64 m) l hp
    have h2 := few_in ks (l.filter fun p => !p.1.sameKey (.int .i64 m)) (hp.sublist List.filter_sublist) fun p hpm => by
      obtain ⟨q1, q2⟩ := List.mem_filter.1 hpm
      obtain ⟨j, hj, e⟩ := h p q1
      refine ⟨j, ?_, e⟩
      rcases List.mem_cons.1 hj with ej | hj
      · rw [e, ej] at q2
        simp [Lit.sameKey] at q2
      · exact hj
    simp only [List.length_cons]
    omega
theorem own_in {R : Value → Option (DataW Unit × List MemPlace)} {w : World} {b n : Nat} {D : DataW Unit} {ks : List Int} (h : w.ownsMap Try.prog 3 R b n D) (ht : ∀ x, I64 x → Maps.has D (.int .i64 x) = true → x ∈ ks) : w.ownsMap Try.prog 3 R b ks.length D := by
  obtain ⟨es, clock, hb, F, hn, hD⟩ := h
  refine ⟨es, clock, hb, F, ?_, hD⟩
  have hl : (es.toList.map (WideElems.rg Try.prog 3 R)).length = es.size := by simp
  rw [← hl]
  refine few_in ks _ (fit_apart keyL F) fun p hp => ?_
  obtain ⟨v, hv⟩ := fit_keys F p hp
  obtain ⟨x, -, ex, hwx⟩ := Maps.keyOf_int_inv Try.underlying3 hv
  have hhas : Maps.has D p.1 = true := by
    rw [hD, has_eq, List.any_eq_true]
    exact ⟨p, ((sorted_perm _).mem_iff).2 hp, by rw [ex]; simp [Lit.sameKey]⟩
  rw [ex] at hhas
  exact ⟨x, ht x (i64_wf15 hwx) hhas, ex⟩
theorem ownsMap_kept {R : Value → Option (DataW Unit × List MemPlace)} {w w' : World} {S : List Nat} {b n : Nat} {D : DataW Unit} (h : w.ownsMap Try.prog 3 R b n D) (k : Kept S w w') (hS : b ∉ S) : w'.ownsMap Try.prog 3 R b n D := by
  have hlt := h.lt
  obtain ⟨es, clock, hb, r⟩ := h
  exact ⟨es, clock, (k.block b hlt hS).trans hb, r⟩
theorem ownsMap_blk {R : Value → Option (DataW Unit × List MemPlace)} {w : World} {g b n : Nat} {t : TypeId} {cs : List Value} {D : DataW Unit} (h1 : Blk w g t cs) (h2 : w.ownsMap Try.prog 3 R b n D) : g ≠ b := fun e => by
  obtain ⟨es, clock, hb, -⟩ := h2
  unfold Blk at h1
  rw [← e, h1] at hb
  cases hb
/-- how a pointer to a block's begin reads: the block's number, and one; 0: none -/
def ptrElem : Value → Option (DataW Unit × List MemPlace)
  | .pointer none => some (.lit (.int .i64 0), [])
  | .pointer (some ⟨b, 0, none⟩) => some (.lit (.int .i64 ((b : Int) + 1)), [])
  | _ => none
theorem ptrElem_zero : ptrElem (.pointer none) = some (.lit (.int .i64 0), []) := rfl
theorem ptrElem_some (b : Nat) : ptrElem (.pointer (some ⟨b, 0, none⟩)) = some (.lit (.int .i64 ((b : Int) + 1)), []) := rfl
theorem ptrElem_inv {v : Value} {s : Nat} {ps : List MemPlace} (h : ptrElem v = some (.lit (.int .i64 ((s : Int) + 1)), ps)) : v = .pointer (some ⟨s, 0, none⟩) := by
  unfold ptrElem at h
  split at h
  · simp at h; omega
  · rename_i b
    simp at h
    obtain ⟨h1, -⟩ := h
    have : b = s := by omega
    rw [this]
  · cases h
theorem ptrElem_inv0 {v : Value} {ps : List MemPlace} (h : ptrElem v = some (.lit (.int .i64 0), ps)) : v = .pointer none := by
  unfold ptrElem at h
  split at h
  · rfl
  · rename_i b
    simp at h
    omega
  · cases h
section
variable {P : Program} (w : World) {ops : Array Oper} {rest : List Oper} {o : Oper} {a : Act} {Q : Exit → Act → World → Prop}
theorem wpList_lookup_there (hg : o.guard = none) (m x : Operand) (t : TypeId) (hop : o.op = Op.lookup t m x true)
    (k e : TypeId) (K : Keyed P k) (ht : P.underlying t = some (.map k e)) (hz : (zeroValue e).run P w = .ok (.pointer none) w) (b n : Nat) (D : DataW Unit)
    (hm : a.eval m = .map (some b)) (hown : w.ownsMap P k ptrElem b n D) (key : Value) (kl : Lit) (hx : a.eval x = key) (hkey : keyOf P k key = some kl) (s : Nat) (hhas : Maps.has D kl = true) (hat : D.atKey kl (.lit (.int .i64 0)) = .lit (.int .i64 ((s : Int) + 1)))
    (hK : wpList P ops Q rest (a.put o.dst (.tuple #[.pointer (some ⟨s, 0, none⟩), .bool true])) w) :
    wpList P ops Q (o :: rest) a w :=
  wpList_lookup_own_ok w hg m x t hop k e K ht ptrElem hz (.lit (.int .i64 0)) [] ptrElem_zero b n D hm hown key kl hx hkey (fun v ps hv => by
    rw [hat] at hv
    rw [ptrElem_inv hv, hhas]
    exact hK)
theorem wpList_lookup_gone (hg : o.guard = none) (m x : Operand) (t : TypeId) (hop : o.op = Op.lookup t m x true)
    (k e : TypeId) (K : Keyed P k) (ht : P.underlying t = some (.map k e)) (hz : (zeroValue e).run P w = .ok (.pointer none) w) (b n : Nat) (D : DataW Unit)
    (hm : a.eval m = .map (some b)) (hown : w.ownsMap P k ptrElem b n D) (key : Value) (kl : Lit) (hx : a.eval x = key) (hkey : keyOf P k key = some kl) (hhas : Maps.has D kl = false) (hat : D.atKey kl (.lit (.int .i64 0)) = .lit (.int .i64 0))
    (hK : wpList P ops Q rest (a.put o.dst (.tuple #[.pointer none, .bool false])) w) :
    wpList P ops Q (o :: rest) a w :=
  wpList_lookup_own_ok w hg m x t hop k e K ht ptrElem hz (.lit (.int .i64 0)) [] ptrElem_zero b n D hm hown key kl hx hkey (fun v ps hv => by
    rw [hat] at hv
    rw [ptrElem_inv0 hv, hhas]
    exact hK)
end
/-- what counts the updates -/
structure Cnt (D : DataW Unit) (u : List Int) : Prop where
  has : ∀ k : Int, I64 k → Maps.has D (.int .i64 k) = decide (k ∈ u)
  atk : ∀ k : Int, I64 k → D.atKey (.int .i64 k) (.lit (.int .i64 0)) = .lit (.int .i64 (u.count k : Int))
theorem Cnt.nil : Cnt (.map []) [] := ⟨fun k _ => by rw [decide_eq_false (by simp)]; rfl, fun k _ => by rw [List.count_nil]; rfl⟩
theorem Cnt.put {D : DataW Unit} {u : List Int} (h : Cnt D u) (hD : IsMap D) (n : Int) : Cnt (D.put (.int .i64 n) (.lit (.int .i64 ((u.count n : Int) + 1)))) (u ++ [n]) := by
  refine ⟨fun k hk => ?_, fun k hk => ?_⟩
  · by_cases e : k = n
    · rw [e, has_put_same hD (keyLit_int _)]; simp
    · rw [has_put_other (by simpa using e), h.has k hk]; simp [e]
  · by_cases e : k = n
    · rw [e, atKey_put_same hD (keyLit_int _), List.count_append]; simp
    · rw [atKey_put_other (by simpa using e), h.atk k hk, List.count_append]
      simp [Ne.symm e]
theorem Cnt.less {D : DataW Unit} {u : List Int} (h : Cnt D u) (hD : IsMap D) {n : Int} (hn : 1 < u.count n) : Cnt (D.put (.int .i64 n) (.lit (.int .i64 ((u.count n : Int) - 1)))) (u.erase n) := by
  have hm : n ∈ u := List.count_pos_iff.1 (by omega)
  have c1 : (u.erase n).count n = u.count n - 1 := List.count_erase_self
  refine ⟨fun k hk => ?_, fun k hk => ?_⟩
  · by_cases e : k = n
    · rw [e, has_put_same hD (keyLit_int _), decide_eq_true (List.count_pos_iff.1 (by omega))]
    · rw [has_put_other (by simpa using e), h.has k hk]
      simp [List.mem_erase_of_ne e]
  · by_cases e : k = n
    · rw [e, atKey_put_same hD (keyLit_int _), c1]
      congr 2
      omega
    · rw [atKey_put_other (by simpa using e), h.atk k hk, List.count_erase_of_ne e]
theorem Cnt.last {D : DataW Unit} {u : List Int} (h : Cnt D u) (hD : IsMap D) {n : Int} (hn : u.count n = 1) (d : DataW Unit) : Cnt ((D.put (.int .i64 n) d).del (.int .i64 n)) (u.erase n) := by
  have c1 : (u.erase n).count n = 0 := by rw [List.count_erase_self, hn]
  refine ⟨fun k hk => ?_, fun k hk => ?_⟩
  · by_cases e : k = n
    · rw [e, has_del_same, decide_eq_false (fun q => by have := List.count_pos_iff.2 q; omega)]
    · rw [has_del_other (by simpa using e), has_put_other (by simpa using e), h.has k hk]
      simp [List.mem_erase_of_ne e]
  · by_cases e : k = n
    · rw [e, atKey_del_same, c1]; rfl
    · rw [atKey_del_other (by simpa using e), atKey_put_other (by simpa using e), h.atk k hk, List.count_erase_of_ne e]
theorem Cnt.own {w : World} {m n : Nat} {D : DataW Unit} {u : List Int} (h : Cnt D u) (ho : w.ownsMap Try.prog 3 (plainElem Try.prog 3) m n D) : w.ownsMap Try.prog 3 (plainElem Try.prog 3) m u.length D := own_in ho fun x hx e => by rw [h.has x hx] at e; exact of_decide_eq_true e
/-- what the map of transactions tells: where each one's share lies -/
structure Opn (D : DataW Unit) (T : List Tx) (S : Int → Nat) : Prop where
  has : ∀ k : Int, I64 k → Maps.has D (.int .i64 k) = (findT T k).isSome
  atk : ∀ k : Int, I64 k → D.atKey (.int .i64 k) (.lit (.int .i64 0)) = .lit (.int .i64 (if (findT T k).isSome = true then (S k : Int) + 1 else 0))
theorem Opn.own {w : World} {m n : Nat} {D : DataW Unit} {T : List Tx} {S : Int → Nat} (h : Opn D T S) (ho : w.ownsMap Try.prog 3 ptrElem m n D) : w.ownsMap Try.prog 3 ptrElem m T.length D := by
  have q := own_in (ks := T.map Tx.b) ho fun x hx e => by
    rw [h.has x hx] at e
    obtain ⟨t, ht⟩ := Option.isSome_iff_exists.1 e
    obtain ⟨h1, h2⟩ := findT_some ht
    exact List.mem_map.2 ⟨t, h1, h2⟩
  simpa using q
theorem Opn.nil (S : Int → Nat) : Opn (.map []) [] S := ⟨fun k _ => rfl, fun k _ => rfl⟩
theorem find_setU (T : List Tx) (k : Int) (u : List Int) (j : Int) : (findT (setU T k u) j).isSome = (findT T j).isSome := by
  induction T with
  | nil => rfl
  | cons x r ih =>
    unfold findT setU at *
    simp only [List.map_cons, List.find?_cons]
    have e : ((if x.b = k then (⟨k, u⟩ : Tx) else x).b == j) = (x.b == j) := by
      split
      · rename_i c; rw [c]
      · rfl
    rw [e]
    split
    · rfl
    · exact ih
theorem Opn.setU {D : DataW Unit} {T : List Tx} {S : Int → Nat} (h : Opn D T S) (k : Int) (u : List Int) : Opn D (setU T k u) S := ⟨fun j hj => by rw [find_setU]; exact h.has j hj, fun j hj => by rw [find_setU]; exact h.atk j hj⟩
theorem find_app (T : List Tx) (k j : Int) : (findT (T ++ [⟨k, []⟩]) j).isSome = ((findT T j).isSome || k == j) := by
  unfold findT
  rw [List.find?_append]
  cases h : T.find? fun x => x.b == j with
  | some t => simp
  | none =>
    by_cases e : k = j
    · simp [e]
    · simp [e]
def upS (S : Int → Nat) (k : Int) (s : Nat) (j : Int) : Nat := if j = k then s else S j
theorem Opn.put {D : DataW Unit} {T : List Tx} {S : Int → Nat} (h : Opn D T S) (hD : IsMap D) (k : Int) (s : Nat) : Opn (D.put (.int .i64 k) (.lit (.int .i64 ((s : Int) + 1)))) (T ++ [⟨k, []⟩]) (upS S k s) := by
  refine ⟨fun j hj => ?_, fun j hj => ?_⟩
  · rw [find_app]
    by_cases e : j = k
    · rw [e, has_put_same hD (keyLit_int _)]; simp
    · rw [has_put_other (by simpa using e), h.has j hj]; simp [Ne.symm e]
  · rw [find_app]
    by_cases e : j = k
    · rw [e, atKey_put_same hD (keyLit_int _)]; simp [upS]
    · rw [atKey_put_other (by simpa using e), h.atk j hj]; simp [upS, e, Ne.symm e]
theorem find_drop (T : List Tx) (k j : Int) : (findT (dropL T k) j).isSome = ((findT T j).isSome && j != k) := by
  induction T with
  | nil => rfl
  | cons x r ih =>
    unfold findT dropL at *
    by_cases c : x.b = k
    · rw [List.filter_cons, if_neg (by simp [c]), ih, List.find?_cons]
      by_cases e : x.b = j
      · have ejk : j = k := by rw [← e, c]
        simp [ejk]
      · have : (x.b == j) = false := by simpa using e
        rw [this]
    · rw [List.filter_cons, if_pos (by simpa using c), List.find?_cons, List.find?_cons]
      by_cases e : x.b = j
      · have ejk : j ≠ k := by rw [← e]; exact c
        have : (x.b == j) = true := by simpa using e
        rw [this]
        simp [ejk]
      · have : (x.b == j) = false := by simpa using e
        rw [this]
        exact ih
theorem Opn.del {D : DataW Unit} {T : List Tx} {S : Int → Nat} (h : Opn D T S) (k : Int) : Opn (D.del (.int .i64 k)) (dropL T k) S := by
  refine ⟨fun j hj => ?_, fun j hj => ?_⟩
  · rw [find_drop]
    by_cases e : j = k
    · rw [e, has_del_same]; simp
    · rw [has_del_other (by simpa using e), h.has j hj]; simp [e]
  · rw [find_drop]
    by_cases e : j = k
    · rw [e, atKey_del_same]; simp
    · rw [atKey_del_other (by simpa using e), h.atk j hj]; simp [e]
/-- what one keeps, at s; its map, at m -/
structure Sh (w : World) (s m : Nat) (t : Tx) : Prop where
  box : Blk w s 60 [.int .i64 t.sum, .map (some m)]
  own : ∃ D, w.ownsMap Try.prog 3 (plainElem Try.prog 3) m t.u.length D ∧ Cnt D t.u
theorem Sh.kept {w w' : World} {s m : Nat} {t : Tx} {X : List Nat} (h : Sh w s m t) (k : Kept X w w') (hs : s ∉ X) (hm : m ∉ X) : Sh w' s m t := by
  obtain ⟨D, h1, h2⟩ := h.own
  exact ⟨h.box.kept k hs, D, ownsMap_kept h1 k hm, h2⟩
theorem Sh.ne {w : World} {s m : Nat} {t : Tx} (h : Sh w s m t) : s ≠ m := by
  obtain ⟨D, h1, h2⟩ := h.own
  exact ownsMap_blk h.box h1
structure RqP (w : World) (g b : Nat) (F : List Nat) (a : Int) (T : List Tx) (D : DataW Unit) (S M : Int → Nat) : Prop where
  box : Blk w g 54 [.int .i64 a, .int .i64 (keptT T), .map (some b)]
  own : w.ownsMap Try.prog 3 ptrElem b T.length D
  tel : Opn D T S
  shs : ∀ t ∈ T, Sh w (S t.b) (M t.b) t
  ok : OkR T
  far : ∀ t ∈ T, g ≠ S t.b ∧ g ≠ M t.b ∧ b ≠ S t.b ∧ b ≠ M t.b
  apt : ∀ t ∈ T, ∀ t' ∈ T, t.b ≠ t'.b → S t.b ≠ S t'.b ∧ S t.b ≠ M t'.b ∧ M t.b ≠ M t'.b
  inF : g ∈ F ∧ b ∈ F ∧ ∀ t ∈ T, S t.b ∈ F ∧ M t.b ∈ F
  ltF : ∀ x ∈ F, x < w.heap.size
theorem RqP.kept {w w' : World} {g b : Nat} {F : List Nat} {a : Int} {T : List Tx} {D : DataW Unit} {S M : Int → Nat} {X : List Nat} (h : RqP w g b F a T D S M) (k : Kept X w w') (hX : ∀ x ∈ F, x ∉ X) : RqP w' g b F a T D S M :=
  ⟨h.box.kept k (hX _ h.inF.1), ownsMap_kept h.own k (hX _ h.inF.2.1), h.tel, fun t ht => (h.shs t ht).kept k (hX _ (h.inF.2.2 t ht).1) (hX _ (h.inF.2.2 t ht).2), h.ok, h.far, h.apt, h.inF, fun x hx => by have := h.ltF x hx; have := k.size; omega⟩
theorem RqP.ne {w : World} {g b : Nat} {F : List Nat} {a : Int} {T : List Tx} {D : DataW Unit} {S M : Int → Nat} (h : RqP w g b F a T D S M) : g ≠ b := ownsMap_blk h.box h.own
theorem mem_setU {T : List Tx} {k : Int} {u : List Int} {x : Tx} (h : x ∈ setU T k u) : x = ⟨k, u⟩ ∨ (x ∈ T ∧ x.b ≠ k) := by
  obtain ⟨y, hy, e⟩ := List.mem_map.1 h
  by_cases c : y.b = k
  · rw [if_pos c] at e; exact .inl e.symm
  · rw [if_neg c] at e; subst e; exact .inr ⟨hy, c⟩
theorem setU_b {T : List Tx} {k : Int} {u : List Int} {x : Tx} (h : x ∈ setU T k u) : ∃ y ∈ T, y.b = x.b := by
  obtain ⟨y, hy, e⟩ := List.mem_map.1 h
  refine ⟨y, hy, ?_⟩
  by_cases c : y.b = k
  · rw [if_pos c] at e; rw [← e, c]
  · rw [if_neg c] at e; rw [e]
theorem RqP.upd {w w' : World} {g b : Nat} {F : List Nat} {a : Int} {T : List Tx} {D : DataW Unit} {S M : Int → Nat} (h : RqP w g b F a T D S M) {k : Int} {t : Tx} (hf : findT T k = some t) {u : List Int} (kk : Kept [g, S k, M k] w w')
    (hb : Blk w' g 54 [.int .i64 a, .int .i64 (keptT (setU T k u)), .map (some b)]) (hs : Sh w' (S k) (M k) ⟨k, u⟩) (hok : OkR (setU T k u)) : RqP w' g b F a (setU T k u) D S M := by
  obtain ⟨hm, hk⟩ := findT_some hf
  have f := h.far t hm
  rw [hk] at f
  refine ⟨hb, ?_, h.tel.setU k u, fun x hx => ?_, hok, fun x hx => ?_, fun x hx y hy => ?_, ⟨h.inF.1, h.inF.2.1, fun x hx => ?_⟩, fun x hx => by have := h.ltF x hx; have := kk.size; omega⟩
  · have q := ownsMap_kept h.own kk (by have := h.ne; simp [f.2.2.1, f.2.2.2, Ne.symm this])
    rw [show (Go.Proofs.Ytpbcfkfhkenhpaa.setU T k u).length = T.length by simp [Go.Proofs.Ytpbcfkfhkenhpaa.setU]]
    exact q
  · rcases mem_setU hx with rfl | ⟨hx, c⟩
    · exact hs
    · have f' := h.far x hx
      have e1 := h.apt x hx t hm (by rw [hk]; exact c)
      have e2 := h.apt t hm x hx (by rw [hk]; exact Ne.symm c)
      rw [hk] at e1 e2
      refine (h.shs x hx).kept kk ?_ ?_
      · simp only [List.mem_cons, List.not_mem_nil, or_false, not_or]
        exact ⟨Ne.symm f'.1, e1.1, e1.2.1⟩
      · simp only [List.mem_cons, List.not_mem_nil, or_false, not_or]
        exact ⟨Ne.symm f'.2.1, Ne.symm e2.2.1, e1.2.2⟩
  · obtain ⟨y, hy, e⟩ := setU_b hx
    rw [← e]; exact h.far y hy
  · obtain ⟨x', hx', e⟩ := setU_b hx
    obtain ⟨y', hy', e'⟩ := setU_b hy
    rw [← e, ← e']; exact h.apt x' hx' y' hy'
  · obtain ⟨y, hy, e⟩ := setU_b hx
    rw [← e]; exact h.inF.2.2 y hy
/-- at g lies a Room for the area a that tells T, in the blocks F -/
def Rq (w : World) (g : Nat) (F : List Nat) (a : Int) (T : List Tx) : Prop := ∃ b D S M, RqP w g b F a T D S M
theorem Rq.kept {w w' : World} {g : Nat} {F : List Nat} {a : Int} {T : List Tx} {X : List Nat} (h : Rq w g F a T) (k : Kept X w w') (hX : ∀ x ∈ F, x ∉ X) : Rq w' g F a T := by
  obtain ⟨b, D, S, M, h⟩ := h
  exact ⟨b, D, S, M, h.kept k hX⟩
end Go.Proofs.Ytpbcfkfhkenhpaa

/-
  OWN WORK. The landed room (layer 17): keep, New, Of, Kept.
-/
namespace Go.Proofs.Ytpbcfkfhkenhpaa
open Go.RowKit Go.Maps
set_option linter.unusedVariables false
set_option linter.unusedSimpArgs false

theorem zeroI (w : World) : (zeroValue 3).run Try.prog w = .ok (.int .i64 0) w := by
  go_simp
  try rfl
theorem zeroP (w : World) : (zeroValue 56).run Try.prog w = .ok (.pointer none) w := by
  go_simp
  try rfl
theorem qKeep {g s b m : Nat} {a K x : Int} (n : Int) (w : World) (hB : Blk w g 54 [.int .i64 a, .int .i64 K, .map (some b)]) (hS : Blk w s 60 [.int .i64 x, .map (some m)]) (hne : g ≠ s) (h1 : IntKind.i64.wrap (x + n) = x + n) (h2 : IntKind.i64.wrap (K + n) = K + n) :
    Calls Try.prog 23 #[.pointer (some ⟨g, 0, none⟩), .pointer (some ⟨s, 0, none⟩), .int .i64 n] w fun e w' => e = .returned (.tuple #[]) ∧ Blk w' g 54 [.int .i64 a, .int .i64 (K + n), .map (some b)] ∧ Blk w' s 60 [.int .i64 (x + n), .map (some m)] ∧ Kept [g, s] w w' := by
  have c1 := hS.cell (j := 0) rfl
  have f1 := hS.free 0
  obtain ⟨w1, hw1⟩ : ∃ wx, wx = w.setCell ⟨s, 0, none⟩ (.int .i64 (x + n)) := ⟨_, rfl⟩
  obtain ⟨q1, q2⟩ := hS.set 0 (.int .i64 (x + n))
  rw [← hw1] at q1 q2
  have hB1 := hB.kept q2 (by simpa using hne)
  have c2 := hB.cell (j := 1) rfl
  have f2 := hB.free 1
  obtain ⟨w2, hw2⟩ : ∃ wx, wx = w1.setCell ⟨g, 1, none⟩ (.int .i64 (K + n)) := ⟨_, rfl⟩
  obtain ⟨q3, q4⟩ := hB1.set 1 (.int .i64 (K + n))
  rw [← hw2] at q3 q4
  have HH := @hideH _ (And.intro q3 (And.intro (q1.kept q4 (by simpa using Ne.symm hne)) ((q2.mono (T := [g, s]) (by simp)).trans q4 (fun x hx => .inl (by simp at hx; simp [hx])))))
  clear q1 q2 q3 q4 hB1 hB hS
  go_enter Try.func23, Try.ntmps23
  go_wp2
  rw [← hw1, ← hw2]
  go_end0
  exact ⟨rfl, HH.out⟩
theorem qNew (a : Int) (w : World) : Calls Try.prog 10 #[.int .i64 a] w fun e w' => ∃ g F, e = .returned (.pointer (some ⟨g, 0, none⟩)) ∧ Rq w' g F a [] ∧ (∀ x ∈ F, w.heap.size ≤ x) ∧ Kept [] w w' := by
  obtain ⟨w1, hw1⟩ : ∃ wx, wx = w.alloc (.map #[] 0) := ⟨_, rfl⟩
  obtain ⟨w2, hw2⟩ : ∃ wx, wx = w1.alloc (.cells #[.int .i64 a, .int .i64 0, .map (some w.heap.size)] 54) := ⟨_, rfl⟩
  have z1 : w1.heap.size = w.heap.size + 1 := by rw [hw1, World.size_alloc]
  have z2 : w2.heap.size = w.heap.size + 2 := by rw [hw2, World.size_alloc, z1]
  have k1 : Kept [] w w1 := by rw [hw1]; exact (Kept.refl [] w).alloc _
  have k2 : Kept [] w1 w2 := by rw [hw2]; exact (Kept.refl [] w1).alloc _
  have o1 : w1.ownsMap Try.prog 3 ptrElem w.heap.size 0 (.map []) := by rw [hw1]; exact World.ownsMap_made w _ _ _
  have B2 : Blk w2 w1.heap.size 54 [.int .i64 a, .int .i64 0, .map (some w.heap.size)] := by rw [hw2]; exact Blk.new w1 _ _
  rw [z1] at B2
  have HL := @hideH _ (show Rq w2 (w.heap.size + 1) [w.heap.size + 1, w.heap.size] a [] from ⟨w.heap.size, .map [], fun _ => 0, fun _ => 0, B2, ownsMap_kept o1 k2 (by simp), Opn.nil _, by simp, OkR.nil, by simp, by simp, by simp, fun x hx => by simp at hx; omega⟩)
  have HK := @hideH _ (k1.then k2)
  clear o1 B2 k1 k2 z2
  have hmm : ∀ w : World, (Instr.makeMap 52 none).run Try.prog w = .ok (.map (some w.heap.size)) (w.alloc (.map #[] 0)) := fun w => rfl
  go_enter Try.func10, Try.ntmps10
  go_wp2
  rw [← hw1, ← hw2]
  go_ret
  exact ⟨w.heap.size + 1, [w.heap.size + 1, w.heap.size], by first | rfl | simp, HL.out, fun x hx => by simp at hx; omega, HK.out⟩
theorem qKept {g : Nat} {F : List Nat} {a : Int} {T : List Tx} (w : World) (h : Rq w g F a T) : Calls Try.prog 16 #[.pointer (some ⟨g, 0, none⟩)] w fun e w' => e = .returned (.int .i64 (keptT T)) ∧ Kept [] w w' := by
  obtain ⟨b, D, S, M, h⟩ := h
  have c1 := h.box.cell (j := 1) rfl
  clear h
  go_enter Try.func16, Try.ntmps16
  go_wp2
  go_ret
  exact ⟨rfl, Kept.refl _ _⟩
theorem Opn.there {D : DataW Unit} {T : List Tx} {S : Int → Nat} (h : Opn D T S) {k : Int} (hk : I64 k) {t : Tx} (ht : findT T k = some t) : Maps.has D (.int .i64 k) = true ∧ D.atKey (.int .i64 k) (.lit (.int .i64 0)) = .lit (.int .i64 ((S k : Int) + 1)) := by
  refine ⟨by rw [h.has k hk, ht]; rfl, by rw [h.atk k hk, ht]; rfl⟩
theorem Opn.gone {D : DataW Unit} {T : List Tx} {S : Int → Nat} (h : Opn D T S) {k : Int} (hk : I64 k) (ht : findT T k = none) : Maps.has D (.int .i64 k) = false ∧ D.atKey (.int .i64 k) (.lit (.int .i64 0)) = .lit (.int .i64 0) := by
  refine ⟨by rw [h.has k hk, ht]; rfl, by rw [h.atk k hk, ht]; rfl⟩
theorem qOf {g : Nat} {F : List Nat} {a : Int} {T : List Tx} (k : Int) (w : World) (h : Rq w g F a T) (hk : I64 k) : Calls Try.prog 15 #[.pointer (some ⟨g, 0, none⟩), .int .i64 k] w fun e w' => e = .returned (.int .i64 (ofT T k)) ∧ Kept [] w w' := by
  obtain ⟨b, D, S, M, h⟩ := h
  have c2 := h.box.cell (j := 2) rfl
  have hO := h.own
  have hkey := keyOf_int_mk (P := Try.prog) (k := 3) Try.underlying3 (wf_of_i64 hk)
  cases hf : findT T k with
  | none =>
    obtain ⟨h1, h2⟩ := h.tel.gone hk hf
    have HE := @hideH _ (show ofT T k = 0 by simp [ofT, hf, sumO])
    clear h hf
    go_enter Try.func15, Try.ntmps15
    go_wp2_with (at_lookup; refine wpList_lookup_gone w rfl _ _ 52 rfl 3 56 keyL Try.underlying52 (zeroP _) b T.length D rfl hO _ _ rfl hkey h1 h2 ?_)
    try go_wp2
    go_ret
    exact ⟨by rw [HE.out]; rfl, Kept.refl _ _⟩
  | some t =>
    obtain ⟨h1, h2⟩ := h.tel.there hk hf
    obtain ⟨hm, hb⟩ := findT_some hf
    have hs := (h.shs t hm).box
    rw [hb] at hs
    have c3 := hs.cell (j := 0) rfl
    have HE := @hideH _ (show ofT T k = t.sum by simp [ofT, hf, sumO])
    clear h hf hs hb hm
    go_enter Try.func15, Try.ntmps15
    go_wp2_with (at_lookup; refine wpList_lookup_there w rfl _ _ 52 rfl 3 56 keyL Try.underlying52 (zeroP _) b T.length D rfl hO _ _ rfl hkey (S k) h1 h2 ?_)
    try go_wp2
    go_ret
    exact ⟨by rw [HE.out]; rfl, Kept.refl _ _⟩
end Go.Proofs.Ytpbcfkfhkenhpaa

/-
  OWN WORK. The landed room (layer 17): Begin, Drop.
-/
namespace Go.Proofs.Ytpbcfkfhkenhpaa
open Go.RowKit Go.Maps
set_option linter.unusedVariables false
set_option linter.unusedSimpArgs false

theorem RqP.add {w w' : World} {g b : Nat} {F : List Nat} {a : Int} {T : List Tx} {D : DataW Unit} {S M : Int → Nat} (h : RqP w g b F a T D S M) {k : Int} (hf : findT T k = none) {s m n : Nat} (hs : w.heap.size ≤ s) (hm : w.heap.size ≤ m) (hne : s ≠ m) (kk : Kept [g, b] w w')
    (hb : Blk w' g 54 [.int .i64 a, .int .i64 (keptT T + 99), .map (some b)]) (ho : w'.ownsMap Try.prog 3 ptrElem b n (D.put (.int .i64 k) (.lit (.int .i64 ((s : Int) + 1))))) (hsh : Sh w' s m ⟨k, []⟩) (hz : szT T < 4398046511104) :
    RqP w' g b (s :: m :: F) a (T ++ [⟨k, []⟩]) (D.put (.int .i64 k) (.lit (.int .i64 ((s : Int) + 1)))) (upS S k s) (upS M k m) := by
  have tn := h.tel.put h.own.isMap k s
  have nk := findT_none.1 hf
  have eS : ∀ t ∈ T, upS S k s t.b = S t.b := fun t ht => by simp [upS, nk t ht]
  have eM : ∀ t ∈ T, upS M k m t.b = M t.b := fun t ht => by simp [upS, nk t ht]
  have eSk : upS S k s k = s := by simp [upS]
  have eMk : upS M k m k = m := by simp [upS]
  have lt : ∀ t ∈ T, S t.b < w.heap.size ∧ M t.b < w.heap.size := fun t ht => ⟨h.ltF _ (h.inF.2.2 t ht).1, h.ltF _ (h.inF.2.2 t ht).2⟩
  have lg := h.ltF _ h.inF.1
  have lb := h.ltF _ h.inF.2.1
  refine ⟨?_, tn.own ho, tn, fun t ht => ?_, ?_, fun t ht => ?_, fun t ht t' ht' hd => ?_, ⟨by simp [h.inF.1], by simp [h.inF.2.1], fun t ht => ?_⟩, fun x hx => ?_⟩
  · rw [keptT_append]; simpa [keptT, Tx.sum, sumU] using hb
  · rcases List.mem_append.1 ht with ht | ht
    · rw [eS t ht, eM t ht]
      have f := h.far t ht
      exact (h.shs t ht).kept kk (by simp [Ne.symm f.1, Ne.symm f.2.2.1]) (by simp [Ne.symm f.2.1, Ne.symm f.2.2.2])
    · simp at ht; subst ht
      rw [eSk, eMk]; exact hsh
  · have q := h.ok.beg k hz
    rw [(beg_new hf).2] at q
    exact q
  · rcases List.mem_append.1 ht with ht | ht
    · rw [eS t ht, eM t ht]; exact h.far t ht
    · simp at ht; subst ht
      rw [eSk, eMk]
      exact ⟨by omega, by omega, by omega, by omega⟩
  · rcases List.mem_append.1 ht with ht | ht
    · rcases List.mem_append.1 ht' with ht' | ht'
      · rw [eS t ht, eM t ht, eS t' ht', eM t' ht']; exact h.apt t ht t' ht' hd
      · simp at ht'; subst ht'
        have := lt t ht
        rw [eS t ht, eM t ht, eSk, eMk]
        exact ⟨by omega, by omega, by omega⟩
    · simp at ht; subst ht
      rcases List.mem_append.1 ht' with ht' | ht'
      · have := lt t' ht'
        rw [eS t' ht', eM t' ht', eSk, eMk]
        exact ⟨by omega, by omega, by omega⟩
      · simp at ht'; subst ht'
        exact absurd rfl hd
  · rcases List.mem_append.1 ht with ht | ht
    · rw [eS t ht, eM t ht]; have := h.inF.2.2 t ht; simp [this]
    · simp at ht; subst ht
      rw [eSk, eMk]; simp
  · have := kk.size
    rcases List.mem_cons.1 hx with rfl | hx
    · exact hsh.box.lt
    · rcases List.mem_cons.1 hx with rfl | hx
      · obtain ⟨D', q, -⟩ := hsh.own; exact q.lt
      · have := h.ltF x hx; omega
theorem RqP.drop {w w' : World} {g b : Nat} {F : List Nat} {a : Int} {T : List Tx} {D : DataW Unit} {S M : Int → Nat} (h : RqP w g b F a T D S M) {k : Int} {t : Tx} (hf : findT T k = some t) {n : Nat} (kk : Kept [g, b, S k] w w')
    (hb : Blk w' g 54 [.int .i64 a, .int .i64 (keptT T - t.sum), .map (some b)]) (ho : w'.ownsMap Try.prog 3 ptrElem b n (D.del (.int .i64 k))) : RqP w' g b F a (dropL T k) (D.del (.int .i64 k)) S M := by
  obtain ⟨hm, hk⟩ := findT_some hf
  have tn := h.tel.del k
  have mem : ∀ x ∈ dropL T k, x ∈ T ∧ x.b ≠ k := fun x hx => by
    obtain ⟨h1, h2⟩ := List.mem_filter.1 hx
    exact ⟨h1, by simpa using h2⟩
  refine ⟨by rw [(drop_sums h.ok hf).1]; exact hb, tn.own ho, tn, fun x hx => ?_, h.ok.drp k, fun x hx => h.far x (mem x hx).1, fun x hx y hy => h.apt x (mem x hx).1 y (mem y hy).1, ⟨h.inF.1, h.inF.2.1, fun x hx => h.inF.2.2 x (mem x hx).1⟩, fun x hx => by have := h.ltF x hx; have := kk.size; omega⟩
  obtain ⟨hx, hxk⟩ := mem x hx
  have f := h.far x hx
  have e1 := h.apt x hx t hm (by rw [hk]; exact hxk)
  have e2 := h.apt t hm x hx (by rw [hk]; exact Ne.symm hxk)
  rw [hk] at e1 e2
  refine (h.shs x hx).kept kk ?_ ?_
  · simp only [List.mem_cons, List.not_mem_nil, or_false, not_or]
    exact ⟨Ne.symm f.1, Ne.symm f.2.2.1, e1.1⟩
  · simp only [List.mem_cons, List.not_mem_nil, or_false, not_or]
    exact ⟨Ne.symm f.2.1, Ne.symm f.2.2.2, Ne.symm e2.2.1⟩
set_option maxRecDepth 20000 in
set_option maxHeartbeats 1600000 in
theorem qBegin {g : Nat} {F : List Nat} {a : Int} {T : List Tx} (k : Int) (w : World) (h : Rq w g F a T) (hk : I64 k) (hz : szT T < 4398046511104) : Calls Try.prog 12 #[.pointer (some ⟨g, 0, none⟩), .int .i64 k] w fun e w' => ∃ F', e = .returned (.int .i64 (begE T k)) ∧ Rq w' g F' a (begT T k) ∧ Fr w F F' ∧ Kept F w w' := by
  obtain ⟨b, D, S, M, h⟩ := h
  have c2 := h.box.cell (j := 2) rfl
  have hO := h.own
  have hkey := keyOf_int_mk (P := Try.prog) (k := 3) Try.underlying3 (wf_of_i64 hk)
  cases hf : findT T k with
  | some t =>
    obtain ⟨h1, h2⟩ := h.tel.there hk hf
    rw [(beg_old hf).1, (beg_old hf).2]
    have HH := @hideH _ h
    clear h hf hz
    go_enter Try.func12, Try.ntmps12
    go_wp2_with (at_lookup; refine wpList_lookup_there w rfl _ _ 52 rfl 3 56 keyL Try.underlying52 (zeroP _) b T.length D rfl hO _ _ rfl hkey (S k) h1 h2 ?_)
    try go_wp2
    go_ret
    exact ⟨F, rfl, ⟨b, D, S, M, HH.out⟩, Fr.refl _ _, Kept.refl _ _⟩
  | none =>
    obtain ⟨h1, h2⟩ := h.tel.gone hk hf
    rw [(beg_new hf).1, (beg_new hf).2]
    obtain ⟨w1, hw1⟩ : ∃ wx, wx = w.alloc (.map #[] 0) := ⟨_, rfl⟩
    obtain ⟨w2, hw2⟩ : ∃ wx, wx = w1.alloc (.cells #[.int .i64 0, .map (some w.heap.size)] 60) := ⟨_, rfl⟩
    have z1 : w1.heap.size = w.heap.size + 1 := by rw [hw1, World.size_alloc]
    have z2 : w2.heap.size = w.heap.size + 2 := by rw [hw2, World.size_alloc, z1]
    have k1 : Kept [] w w1 := by rw [hw1]; exact (Kept.refl [] w).alloc _
    have k2 : Kept [] w1 w2 := by rw [hw2]; exact (Kept.refl [] w1).alloc _
    have o1 : w1.ownsMap Try.prog 3 (plainElem (H := Unit) Try.prog 3) w.heap.size 0 (.map []) := by rw [hw1]; exact World.ownsMap_made w _ _ _
    have B2 : Blk w2 w1.heap.size 60 [.int .i64 0, .map (some w.heap.size)] := by rw [hw2]; exact Blk.new w1 _ _
    rw [z1] at B2
    have K2 := k1.then k2
    have hO2 := ownsMap_kept hO K2 (by simp)
    have c22 := K2.cell c2 (by simp)
    have hTl : T.length < maxLen := by have := len_szT T; unfold maxLen; omega
    have HH := @hideH _ (And.intro h (And.intro hf (And.intro hz (And.intro z2 (And.intro B2 (And.intro (ownsMap_kept o1 k2 (by simp)) K2))))))
    clear h hf hz B2 o1 k1 k2 K2 z2
    have hmm : ∀ w : World, (Instr.makeMap 58 none).run Try.prog w = .ok (.map (some w.heap.size)) (w.alloc (.map #[] 0)) := fun w => rfl
    have c2b : ((w.alloc (.map #[] 0)).alloc (.cells #[.int .i64 0, .map (some w.heap.size)] 60)).cell? ⟨g, 2, none⟩ = some (.map (some b)) := by rw [← hw1, ← hw2]; exact c22
    go_enter Try.func12, Try.ntmps12
    go_wp2_with (first
      | (at_lookup; refine wpList_lookup_gone w rfl _ _ 52 rfl 3 56 keyL Try.underlying52 (zeroP _) b T.length D rfl hO _ _ rfl hkey h1 h2 ?_)
      | (at_mapUpdate; rw [← hw1, ← hw2]; refine wpList_mapUpdate_in w2 rfl _ _ _ 52 rfl 3 56 keyL Try.underlying52 _ b T.length D rfl hO2 hTl _ _ _ rfl rfl hkey _ _ (ptrElem_some (w.heap.size + 1)) ?_; intro w3 hown3 hturn3; have H3 := @hideH _ (And.intro hown3 hturn3.grown); clear hown3 hturn3))
    have k3 : Kept [b] w2 w3 := (Kept.refl [b] w2).grown H3.out.2 (fun k hk => .inl (by cases hk; simp))
    have hR := HH.out.1
    have lg := hR.ltF _ hR.inF.1
    have lb := hR.ltF _ hR.inF.2.1
    have hgb := hR.ne
    have hkk := hR.ok.kept
    have hB3 := (hR.box.kept HH.out.2.2.2.2.2.2 (by simp)).kept k3 (by simpa using hgb)
    have hS3 := HH.out.2.2.2.2.1.kept k3 (by simp; omega)
    have hq := qKeep 99 w3 hB3 hS3 (by omega) (by rfl) (wrap_i64_of (by omega) (by omega))
    have HQ := @hideH _ hq
    have HX := @hideH _ (And.intro k3 (And.intro lg (And.intro lb hgb)))
    clear hq hB3 hS3 hkk hR lg lb hgb k3
    try go_wp2_with fail
    refine HQ.out.mono ?_
    clear HQ
    rintro r w4 ⟨rfl, b4, s4, k4⟩
    have H4 := @hideH _ (And.intro b4 (And.intro s4 k4))
    clear b4 s4 k4
    try go_wp2
    go_ret
    obtain ⟨q1, q2, q3, q4, q5, q6, q7⟩ := HH.out
    obtain ⟨x1, x2, x3, x4⟩ := HX.out
    obtain ⟨y1, y2, y3⟩ := H4.out
    have k34 : Kept [g, b, w.heap.size + 1] w2 w4 := (x1.mono (by simp)).trans y3 (fun x hx => .inl (by simp at hx; rcases hx with rfl | rfl <;> simp))
    have k04 : Kept [g, b] w w4 := (q7.mono (by simp)).trans k34 (fun x hx => by simp at hx; rcases hx with rfl | rfl | rfl <;> simp)
    have o4 := ownsMap_kept H3.out.1 y3 (by simp; omega)
    have om4 := ownsMap_kept q6 k34 (by simp; omega)
    have hadd := q1.add q2 (s := w.heap.size + 1) (m := w.heap.size) (by omega) (by omega) (by omega) k04 y1 o4 ⟨y2, _, om4, Cnt.nil⟩ q3
    exact ⟨_, rfl, ⟨b, _, _, _, hadd⟩, fun x hx => by simp at hx; rcases hx with rfl | rfl | hx; exact .inr (by omega); exact .inr (by omega); exact .inl hx, k04.mono (fun x hx => by simp at hx; rcases hx with rfl | rfl; exact q1.inF.1; exact q1.inF.2.1)⟩
end Go.Proofs.Ytpbcfkfhkenhpaa

/-
  OWN WORK (by mkrq1.py). The landed room (layer 17): Frame.
-/
namespace Go.Proofs.Ytpbcfkfhkenhpaa
open Go.RowKit
set_option linter.unusedVariables false
set_option linter.unusedSimpArgs false

def isC (n : Int) : Prop := 0 ≤ n ∧ n ≤ 65535
instance (n : Int) : Decidable (isC n) := inferInstanceAs (Decidable (0 ≤ n ∧ n ≤ 65535))
theorem qIsCount (n : Int) (w : World) : Calls Try.prog 24 #[.int .i64 n] w fun e w' => e = .returned (.bool (decide (isC n))) ∧ w = w' := by
  by_cases c0 : n < 0
  · have e : decide (isC n) = false := decide_eq_false fun q => by have := q.1; omega
    rw [e]; clear e
    go_enter Try.func24, Try.ntmps24
    go_wp2
    go_ret
    exact ⟨by first | rfl | (simp; omega), rfl⟩
  by_cases c1 : (65535 : Int) < n
  · have e : decide (isC n) = false := decide_eq_false fun q => by have := q.2; omega
    rw [e]; clear e
    go_enter Try.func24, Try.ntmps24
    go_wp2
    go_ret
    exact ⟨by first | rfl | (simp; omega), rfl⟩
  have e : decide (isC n) = true := decide_eq_true ⟨by omega, by omega⟩
  rw [e]; clear e
  go_enter Try.func24, Try.ntmps24
  go_wp2
  go_ret
  exact ⟨by first | rfl | (simp; omega), rfl⟩
def ownI (k n m : Int) : Int := if k = 2 then n else if k = 3 then 8 else if k = 7 then 26 * n + 1 + 9 * m else 0
set_option maxRecDepth 20000 in
theorem qOwn (k n m : Int) (w : World) (hn : isC n) (hm : isC m) : Calls Try.prog 25 #[.int .i64 k, .int .i64 n, .int .i64 m] w fun e w' => e = .returned (.int .i64 (ownI k n m)) ∧ w = w' := by
  have w1 : IntKind.i64.wrap (26 * n) = 26 * n := wrap_i64_of (by have := hn.1; omega) (by have := hn.2; omega)
  have w2 : IntKind.i64.wrap (26 * n + 1) = 26 * n + 1 := wrap_i64_of (by have := hn.1; omega) (by have := hn.2; omega)
  have w3 : IntKind.i64.wrap (9 * m) = 9 * m := wrap_i64_of (by have := hm.1; omega) (by have := hm.2; omega)
  have w4 : IntKind.i64.wrap (26 * n + 1 + 9 * m) = 26 * n + 1 + 9 * m := wrap_i64_of (by have := hm.1; have := hn.1; omega) (by have := hm.2; have := hn.2; omega)
  clear hn hm
  by_cases k2 : k = 2
  · subst k2
    go_enter Try.func25, Try.ntmps25
    go_wp2
    go_ret
    exact ⟨by first | rfl | simp [ownI], rfl⟩
  by_cases k3 : k = 3
  · subst k3
    go_enter Try.func25, Try.ntmps25
    go_wp2
    go_ret
    exact ⟨by first | rfl | simp [ownI], rfl⟩
  by_cases k7 : k = 7
  · subst k7
    go_enter Try.func25, Try.ntmps25
    go_wp2
    go_ret
    exact ⟨by first | rfl | simp [ownI], rfl⟩
  have e2 : (k == 2) = false := by simpa using k2
  have e3 : (k == 3) = false := by simpa using k3
  have e7 : (k == 7) = false := by simpa using k7
  have HE := @hideH _ (show ownI k n m = 0 by simp [ownI, k2, k3, k7])
  clear k2 k3 k7
  go_enter Try.func25, Try.ntmps25
  go_wp2
  go_ret
  exact ⟨by rw [HE.out]; rfl, rfl⟩
theorem isF_c (n m : Int) : isF n m ↔ isC n ∧ isC m := ⟨fun h => ⟨⟨h.1, h.2.2.1⟩, ⟨h.2.1, h.2.2.2⟩⟩, fun h => ⟨h.1.1, h.2.1, h.1.2, h.2.2⟩⟩
set_option maxRecDepth 20000 in
set_option maxHeartbeats 1600000 in
theorem qFrame (k n m : Int) (w : World) : Calls Try.prog 13 #[.int .i64 k, .int .i64 n, .int .i64 m] w fun e w' => e = .returned (.int .i64 (frameI k n m)) ∧ w = w' := by
  by_cases hn : isC n
  rotate_left
  · have e : decide (isC n) = false := decide_eq_false hn
    have HF := @hideH _ (frame_no (k := k) (n := n) (m := m) (fun q => hn ((isF_c n m).1 q).1))
    clear hn
    go_enter Try.func13, Try.ntmps13
    go_wp2_with (go_at_call 24; refine (qIsCount n _).mono ?_; rintro r wq ⟨rfl, rfl⟩; rw [e])
    try go_wp2
    go_ret
    exact ⟨by rw [HF.out]; rfl, rfl⟩
  have en : decide (isC n) = true := decide_eq_true hn
  by_cases hm : isC m
  rotate_left
  · have em : decide (isC m) = false := decide_eq_false hm
    have HF := @hideH _ (frame_no (k := k) (n := n) (m := m) (fun q => hm ((isF_c n m).1 q).2))
    have tk : True := trivial
    clear hn hm
    go_enter Try.func13, Try.ntmps13
    go_wp2_with fail
    refine (qIsCount n _).mono ?_
    rintro r wq ⟨rfl, rfl⟩
    rw [en]
    go_wp2_with fail
    refine (qIsCount m _).mono ?_
    rintro r wq ⟨rfl, rfl⟩
    rw [em]
    go_wp2
    go_ret
    exact ⟨by rw [HF.out]; rfl, rfl⟩
  have em : decide (isC m) = true := decide_eq_true hm
  have HF := @hideH _ ((isF_c n m).2 ⟨hn, hm⟩)
  have hO := @hideH _ (qOwn k n m w hn hm)
  have w0 : IntKind.i64.wrap (4 + n) = 4 + n := wrap_i64_of (by have := hm.1; have := hn.1; omega) (by have := hm.2; have := hn.2; omega)
  have w1 : IntKind.i64.wrap (n + (4 + n)) = n + (4 + n) := wrap_i64_of (by have := hm.1; have := hn.1; omega) (by have := hm.2; have := hn.2; omega)
  have w2 : IntKind.i64.wrap (n + (4 + n) + 1) = n + (4 + n) + 1 := wrap_i64_of (by have := hm.1; have := hn.1; omega) (by have := hm.2; have := hn.2; omega)
  have w3 : IntKind.i64.wrap (n + (4 + n) + 1 + 33) = n + (4 + n) + 1 + 33 := wrap_i64_of (by have := hm.1; have := hn.1; omega) (by have := hm.2; have := hn.2; omega)
  have w4 : IntKind.i64.wrap (8 + (4 + n)) = 8 + (4 + n) := wrap_i64_of (by have := hm.1; have := hn.1; omega) (by have := hm.2; have := hn.2; omega)
  have w5 : IntKind.i64.wrap (8 + (4 + n) + 1) = 8 + (4 + n) + 1 := wrap_i64_of (by have := hm.1; have := hn.1; omega) (by have := hm.2; have := hn.2; omega)
  have w6 : IntKind.i64.wrap (8 + (4 + n) + 1 + 33) = 8 + (4 + n) + 1 + 33 := wrap_i64_of (by have := hm.1; have := hn.1; omega) (by have := hm.2; have := hn.2; omega)
  have w7 : IntKind.i64.wrap (26 * n + 1 + 9 * m + 1) = 26 * n + 1 + 9 * m + 1 := wrap_i64_of (by have := hm.1; have := hn.1; omega) (by have := hm.2; have := hn.2; omega)
  have w8 : IntKind.i64.wrap (26 * n + 1 + 9 * m + 1 + 33) = 26 * n + 1 + 9 * m + 1 + 33 := wrap_i64_of (by have := hm.1; have := hn.1; omega) (by have := hm.2; have := hn.2; omega)
  clear hn hm
  by_cases k1 : k = 1
  · subst k1
    go_enter Try.func13, Try.ntmps13
    go_wp2_with fail
    refine (qIsCount n _).mono ?_
    rintro r wq ⟨rfl, rfl⟩
    rw [en]
    go_wp2_with fail
    refine (qIsCount m _).mono ?_
    rintro r wq ⟨rfl, rfl⟩
    rw [em]
    go_wp2_with fail
    refine hO.out.mono ?_
    rintro r wq ⟨rfl, rfl⟩
    rw [show ownI 1 n m = 0 from by simp [ownI]]
    try clear k1 k2 k3 k4 k5 k6 k7
    go_wp2
    go_ret
    exact ⟨by rw [frame_1 HF.out]; rfl, rfl⟩
  by_cases k2 : k = 2
  · subst k2
    go_enter Try.func13, Try.ntmps13
    go_wp2_with fail
    refine (qIsCount n _).mono ?_
    rintro r wq ⟨rfl, rfl⟩
    rw [en]
    go_wp2_with fail
    refine (qIsCount m _).mono ?_
    rintro r wq ⟨rfl, rfl⟩
    rw [em]
    go_wp2_with fail
    refine hO.out.mono ?_
    rintro r wq ⟨rfl, rfl⟩
    rw [show ownI 2 n m = n from by simp [ownI]]
    try clear k1 k2 k3 k4 k5 k6 k7
    go_wp2
    go_ret
    exact ⟨by rw [frame_2 HF.out, show 38 + 2 * n = n + (4 + n) + 1 + 33 by omega]; rfl, rfl⟩
  by_cases k3 : k = 3
  · subst k3
    go_enter Try.func13, Try.ntmps13
    go_wp2_with fail
    refine (qIsCount n _).mono ?_
    rintro r wq ⟨rfl, rfl⟩
    rw [en]
    go_wp2_with fail
    refine (qIsCount m _).mono ?_
    rintro r wq ⟨rfl, rfl⟩
    rw [em]
    go_wp2_with fail
    refine hO.out.mono ?_
    rintro r wq ⟨rfl, rfl⟩
    rw [show ownI 3 n m = 8 from by simp [ownI]]
    try clear k1 k2 k3 k4 k5 k6 k7
    go_wp2
    go_ret
    exact ⟨by rw [frame_3 HF.out, show 46 + n = 8 + (4 + n) + 1 + 33 by omega]; rfl, rfl⟩
  by_cases k4 : k = 4
  · subst k4
    go_enter Try.func13, Try.ntmps13
    go_wp2_with fail
    refine (qIsCount n _).mono ?_
    rintro r wq ⟨rfl, rfl⟩
    rw [en]
    go_wp2_with fail
    refine (qIsCount m _).mono ?_
    rintro r wq ⟨rfl, rfl⟩
    rw [em]
    go_wp2_with fail
    refine hO.out.mono ?_
    rintro r wq ⟨rfl, rfl⟩
    rw [show ownI 4 n m = 0 from by simp [ownI]]
    try clear k1 k2 k3 k4 k5 k6 k7
    go_wp2
    go_ret
    exact ⟨by rw [frame_4 HF.out]; rfl, rfl⟩
  by_cases k5 : k = 5
  · subst k5
    go_enter Try.func13, Try.ntmps13
    go_wp2_with fail
    refine (qIsCount n _).mono ?_
    rintro r wq ⟨rfl, rfl⟩
    rw [en]
    go_wp2_with fail
    refine (qIsCount m _).mono ?_
    rintro r wq ⟨rfl, rfl⟩
    rw [em]
    go_wp2_with fail
    refine hO.out.mono ?_
    rintro r wq ⟨rfl, rfl⟩
    rw [show ownI 5 n m = 0 from by simp [ownI]]
    try clear k1 k2 k3 k4 k5 k6 k7
    go_wp2
    go_ret
    exact ⟨by rw [frame_5 HF.out]; rfl, rfl⟩
  by_cases k6 : k = 6
  · subst k6
    go_enter Try.func13, Try.ntmps13
    go_wp2_with fail
    refine (qIsCount n _).mono ?_
    rintro r wq ⟨rfl, rfl⟩
    rw [en]
    go_wp2_with fail
    refine (qIsCount m _).mono ?_
    rintro r wq ⟨rfl, rfl⟩
    rw [em]
    go_wp2_with fail
    refine hO.out.mono ?_
    rintro r wq ⟨rfl, rfl⟩
    rw [show ownI 6 n m = 0 from by simp [ownI]]
    try clear k1 k2 k3 k4 k5 k6 k7
    go_wp2
    go_ret
    exact ⟨by rw [frame_6 HF.out]; rfl, rfl⟩
  by_cases k7 : k = 7
  · subst k7
    go_enter Try.func13, Try.ntmps13
    go_wp2_with fail
    refine (qIsCount n _).mono ?_
    rintro r wq ⟨rfl, rfl⟩
    rw [en]
    go_wp2_with fail
    refine (qIsCount m _).mono ?_
    rintro r wq ⟨rfl, rfl⟩
    rw [em]
    go_wp2_with fail
    refine hO.out.mono ?_
    rintro r wq ⟨rfl, rfl⟩
    rw [show ownI 7 n m = 26 * n + 1 + 9 * m from by simp [ownI]]
    try clear k1 k2 k3 k4 k5 k6 k7
    go_wp2
    go_ret
    exact ⟨by rw [frame_7 HF.out, show 35 + 26 * n + 9 * m = 26 * n + 1 + 9 * m + 1 + 33 by omega]; rfl, rfl⟩
  have e1 : (k == 1) = false := by simpa using k1
  have e2 : (k == 2) = false := by simpa using k2
  have e3 : (k == 3) = false := by simpa using k3
  have e4 : (k == 4) = false := by simpa using k4
  have e5 : (k == 5) = false := by simpa using k5
  have e6 : (k == 6) = false := by simpa using k6
  have e7 : (k == 7) = false := by simpa using k7
  have HE := @hideH _ (frame_else HF.out k1 k2 k3 k4 k5 k6 k7)
  go_enter Try.func13, Try.ntmps13
  go_wp2_with fail
  refine (qIsCount n _).mono ?_
  rintro r wq ⟨rfl, rfl⟩
  rw [en]
  go_wp2_with fail
  refine (qIsCount m _).mono ?_
  rintro r wq ⟨rfl, rfl⟩
  rw [em]
  go_wp2_with fail
  refine hO.out.mono ?_
  rintro r wq ⟨rfl, rfl⟩
  rw [show ownI k n m = 0 from by simp [ownI, k2, k3, k7]]
  try clear k1 k2 k3 k4 k5 k6 k7
  go_wp2
  go_ret
  exact ⟨by rw [HE.out]; rfl, rfl⟩
end Go.Proofs.Ytpbcfkfhkenhpaa

/-
  OWN WORK. The landed room (layer 17): Drop, Update, Undone.
-/
namespace Go.Proofs.Ytpbcfkfhkenhpaa
open Go.RowKit Go.Maps
set_option linter.unusedVariables false
set_option linter.unusedSimpArgs false

set_option maxRecDepth 20000 in
set_option maxHeartbeats 1600000 in
theorem qDrop {g : Nat} {F : List Nat} {a : Int} {T : List Tx} (k : Int) (w : World) (h : Rq w g F a T) (hk : I64 k) : Calls Try.prog 19 #[.pointer (some ⟨g, 0, none⟩), .int .i64 k] w fun e w' => ∃ F', e = .returned (.int .i64 (drpE T k)) ∧ Rq w' g F' a (drpT T k) ∧ Fr w F F' ∧ Kept F w w' := by
  obtain ⟨b, D, S, M, h⟩ := h
  have c2 := h.box.cell (j := 2) rfl
  have hO := h.own
  have hkey := keyOf_int_mk (P := Try.prog) (k := 3) Try.underlying3 (wf_of_i64 hk)
  cases hf : findT T k with
  | none =>
    obtain ⟨h1, h2⟩ := h.tel.gone hk hf
    rw [(drp_none hf).1, (drp_none hf).2]
    have HH := @hideH _ h
    clear h hf
    go_enter Try.func19, Try.ntmps19
    go_wp2_with (at_lookup; refine wpList_lookup_gone w rfl _ _ 52 rfl 3 56 keyL Try.underlying52 (zeroP _) b T.length D rfl hO _ _ rfl hkey h1 h2 ?_)
    try go_wp2
    go_ret
    exact ⟨F, rfl, ⟨b, D, S, M, HH.out⟩, Fr.refl _ _, Kept.refl _ _⟩
  | some t =>
    obtain ⟨h1, h2⟩ := h.tel.there hk hf
    obtain ⟨hm, hb⟩ := findT_some hf
    rw [(drp_ok hf).1, (drp_ok hf).2]
    have hs := (h.shs t hm).box
    have f := h.far t hm
    rw [hb] at hs f
    have c3 := hs.cell (j := 0) rfl
    obtain ⟨K, hK⟩ : ∃ K, K = t.sum := ⟨_, rfl⟩
    have hbd := sum_le h.ok.rng hm
    have hbk := h.ok.kept
    rw [← hK] at hs c3 hbd
    have wn : IntKind.i64.wrap (-K) = -K := wrap_i64_of (by omega) (by omega)
    have hq := qKeep (-K) w h.box hs f.1 (wrap_i64_of (by omega) (by omega)) (wrap_i64_of (by omega) (by omega))
    have HQ := @hideH _ hq
    have HH := @hideH _ (And.intro h (And.intro hf (And.intro hK f)))
    clear h hf hs hb hm hq hbd hbk f hK
    go_enter Try.func19, Try.ntmps19
    go_wp2_with (at_lookup; refine wpList_lookup_there w rfl _ _ 52 rfl 3 56 keyL Try.underlying52 (zeroP _) b T.length D rfl hO _ _ rfl hkey (S k) h1 h2 ?_)
    try go_wp2_with fail
    refine HQ.out.mono ?_
    clear HQ
    rintro r w1 ⟨rfl, b1, s1, k1⟩
    have hO1 := ownsMap_kept hO k1 (by have := HH.out.1.ne; have := HH.out.2.2.2.2.2.1; simp; omega)
    have c21 := b1.cell (j := 2) rfl
    have H1 := @hideH _ (And.intro b1 k1)
    clear b1 s1 k1 hO c2 c3
    go_wp2_with (at_delete; refine wpList_delete_own _ rfl _ _ 52 3 rfl 56 keyL Try.underlying52 _ b T.length D rfl hO1 _ _ rfl hkey ?_; intro w2 hown2 hturn2; have H2 := @hideH _ (And.intro hown2 hturn2.grown); clear hown2 hturn2)
    try go_wp2
    go_ret
    obtain ⟨q1, q2, q3, q4⟩ := HH.out
    have k2 : Kept [b] w1 w2 := (Kept.refl [b] w1).grown H2.out.2 (fun k hk => .inl (by cases hk; simp))
    have k02 : Kept [g, b, S k] w w2 := (H1.out.2.mono (by simp)).trans k2 (fun x hx => .inl (by simp at hx; simp [hx]))
    have hb2 := H1.out.1.kept k2 (by simpa using q1.ne)
    rw [show keptT T + -K = keptT T - t.sum by omega] at hb2
    have hin := q1.inF.2.2 t (findT_some q2).1
    rw [(findT_some q2).2] at hin
    exact ⟨F, rfl, ⟨b, _, S, M, q1.drop q2 k02 hb2 H2.out.1⟩, Fr.refl _ _, k02.mono (fun x hx => by simp at hx; rcases hx with rfl | rfl | rfl; exact q1.inF.1; exact q1.inF.2.1; exact hin.1)⟩
set_option maxRecDepth 20000 in
set_option maxHeartbeats 1600000 in
theorem qUpdate {g : Nat} {F : List Nat} {a : Int} {T : List Tx} (k n : Int) (w : World) (h : Rq w g F a T) (hk : I64 k) (hn : I64 n) (hz : szT T < 4398046511104) : Calls Try.prog 17 #[.pointer (some ⟨g, 0, none⟩), .int .i64 k, .int .i64 n] w fun e w' => ∃ F', e = .returned (.int .i64 (updE T k n)) ∧ Rq w' g F' a (updT T k n) ∧ Fr w F F' ∧ Kept F w w' := by
  obtain ⟨b, D, S, M, h⟩ := h
  have c2 := h.box.cell (j := 2) rfl
  have hO := h.own
  have hkey := keyOf_int_mk (P := Try.prog) (k := 3) Try.underlying3 (wf_of_i64 hk)
  have hkeyn := keyOf_int_mk (P := Try.prog) (k := 3) Try.underlying3 (wf_of_i64 hn)
  cases hf : findT T k with
  | none =>
    obtain ⟨h1, h2⟩ := h.tel.gone hk hf
    rw [(upd_none hf).1, (upd_none hf).2]
    have HH := @hideH _ h
    clear h hf
    go_enter Try.func17, Try.ntmps17
    go_wp2_with (at_lookup; refine wpList_lookup_gone w rfl _ _ 52 rfl 3 56 keyL Try.underlying52 (zeroP _) b T.length D rfl hO _ _ rfl hkey h1 h2 ?_)
    try go_wp2
    go_ret
    exact ⟨F, rfl, ⟨b, D, S, M, HH.out⟩, Fr.refl _ _, Kept.refl _ _⟩
  | some t =>
    obtain ⟨h1, h2⟩ := h.tel.there hk hf
    by_cases c0 : n < 1
    · have hno : ¬ isN n := fun q => by have := q.1; omega
      rw [(upd_range hf hno).1, (upd_range hf hno).2]
      have HH := @hideH _ h
      clear h hf hno
      go_enter Try.func17, Try.ntmps17
      go_wp2_with (at_lookup; refine wpList_lookup_there w rfl _ _ 52 rfl 3 56 keyL Try.underlying52 (zeroP _) b T.length D rfl hO _ _ rfl hkey (S k) h1 h2 ?_)
      try go_wp2
      go_ret
      exact ⟨F, rfl, ⟨b, D, S, M, HH.out⟩, Fr.refl _ _, Kept.refl _ _⟩
    by_cases c1 : isC n
    rotate_left
    · have hno : ¬ isN n := fun q => c1 ⟨by have := q.1; omega, q.2⟩
      have e1 : decide (isC n) = false := decide_eq_false c1
      rw [(upd_range hf hno).1, (upd_range hf hno).2]
      have HH := @hideH _ h
      clear h hf hno c1
      go_enter Try.func17, Try.ntmps17
      go_wp2_with (first
        | (at_lookup; refine wpList_lookup_there w rfl _ _ 52 rfl 3 56 keyL Try.underlying52 (zeroP _) b T.length D rfl hO _ _ rfl hkey (S k) h1 h2 ?_)
        | (go_at_call 24; refine (qIsCount n _).mono ?_; rintro r wq ⟨rfl, rfl⟩; rw [e1]))
      try go_wp2
      go_ret
      exact ⟨F, rfl, ⟨b, D, S, M, HH.out⟩, Fr.refl _ _, Kept.refl _ _⟩
    have hN : isN n := ⟨by omega, c1.2⟩
    have e1 : decide (isC n) = true := decide_eq_true c1
    obtain ⟨hm, hb⟩ := findT_some hf
    rw [(upd_ok hf hN).1, (upd_ok hf hN).2]
    have hsh := h.shs t hm
    have f := h.far t hm
    rw [hb] at hsh f
    have hs := hsh.box
    have c3 := hs.cell (j := 1) rfl
    obtain ⟨Dm, hOm, hCm⟩ := hsh.own
    have hsm := hsh.ne
    have hul : t.u.length < 4398046511104 := by have := len_upd hm; omega
    have hulm : t.u.length < maxLen := by unfold maxLen; omega
    obtain ⟨c, hc⟩ : ∃ c : Int, c = (t.u.count n : Int) := ⟨_, rfl⟩
    have hat := hCm.atk n hn
    rw [← hc] at hat
    have hcb : 0 ≤ c ∧ c ≤ 4398046511104 := by have := @List.count_le_length _ _ n t.u; omega
    have wc : IntKind.i64.wrap (c + 1) = c + 1 := wrap_i64_of (by omega) (by omega)
    have hval := plainElem_int (H := Unit) (P := Try.prog) (e := 3) Try.underlying3 (a := c + 1) (wf_of_i64 ⟨by omega, by omega⟩)
    have hbd := sum_le h.ok.rng hm
    have hbk := h.ok.kept
    have hcn := hCm.put hOm.isMap n
    rw [← hc] at hcn
    have hfr : frameI 3 n 0 = 46 + n := frame_3 ⟨c1.1, by omega, c1.2, by omega⟩
    have hsum : (⟨k, t.u ++ [n]⟩ : Tx).sum = t.sum + (46 + n) := by simp only [Tx.sum, sumU_append, sumU]; omega
    have hkp : keptT (setU T k (t.u ++ [n])) = keptT T + (46 + n) := by rw [(set_sums h.ok hf _).1, sumU_append]; simp only [sumU]; omega
    have hokn : OkR (setU T k (t.u ++ [n])) := by have q := h.ok.upd k n hz; rw [(upd_ok hf hN).2] at q; exact q
    have HW := @hideH _ (And.intro (show IntKind.i64.wrap (t.sum + (46 + n)) = t.sum + (46 + n) from wrap_i64_of (by have := hN.1; omega) (by have := hN.2; omega)) (show IntKind.i64.wrap (keptT T + (46 + n)) = keptT T + (46 + n) from wrap_i64_of (by have := hN.1; omega) (by have := hN.2; omega)))
    have HH := @hideH _ (And.intro h (And.intro hf (And.intro f (And.intro hs (And.intro hsm (And.intro hcn (And.intro hsum (And.intro hkp hokn))))))))
    clear h hf hs hb hm hbd hbk f hsm hcn hsum hkp hokn hsh hCm hc hcb hul hN c1 hz
    go_enter Try.func17, Try.ntmps17
    go_wp2_with (first
      | (at_lookup; refine wpList_lookup_there w rfl _ _ 52 rfl 3 56 keyL Try.underlying52 (zeroP _) b T.length D rfl hO _ _ rfl hkey (S k) h1 h2 ?_)
      | (at_lookup; refine wpList_lookup_own_int w rfl _ _ 58 rfl 3 3 .i64 keyL Try.underlying58 Try.underlying3 (zeroI _) (M k) t.u.length Dm rfl hOm _ _ rfl hkeyn ?_; intro cx hatx hwc; obtain rfl : c = cx := (by rw [hat] at hatx; simpa using hatx); clear hatx hwc)
      | (go_at_call 24; refine (qIsCount n _).mono ?_; rintro r wq ⟨rfl, rfl⟩; rw [e1])
      | (at_mapUpdate; refine wpList_mapUpdate_in w rfl _ _ _ 58 rfl 3 3 keyL Try.underlying58 _ (M k) t.u.length Dm rfl hOm hulm _ _ _ rfl rfl hkeyn _ _ hval ?_; intro w1 hown1 hturn1; have H1 := @hideH _ (And.intro hown1 hturn1.grown); clear hown1 hturn1))
    refine (qFrame 3 n 0 _).mono ?_
    rintro r wq ⟨rfl, rfl⟩
    rw [hfr]
    have k1 : Kept [M k] w w1 := (Kept.refl [M k] w).grown H1.out.2 (fun k hk => .inl (by cases hk; simp))
    have hB1 := HH.out.1.box.kept k1 (by simpa using HH.out.2.2.1.2.1)
    have hS1 := HH.out.2.2.2.1.kept k1 (by simpa using HH.out.2.2.2.2.1)
    have HQ := @hideH _ (qKeep (46 + n) w1 hB1 hS1 HH.out.2.2.1.1 HW.out.1 HW.out.2)
    have HK := @hideH _ k1
    clear k1 hB1 hS1 c0 c3 c2
    go_wp2_with fail
    refine HQ.out.mono ?_
    clear HQ
    rintro r w2 ⟨rfl, b2, s2, k2⟩
    have H2 := @hideH _ (And.intro b2 (And.intro s2 k2))
    clear b2 s2 k2
    try go_wp2
    go_ret
    obtain ⟨q1, q2, q3, q4, q5, q6, q7, q8, q9⟩ := HH.out
    obtain ⟨y1, y2, y3⟩ := H2.out
    have k02 : Kept [g, S k, M k] w w2 := (HK.out.mono (by simp)).trans y3 (fun x hx => .inl (by simp at hx; rcases hx with rfl | rfl <;> simp))
    have o2 := ownsMap_kept H1.out.1 y3 (by simp; exact ⟨Ne.symm q3.2.1, Ne.symm q5⟩)
    have hin := q1.inF.2.2 t (findT_some q2).1
    rw [(findT_some q2).2] at hin
    refine ⟨F, rfl, ⟨b, D, S, M, q1.upd q2 k02 (by rw [q8]; exact y1) ⟨by rw [q7]; exact y2, _, q6.own o2, q6⟩ q9⟩, Fr.refl _ _, k02.mono (fun x hx => by simp at hx; rcases hx with rfl | rfl | rfl; exact q1.inF.1; exact hin.1; exact hin.2)⟩
set_option maxRecDepth 20000 in
set_option maxHeartbeats 1600000 in
theorem qUndone {g : Nat} {F : List Nat} {a : Int} {T : List Tx} (k n : Int) (w : World) (h : Rq w g F a T) (hk : I64 k) (hn : I64 n) : Calls Try.prog 18 #[.pointer (some ⟨g, 0, none⟩), .int .i64 k, .int .i64 n] w fun e w' => ∃ F', e = .returned (.int .i64 (undE T k n)) ∧ Rq w' g F' a (undT T k n) ∧ Fr w F F' ∧ Kept F w w' := by
  obtain ⟨b, D, S, M, h⟩ := h
  have c2 := h.box.cell (j := 2) rfl
  have hO := h.own
  have hkey := keyOf_int_mk (P := Try.prog) (k := 3) Try.underlying3 (wf_of_i64 hk)
  have hkeyn := keyOf_int_mk (P := Try.prog) (k := 3) Try.underlying3 (wf_of_i64 hn)
  cases hf : findT T k with
  | none =>
    obtain ⟨h1, h2⟩ := h.tel.gone hk hf
    rw [(und_none hf).1, (und_none hf).2]
    have HH := @hideH _ h
    clear h hf
    go_enter Try.func18, Try.ntmps18
    go_wp2_with (at_lookup; refine wpList_lookup_gone w rfl _ _ 52 rfl 3 56 keyL Try.underlying52 (zeroP _) b T.length D rfl hO _ _ rfl hkey h1 h2 ?_)
    try go_wp2
    go_ret
    exact ⟨F, rfl, ⟨b, D, S, M, HH.out⟩, Fr.refl _ _, Kept.refl _ _⟩
  | some t =>
    obtain ⟨h1, h2⟩ := h.tel.there hk hf
    obtain ⟨hm, hb⟩ := findT_some hf
    have hsh := h.shs t hm
    have f := h.far t hm
    rw [hb] at hsh f
    have hs := hsh.box
    have c3 := hs.cell (j := 1) rfl
    obtain ⟨Dm, hOm, hCm⟩ := hsh.own
    have hsm := hsh.ne
    have hul : t.u.length < 4398046511105 := by have := len_upd hm; have := h.ok.sz; omega
    have hulm : t.u.length < maxLen := by unfold maxLen; omega
    obtain ⟨c, hc⟩ : ∃ c : Nat, c = t.u.count n := ⟨_, rfl⟩
    have hat := hCm.atk n hn
    rw [← hc] at hat
    by_cases c0 : c = 0
    · have hno : n ∉ t.u := fun q => by have := List.count_pos_iff.2 q; omega
      rw [(und_range hf hno).1, (und_range hf hno).2]
      have HH := @hideH _ h
      rw [c0] at hat
      clear h hf hno hc c0 hul hulm hs f hsm hsh hCm
      go_enter Try.func18, Try.ntmps18
      go_wp2_with (first
        | (at_lookup; refine wpList_lookup_there w rfl _ _ 52 rfl 3 56 keyL Try.underlying52 (zeroP _) b T.length D rfl hO _ _ rfl hkey (S k) h1 h2 ?_)
        | (at_lookup; refine wpList_lookup_own_int w rfl _ _ 58 rfl 3 3 .i64 keyL Try.underlying58 Try.underlying3 (zeroI _) (M k) t.u.length Dm rfl hOm _ _ rfl hkeyn ?_; intro cx hatx hwc; obtain rfl : 0 = cx := (by rw [hat] at hatx; simpa using hatx); clear hatx hwc))
      try go_wp2
      go_ret
      exact ⟨F, rfl, ⟨b, D, S, M, HH.out⟩, Fr.refl _ _, Kept.refl _ _⟩
    have hin : n ∈ t.u := List.count_pos_iff.1 (by omega)
    rw [(und_ok hf hin).1, (und_ok hf hin).2]
    have hN := h.ok.rng t hm n hin
    obtain ⟨cv, hcv⟩ : ∃ cv : Int, cv = (c : Int) - 1 := ⟨_, rfl⟩
    have hcl : c ≤ 4398046511104 := by have := @List.count_le_length _ _ n t.u; omega
    have wc : IntKind.i64.wrap ((c : Int) - 1) = cv := by rw [hcv]; exact wrap_i64_of (by omega) (by omega)
    have hval := plainElem_int (H := Unit) (P := Try.prog) (e := 3) Try.underlying3 (a := cv) (wf_of_i64 ⟨by omega, by omega⟩)
    have hbd := sum_le h.ok.rng hm
    have hbk := h.ok.kept
    have hse := sumU_erase hin
    have hfr : frameI 3 n 0 = 46 + n := frame_3 ⟨by have := hN.1; omega, by omega, hN.2, by omega⟩
    have hsum : (⟨k, t.u.erase n⟩ : Tx).sum = t.sum + -(46 + n) := by simp only [Tx.sum]; omega
    have hkp : keptT (setU T k (t.u.erase n)) = keptT T + -(46 + n) := by rw [(set_sums h.ok hf _).1]; omega
    have hokn : OkR (setU T k (t.u.erase n)) := by have q := h.ok.und k n; rw [(und_ok hf hin).2] at q; exact q
    have hsr := sumU_range (u := t.u.erase n) (fun x hx => h.ok.rng t hm x (List.mem_of_mem_erase hx))
    have wng : IntKind.i64.wrap (-(46 + n)) = -(46 + n) := wrap_i64_of (by have := hN.2; omega) (by have := hN.1; omega)
    have HW := @hideH _ (And.intro (show IntKind.i64.wrap (t.sum + -(46 + n)) = t.sum + -(46 + n) from wrap_i64_of (by have := hN.2; omega) (by have := hN.1; omega)) (show IntKind.i64.wrap (keptT T + -(46 + n)) = keptT T + -(46 + n) from wrap_i64_of (by have := hN.2; omega) (by have := hN.1; omega)))
    have e0 : ((c : Int) == 0) = false := by simpa using c0
    have hput := hOm.isMap
    have hless : c ≠ 1 → Cnt (Dm.put (.int .i64 n) (.lit (.int .i64 cv))) (t.u.erase n) := fun q => by have r := hCm.less hput (n := n) (by omega); rw [← hc, ← hcv] at r; exact r
    have hlast : c = 1 → Cnt ((Dm.put (.int .i64 n) (.lit (.int .i64 cv))).del (.int .i64 n)) (t.u.erase n) := fun q => hCm.last hput (by omega) _
    have hat2 : (Dm.put (.int .i64 n) (.lit (.int .i64 cv))).atKey (.int .i64 n) (.lit (.int .i64 0)) = .lit (.int .i64 cv) := atKey_put_same hput (keyLit_int _) _ _
    have HH := @hideH _ (And.intro h (And.intro hf (And.intro f (And.intro hs (And.intro hsm (And.intro hless (And.intro hlast (And.intro hsum (And.intro hkp hokn)))))))))
    have HC := @hideH _ (And.intro hcv hcl)
    clear h hf hs hb hm hbd hbk f hsm hsum hkp hokn hsh hCm hc hcl hul hN hin hse hput hless hlast hcv hsr c0
    by_cases c1 : c = 1
    · have ev : (cv == 0) = true := by have := HC.out.1; simp; omega
      have HC1 := @hideH _ c1
      clear c1
      go_enter Try.func18, Try.ntmps18
      go_wp2_with (first
        | (at_lookup; refine wpList_lookup_there w rfl _ _ 52 rfl 3 56 keyL Try.underlying52 (zeroP _) b T.length D rfl hO _ _ rfl hkey (S k) h1 h2 ?_)
        | (at_lookup; refine wpList_lookup_own_int w rfl _ _ 58 rfl 3 3 .i64 keyL Try.underlying58 Try.underlying3 (zeroI _) (M k) t.u.length Dm rfl hOm _ _ rfl hkeyn ?_; intro cx hatx hwc; obtain rfl : (c : Int) = cx := (by rw [hat] at hatx; simpa using hatx); clear hatx hwc)
        | (at_mapUpdate; refine wpList_mapUpdate_in w rfl _ _ _ 58 rfl 3 3 keyL Try.underlying58 _ (M k) t.u.length Dm rfl hOm hulm _ _ _ rfl rfl hkeyn _ _ hval ?_; intro w1 hown1 hturn1; have H1 := @hideH _ (And.intro hown1 hturn1.grown); have k1 : Kept [M k] w w1 := (Kept.refl [M k] w).grown H1.out.2 (fun k hk => .inl (by cases hk; simp)); have c31 := k1.cell c3 (by simpa using HH.out.2.2.2.2.1); have HK := @hideH _ k1; clear hturn1 k1)
        | (at_lookup; refine wpList_lookup_own_int w1 rfl _ _ 58 rfl 3 3 .i64 keyL Try.underlying58 Try.underlying3 (zeroI _) (M k) (t.u.length + 1) _ rfl hown1 _ _ rfl hkeyn ?_; intro cx hatx hwc; obtain rfl : cv = cx := (by rw [hat2] at hatx; simpa using hatx); clear hatx hwc)
        | (at_delete; refine wpList_delete_own w1 rfl _ _ 58 3 rfl 3 keyL Try.underlying58 _ (M k) (t.u.length + 1) _ rfl hown1 _ _ rfl hkeyn ?_; intro w2 hown2 hturn2; have H2 := @hideH _ (And.intro hown2 hturn2.grown); clear hown2 hturn2))
      refine (qFrame 3 n 0 _).mono ?_
      rintro r wq ⟨rfl, rfl⟩
      rw [hfr]
      have kx : Kept [M k] w w2 := HK.out.grown H2.out.2 (fun k hk => .inl (by cases hk; simp))
      have hBx := HH.out.1.box.kept kx (by simpa using HH.out.2.2.1.2.1)
      have hSx := HH.out.2.2.2.1.kept kx (by simpa using HH.out.2.2.2.2.1)
      have HQ := @hideH _ (qKeep (-(46 + n)) w2 hBx hSx HH.out.2.2.1.1 HW.out.1 HW.out.2)
      have HX := @hideH _ kx
      clear kx hBx hSx c3 c2 c31 hat hat2
      go_wp2_with fail
      refine HQ.out.mono ?_
      clear HQ
      rintro r w9 ⟨rfl, b9, s9, k9⟩
      have H9 := @hideH _ (And.intro b9 (And.intro s9 k9))
      clear b9 s9 k9
      try go_wp2
      go_ret
      obtain ⟨q1, q2, q3, q4, q5, q6, q7, q8, q9, q10⟩ := HH.out
      obtain ⟨y1, y2, y3⟩ := H9.out
      have k09 : Kept [g, S k, M k] w w9 := (HX.out.mono (by simp)).trans y3 (fun x hx => .inl (by simp at hx; rcases hx with rfl | rfl <;> simp))
      have o9 := ownsMap_kept H2.out.1 y3 (by simp; exact ⟨Ne.symm q3.2.1, Ne.symm q5⟩)
      have hC := q7 HC1.out
      have hin := q1.inF.2.2 t (findT_some q2).1
      rw [(findT_some q2).2] at hin
      exact ⟨F, rfl, ⟨b, D, S, M, q1.upd q2 k09 (by rw [q9]; exact y1) ⟨by rw [q8]; exact y2, _, hC.own o9, hC⟩ q10⟩, Fr.refl _ _, k09.mono (fun x hx => by simp at hx; rcases hx with rfl | rfl | rfl; exact q1.inF.1; exact hin.1; exact hin.2)⟩
    · have ev : (cv == 0) = false := by have := HC.out.1; simp; omega
      have HC1 := @hideH _ c1
      clear c1
      go_enter Try.func18, Try.ntmps18
      go_wp2_with (first
        | (at_lookup; refine wpList_lookup_there w rfl _ _ 52 rfl 3 56 keyL Try.underlying52 (zeroP _) b T.length D rfl hO _ _ rfl hkey (S k) h1 h2 ?_)
        | (at_lookup; refine wpList_lookup_own_int w rfl _ _ 58 rfl 3 3 .i64 keyL Try.underlying58 Try.underlying3 (zeroI _) (M k) t.u.length Dm rfl hOm _ _ rfl hkeyn ?_; intro cx hatx hwc; obtain rfl : (c : Int) = cx := (by rw [hat] at hatx; simpa using hatx); clear hatx hwc)
        | (at_mapUpdate; refine wpList_mapUpdate_in w rfl _ _ _ 58 rfl 3 3 keyL Try.underlying58 _ (M k) t.u.length Dm rfl hOm hulm _ _ _ rfl rfl hkeyn _ _ hval ?_; intro w1 hown1 hturn1; have H1 := @hideH _ (And.intro hown1 hturn1.grown); have k1 : Kept [M k] w w1 := (Kept.refl [M k] w).grown H1.out.2 (fun k hk => .inl (by cases hk; simp)); have c31 := k1.cell c3 (by simpa using HH.out.2.2.2.2.1); have HK := @hideH _ k1; clear hturn1 k1)
        | (at_lookup; refine wpList_lookup_own_int w1 rfl _ _ 58 rfl 3 3 .i64 keyL Try.underlying58 Try.underlying3 (zeroI _) (M k) (t.u.length + 1) _ rfl hown1 _ _ rfl hkeyn ?_; intro cx hatx hwc; obtain rfl : cv = cx := (by rw [hat2] at hatx; simpa using hatx); clear hatx hwc))
      refine (qFrame 3 n 0 _).mono ?_
      rintro r wq ⟨rfl, rfl⟩
      rw [hfr]
      have kx : Kept [M k] w w1 := HK.out
      have hBx := HH.out.1.box.kept kx (by simpa using HH.out.2.2.1.2.1)
      have hSx := HH.out.2.2.2.1.kept kx (by simpa using HH.out.2.2.2.2.1)
      have HQ := @hideH _ (qKeep (-(46 + n)) w1 hBx hSx HH.out.2.2.1.1 HW.out.1 HW.out.2)
      have HX := @hideH _ kx
      clear kx hBx hSx c3 c2 c31 hat hat2
      go_wp2_with fail
      refine HQ.out.mono ?_
      clear HQ
      rintro r w9 ⟨rfl, b9, s9, k9⟩
      have H9 := @hideH _ (And.intro b9 (And.intro s9 k9))
      clear b9 s9 k9
      try go_wp2
      go_ret
      obtain ⟨q1, q2, q3, q4, q5, q6, q7, q8, q9, q10⟩ := HH.out
      obtain ⟨y1, y2, y3⟩ := H9.out
      have k09 : Kept [g, S k, M k] w w9 := (HX.out.mono (by simp)).trans y3 (fun x hx => .inl (by simp at hx; rcases hx with rfl | rfl <;> simp))
      have o9 := ownsMap_kept H1.out.1 y3 (by simp; exact ⟨Ne.symm q3.2.1, Ne.symm q5⟩)
      have hC := q6 HC1.out
      have hin := q1.inF.2.2 t (findT_some q2).1
      rw [(findT_some q2).2] at hin
      exact ⟨F, rfl, ⟨b, D, S, M, q1.upd q2 k09 (by rw [q9]; exact y1) ⟨by rw [q8]; exact y2, _, hC.own o9, hC⟩ q10⟩, Fr.refl _ _, k09.mono (fun x hx => by simp at hx; rcases hx with rfl | rfl | rfl; exact q1.inF.1; exact hin.1; exact hin.2)⟩
end Go.Proofs.Ytpbcfkfhkenhpaa

/-
  OWN WORK. The landed room (layer 17): Fits; the face of the landed Room.
-/
namespace Go.Proofs.Ytpbcfkfhkenhpaa
open Go.RowKit Go.Maps
set_option linter.unusedVariables false
set_option linter.unusedSimpArgs false

def leftJ (L u m k : Int) : Nat → Int
  | 0 => L
  | 1 => L - u
  | 2 => L - u - m
  | _ => L - u - m - k
def partJ (u m k : Int) : Nat → Int
  | 0 => u
  | 1 => m
  | _ => k
def aheadJ (L u m k : Int) (j : Nat) : Prop := ∀ i < j, 0 ≤ partJ u m k i ∧ partJ u m k i ≤ leftJ L u m k i
theorem leftJ_succ (L u m k : Int) {j : Nat} (hj : j < 3) : leftJ L u m k (j + 1) = leftJ L u m k j - partJ u m k j := by
  rcases (show j = 0 ∨ j = 1 ∨ j = 2 by omega) with rfl | rfl | rfl <;> rfl
theorem fitJ_no {a : Int} {T : List Tx} {u m k : Int} {j : Nat} (hj : j < 3) (h : aheadJ (a - keptT T) u m k j) (hn : partJ u m k j < 0 ∨ leftJ (a - keptT T) u m k j < partJ u m k j) : fitsB a T u m k = false := by
  refine decide_eq_false fun q => ?_
  rcases (show j = 0 ∨ j = 1 ∨ j = 2 by omega) with rfl | rfl | rfl
  · simp only [partJ, leftJ] at hn; omega
  · simp only [partJ, leftJ] at hn; omega
  · simp only [partJ, leftJ] at hn; omega
theorem fitJ_yes {a : Int} {T : List Tx} {u m k : Int} (h : aheadJ (a - keptT T) u m k 3) : fitsB a T u m k = true := by
  have h0 := h 0 (by omega)
  have h1 := h 1 (by omega)
  have h2 := h 2 (by omega)
  simp only [partJ, leftJ] at h0 h1 h2
  exact decide_eq_true ⟨by omega, by omega, by omega, by omega⟩
theorem left_range {L u m k : Int} {j : Nat} (hL : 0 ≤ L) (hL2 : L < 9223372036854775808) (hj : j ≤ 3) (h : aheadJ L u m k j) : 0 ≤ leftJ L u m k j ∧ leftJ L u m k j < 9223372036854775808 := by
  rcases (show j = 0 ∨ j = 1 ∨ j = 2 ∨ j = 3 by omega) with rfl | rfl | rfl | rfl
  · simp only [leftJ]; omega
  · have h0 := h 0 (by omega); simp only [partJ, leftJ] at *; omega
  · have h0 := h 0 (by omega); have h1 := h 1 (by omega); simp only [partJ, leftJ] at *; omega
  · have h0 := h 0 (by omega); have h1 := h 1 (by omega); have h2 := h 2 (by omega); simp only [partJ, leftJ] at *; omega
theorem ahead_next {L u m k : Int} {j : Nat} (h : aheadJ L u m k j) (h1 : 0 ≤ partJ u m k j) (h2 : partJ u m k j ≤ leftJ L u m k j) : aheadJ L u m k (j + 1) := fun i hi => by
  by_cases e : i = j
  · subst e; exact ⟨h1, h2⟩
  · exact h i (by omega)
set_option maxRecDepth 20000 in
set_option maxHeartbeats 1600000 in
theorem qFits {g : Nat} {F : List Nat} {a : Int} {T : List Tx} (u m k : Int) (w : World) (h : Rq w g F a T) (ha : I64 a) : Calls Try.prog 11 #[.pointer (some ⟨g, 0, none⟩), .int .i64 u, .int .i64 m, .int .i64 k] w fun e w' => e = .returned (.bool (fitsB a T u m k)) ∧ Kept [] w w' := by
  obtain ⟨b, D, S, M, h⟩ := h
  have c0 := h.box.cell (j := 0) rfl
  have c1 := h.box.cell (j := 1) rfl
  have hbk := h.ok.kept
  obtain ⟨K, hK⟩ : ∃ K, K = keptT T := ⟨_, rfl⟩
  rw [← hK] at c1 hbk
  clear h
  by_cases hl : a < K
  · have HE := @hideH _ (show fitsB a T u m k = false from decide_eq_false fun q => by omega)
    clear hK hbk
    go_enter Try.func11, Try.ntmps11
    go_wp2_with go_region
    try go_wp2
    go_ret
    exact ⟨by rw [HE.out]; rfl, (Kept.refl _ _).drew⟩
  have hl2 : K ≤ a := by omega
  obtain ⟨L, hL⟩ : ∃ L, L = a - K := ⟨_, rfl⟩
  have wL : IntKind.i64.wrap (a - K) = L := by rw [hL]; exact wrap_i64_of (by have := ha.1; omega) (by have := ha.2; omega)
  have HB := @hideH _ (show 0 ≤ L ∧ L < 9223372036854775808 from ⟨by omega, by have := ha.2; omega⟩)
  have HF := @hideH _ (And.intro (fun (j : Nat) (hj : j < 3) (h1 : aheadJ L u m k j) (h2 : partJ u m k j < 0 ∨ leftJ L u m k j < partJ u m k j) => (show fitsB a T u m k = false from by rw [hL, hK] at h1 h2; exact fitJ_no hj h1 h2)) (fun (h1 : aheadJ L u m k 3) => (show fitsB a T u m k = true from by rw [hL, hK] at h1; exact fitJ_yes h1)))
  obtain ⟨z, hz⟩ : ∃ z, z = fitsB a T u m k := ⟨_, rfl⟩
  rw [← hz]
  rw [← hz] at HF
  clear hL hK hbk ha hl2 hz
  go_enter Try.func11, Try.ntmps11
  go_wp2_with go_region
  go_loopw [9, 34] (fun l i wr => ∃ j : Nat, j ≤ 3 ∧ i = .int .i64 j ∧ l = .int .i64 (leftJ L u m k j) ∧ Hid (aheadJ L u m k j) ∧ Hid (Kept [] w wr)) (fun _ i _ => 3 - (intOf i).toNat)
  case atStart => exact ⟨0, by omega, rfl, rfl, fun i hi => by omega, (Kept.refl _ _).drew.drew⟩
  case round =>
    obtain ⟨j, hj, rfl, rfl, hh, hk⟩ := hrel
    by_cases j3 : j = 3
    · subst j3
      obtain rfl := HF.out.2 hh.out
      go_wp2
      go_ret
      exact ⟨rfl, hk.out⟩
    obtain ⟨l, hl9⟩ : ∃ l, l = leftJ L u m k j := ⟨_, rfl⟩
    rw [← hl9]
    obtain ⟨p, hp9⟩ : ∃ p, p = partJ u m k j := ⟨_, rfl⟩
    have HR := @hideH _ (left_range HB.out.1 HB.out.2 hj hh.out)
    have HX := @hideH _ (And.intro hl9 hp9)
    have HS := @hideH _ (leftJ_succ L u m k (j := j) (by omega))
    have HN := @hideH _ (HF.out.1 j (by omega) hh.out)
    rw [← hl9] at HR HS HN
    rw [← hp9] at HS HN
    clear hl9
    rcases (show j = 0 ∨ j = 1 ∨ j = 2 by omega) with rfl | rfl | rfl
    · obtain rfl : p = u := hp9
      clear j3
      have hix : ∀ w, (Instr.index 55 (.agg #[.int .i64 p, .int .i64 m, .int .i64 k]) (.int .i64 0)).run Try.prog w = .ok (.int .i64 p) w := fun _ => by kernel_rfl
      by_cases n0 : p < 0
      · obtain rfl := HN.out (.inl n0)
        go_wp2
        go_ret
        exact ⟨rfl, hk.out⟩
      by_cases n1 : l < p
      · obtain rfl := HN.out (.inr n1)
        go_wp2
        go_ret
        exact ⟨rfl, hk.out⟩
      have HU := @hideH _ (And.intro (show 0 ≤ p by omega) (show p ≤ l by omega))
      have wl : IntKind.i64.wrap (l - p) = l - p := wrap_i64_of (by have := HR.out.1; omega) (by have := HR.out.2; omega)
      go_wp2
      go_roundw
      case rel => exact ⟨1, by omega, by first | rfl | go_num, by rw [HS.out], ahead_next hh.out (by have := HU.out.1; rw [HX.out.2] at this; exact this) (by have := HU.out.2; rw [HX.out.1, HX.out.2] at this; exact this), hk.out⟩
      case measure => simp [intOf]
    · obtain rfl : p = m := hp9
      clear j3
      have hix : ∀ w, (Instr.index 55 (.agg #[.int .i64 u, .int .i64 p, .int .i64 k]) (.int .i64 1)).run Try.prog w = .ok (.int .i64 p) w := fun _ => by kernel_rfl
      by_cases n0 : p < 0
      · obtain rfl := HN.out (.inl n0)
        go_wp2
        go_ret
        exact ⟨rfl, hk.out⟩
      by_cases n1 : l < p
      · obtain rfl := HN.out (.inr n1)
        go_wp2
        go_ret
        exact ⟨rfl, hk.out⟩
      have HU := @hideH _ (And.intro (show 0 ≤ p by omega) (show p ≤ l by omega))
      have wl : IntKind.i64.wrap (l - p) = l - p := wrap_i64_of (by have := HR.out.1; omega) (by have := HR.out.2; omega)
      go_wp2
      go_roundw
      case rel => exact ⟨2, by omega, by first | rfl | go_num, by rw [HS.out], ahead_next hh.out (by have := HU.out.1; rw [HX.out.2] at this; exact this) (by have := HU.out.2; rw [HX.out.1, HX.out.2] at this; exact this), hk.out⟩
      case measure => simp [intOf]
    · obtain rfl : p = k := hp9
      clear j3
      have hix : ∀ w, (Instr.index 55 (.agg #[.int .i64 u, .int .i64 m, .int .i64 p]) (.int .i64 2)).run Try.prog w = .ok (.int .i64 p) w := fun _ => by kernel_rfl
      by_cases n0 : p < 0
      · obtain rfl := HN.out (.inl n0)
        go_wp2
        go_ret
        exact ⟨rfl, hk.out⟩
      by_cases n1 : l < p
      · obtain rfl := HN.out (.inr n1)
        go_wp2
        go_ret
        exact ⟨rfl, hk.out⟩
      have HU := @hideH _ (And.intro (show 0 ≤ p by omega) (show p ≤ l by omega))
      have wl : IntKind.i64.wrap (l - p) = l - p := wrap_i64_of (by have := HR.out.1; omega) (by have := HR.out.2; omega)
      go_wp2
      go_roundw
      case rel => exact ⟨3, by omega, by first | rfl | go_num, by rw [HS.out], ahead_next hh.out (by have := HU.out.1; rw [HX.out.2] at this; exact this) (by have := HU.out.2; rw [HX.out.1, HX.out.2] at this; exact this), hk.out⟩
      case measure => simp [intOf]
def Rz (w : World) (g : Nat) (F : List Nat) (a : Int) (T : List Tx) : Prop := Rq w g F a T ∧ I64 a
theorem rmOps : RmOps Rz where
  kept := fun h k hX => ⟨h.1.kept k hX, h.2⟩
  lt := fun h => by obtain ⟨⟨b, D, S, M, h⟩, -⟩ := h; exact h.ltF
  ok := fun h => by obtain ⟨⟨b, D, S, M, h⟩, -⟩ := h; exact h.ok
  frame := fun k n m w _ _ _ => (qFrame k n m w).mono (by rintro e w' ⟨rfl, rfl⟩; exact ⟨rfl, Kept.refl _ _⟩)
  new := fun a w ha => (qNew a w).mono (by rintro e w' ⟨g, F, h1, h2, h3, h4⟩; exact ⟨g, F, h1, ⟨h2, ha⟩, h3, h4⟩)
  beg := fun b w h hb hz => (qBegin b w h.1 hb hz).mono (by rintro e w' ⟨F', h1, h2, h3, h4⟩; exact ⟨F', h1, ⟨h2, h.2⟩, h3, h4⟩)
  upd := fun b n w h hb hn hz => (qUpdate b n w h.1 hb hn hz).mono (by rintro e w' ⟨F', h1, h2, h3, h4⟩; exact ⟨F', h1, ⟨h2, h.2⟩, h3, h4⟩)
  und := fun b n w h hb hn => (qUndone b n w h.1 hb hn).mono (by rintro e w' ⟨F', h1, h2, h3, h4⟩; exact ⟨F', h1, ⟨h2, h.2⟩, h3, h4⟩)
  drp := fun b w h hb => (qDrop b w h.1 hb).mono (by rintro e w' ⟨F', h1, h2, h3, h4⟩; exact ⟨F', h1, ⟨h2, h.2⟩, h3, h4⟩)
  of := fun b w h hb => qOf b w h.1 hb
  all := fun w h => qKept w h.1
  fits := fun u m k w h _ _ _ => qFits u m k w h.1 h.2
end Go.Proofs.Ytpbcfkfhkenhpaa

/-
  OWN WORK. THE STATEMENT, out of the walk.
-/
namespace Go.Proofs.Ytpbcfkfhkenhpaa.roomAll
open Go.ChangeShapes Go.WideShapes Go.ChangeAt Go.RowKit
set_option linter.unusedVariables false
set_option maxRecDepth 100000 in
theorem contract (H : Type) (enc : TypeId × Value → H) (W : World) (base : Nat) (args : Array Value) (ds gs : List (DataW H)) (before : List MemPlace)
    (hval : ∀ (j : Nat) t v, Try.f7.params[j]? = some t → args[j]? = some v → Value.okWide Try.prog W .any base t v)
    (hW : DataW.Whole enc Try.prog Try.f7.params.toList Rows.roomAllSpec.vars false W args.toList ds gs before) (hsz : (DataW.weightsEach Try.prog (Try.f7.params.toList ++ Rows.roomAllSpec.plain.varTypes Try.prog) (ds ++ gs)).all (· ≤ reachBytes) = true) :
    Calls Try.prog 7 args W fun e W' => ∃ v, e = .returned v ∧ Rows.roomAllSpec.post enc Try.prog Try.f7 false true false false W args v W' := by
  have hW' := hW
  obtain ⟨p, q, hA0, hV, rfl, hfz, hnd⟩ := hW
  have hA : DataW.TrodAll enc Try.prog W 0 (fun _ => true) true Try.f7.params.toList args.toList ds p := hA0
  rw [Try.params7] at hA hval hsz
  obtain ⟨v0, vs0, d0, ds0, p0, q0, hargs, rfl, rfl, h0, r0⟩ := trodAll_cons hA
  obtain ⟨v1, vs1, d1, ds1, p1, q1, rfl, rfl, rfl, h1, r1⟩ := trodAll_cons r0
  obtain ⟨rfl, rfl, rfl⟩ := trodAll_nil r1
  obtain rfl : args = #[v0, v1] := by cases args; simp_all
  obtain ⟨rfl, rfl⟩ := trodVars_none hV
  obtain ⟨a0, rfl, rfl, rfl, w0⟩ := open_int Try.underlying3 (hval 0 3 v0 rfl rfl) h0
  have bd0 := bounds_i64 w0
  obtain ⟨ao1, len1, cap1, rfl⟩ := okWide_slice Try.underlying32 (hval 1 32 v1 rfl rfl)
  have lt1 : ∀ x ∈ p1, x.block < W.heap.size := by obtain ⟨m, hm⟩ := h1; exact DataW.trod_lt m _ _ _ hm
  obtain ⟨l1, hl1, B1, dd1⟩ := ops_open h1
  clear hA0
  have szl1 : l1.length ≤ 4398046511104 := by
    rcases dd1 with ⟨_, e⟩ | ⟨el, sp, rfl, e⟩
    · rw [hl1, e]; omega
    · have := sized_slice hsz (j := 1) (t := 32) rfl rfl Try.underlying32
      rw [show Try.prog.bytesOf 35 = 32 by kernel_rfl] at this
      simp only [reachBytes] at this
      rw [hl1, ← e]
      omega
  refine (roomAll_walk rmOps a0 _ l1 W (i64_of_wf w0) B1 szl1).mono fun e W' ⟨he, kp⟩ => ?_
  subst he
  have bel := kp.below
  exact ⟨_, rfl, _, _, _, [], _, [], hW', trodAll_mk1 (shut_bool Try.underlying4 _), (trodAll_cons_mk (shut_int Try.underlying3 w0) (trodAll_cons_mk (Below.trod laidOut (by kernel_rfl) (of_decide_eq_true (by kernel_rfl)) h1 bel lt1) trodAll_mk0)), rfl, bel.frame _, fun h => by cases h⟩

set_option maxRecDepth 100000 in
theorem lifted (os : Os) (started : os.Started) (H : Type) (enc : TypeId × Value → H) :
    ReturnsInHanded {} Try.checked os 7 .any (Rows.roomAllSpec.pre6 enc Try.prog Try.f7 Rows.roomAllRow.domain false) (Rows.roomAllSpec.post enc Try.prog Try.f7 false true false false) := by
  refine returnsInHanded_of_change_sized (C := Try.checked) own started (by kernel_rfl) Try.func7
    (ChangeSpec.witness6 (enc := enc) (C := Try.checked) false ⟨#[], #[.int .i64 0, .slice none 0 0], []⟩ 8 (by kernel_rfl) (by kernel_rfl) (by kernel_rfl) (by kernel_rfl)) ?_
  intro W base args ds gs before hval hW _ hsz _
  exact contract H enc W base args ds gs before hval hW hsz

theorem proved : Rows.RoomAllSaid :=
  OpenClaim.holds_of_wide 7 Try.f7 rfl rfl rfl rfl rfl rfl rfl ⟨rfl, rfl, rfl, rfl, rfl⟩ rfl rfl rfl rfl rfl (by kernel_rfl) Try.func7 (by kernel_rfl)
    (of_decide_eq_true (by kernel_rfl)) (by unfold Func.isWrapper; first | (rw [if_pos (by decide +kernel)]; kernel_rfl) | (rw [if_neg (by decide +kernel)]; exact ⟨rfl, rfl⟩))
    (fun os started H enc _ => lifted os started H enc)
#print axioms proved
end Go.Proofs.Ytpbcfkfhkenhpaa.roomAll

