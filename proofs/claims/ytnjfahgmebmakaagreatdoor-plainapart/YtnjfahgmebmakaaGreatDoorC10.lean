import Derived.Maps.OwnSet
import Derived.Maps.RangeWalk
import Derived.Lib.SlKeysI
import Derived.LaidEqlPtr
import Derived.Deep.RegionHeld3
import Derived.Test.YtnjfahgmebmakaaGreatDoorC9
/-
  OWN WORK. The landed plain (layer 18): maps of one's own, keyed by numbers: what each tells, as a list of keys; elements: numbers, pointers, maps.
-/
namespace Go.Proofs.YtnjfahgmebmakaaGreatDoor
open Go.RowKit Go.Maps Go.ChangeMaps Go.MapKept Go.WideShapes
set_option linter.unusedVariables false

theorem wf_of_i64 {k : Int} (h : I64 k) : (Lit.int .i64 k).wf = true := by
  obtain ⟨h1, h2⟩ := h
  simp [Lit.wf, IntKind.min, IntKind.max, IntKind.signed, IntKind.bits]
  omega
theorem i64_wf15 {z : Int} (h : (Lit.int .i64 z).wf = true) : I64 z := by
  have hb : -9223372036854775808 ≤ z ∧ z ≤ 9223372036854775807 := by simpa [Lit.wf, IntKind.min, IntKind.max, IntKind.signed, IntKind.bits] using h
  exact ⟨by omega, by omega⟩
theorem keyLit_int (k : Int) : WideAt.IsKeyLit (.int .i64 k) := trivial
theorem keyL : Keyed Tryz.prog 3 := int_keyed Tryz.underlying3
theorem filter_one_less {X : Type} (a : Lit) : ∀ l : List (Lit × X), l.Pairwise (fun p q => p.1 ≠ q.1) → l.length ≤ (l.filter fun p => !p.1.sameKey a).length + 1
  | [], _ => by simp
  | x :: l, h => by
    obtain ⟨h1, h2⟩ := List.pairwise_cons.1 h
    have ih := filter_one_less a l h2
    by_cases c : x.1.sameKey a = true
    · have : l.filter (fun p => !p.1.sameKey a) = l := List.filter_eq_self.2 fun p hp => by
        have e := sameKey_ne (a := p.1) (b := a) (fun e2 => by
          have ex : x.1 = a := Classical.byContradiction fun q => by rw [sameKey_ne q] at c; cases c
          exact h1 p hp (by rw [ex, e2]))
        simp [e]
      rw [List.filter_cons, if_neg (by simp [c]), this]
      simp
    · rw [List.filter_cons, if_pos (by simpa using c)]
      simp only [List.length_cons]
      omega
/-- keys that are all on a list are no more than it has -/
theorem few_in {X : Type} : ∀ (ks : List Int) (l : List (Lit × X)), l.Pairwise (fun p q => p.1 ≠ q.1) → (∀ p ∈ l, ∃ x ∈ ks, p.1 = .int .i64 x) → l.length ≤ ks.length
  | [], l, _, h => by
    cases l with
    | nil => simp
    | cons x l => obtain ⟨j, hj, _⟩ := h x (by simp); simp at hj
  | m :: ks, l, hp, h => by
    have h1 := filter_one_less (.int .i64 m) l hp
    have h2 := few_in ks (l.filter fun p => !p.1.sameKey (.int .i64 m)) (hp.sublist List.filter_sublist) fun p hpm => by
      obtain ⟨q1, q2⟩ := List.mem_filter.1 hpm
      obtain ⟨j, hj, e⟩ := h p q1
      refine ⟨j, ?_, e⟩
      rcases List.mem_cons.1 hj with ej | hj
      · rw [e, ej] at q2
        simp [Lit.sameKey] at q2
      · exact hj
    simp only [List.length_cons]
    omega
theorem own_in {R : Value → Option (DataW Unit × List MemPlace)} {w : World} {b n : Nat} {D : DataW Unit} {ks : List Int} (h : w.ownsMap Tryz.prog 3 R b n D) (ht : ∀ x, I64 x → Maps.has D (.int .i64 x) = true → x ∈ ks) : w.ownsMap Tryz.prog 3 R b ks.length D := by
  obtain ⟨es, clock, hb, F, hn, hD⟩ := h
  refine ⟨es, clock, hb, F, ?_, hD⟩
  have hl : (es.toList.map (WideElems.rg Tryz.prog 3 R)).length = es.size := by simp
  rw [← hl]
  refine few_in ks _ (fit_apart keyL F) fun p hp => ?_
  obtain ⟨v, hv⟩ := fit_keys F p hp
  obtain ⟨x, -, ex, hwx⟩ := Maps.keyOf_int_inv Tryz.underlying3 hv
  have hhas : Maps.has D p.1 = true := by
    rw [hD, has_eq, List.any_eq_true]
    exact ⟨p, ((sorted_perm _).mem_iff).2 hp, by rw [ex]; simp [Lit.sameKey]⟩
  rw [ex] at hhas
  exact ⟨x, ht x (i64_wf15 hwx) hhas, ex⟩
theorem ownsMap_kept {R : Value → Option (DataW Unit × List MemPlace)} {w w' : World} {S : List Nat} {b n : Nat} {D : DataW Unit} (h : w.ownsMap Tryz.prog 3 R b n D) (k : Kept S w w') (hS : b ∉ S) : w'.ownsMap Tryz.prog 3 R b n D := by
  have hlt := h.lt
  obtain ⟨es, clock, hb, r⟩ := h
  exact ⟨es, clock, (k.block b hlt hS).trans hb, r⟩
theorem ownsMap_blk {R : Value → Option (DataW Unit × List MemPlace)} {w : World} {g b n : Nat} {t : TypeId} {cs : List Value} {D : DataW Unit} (h1 : Blk w g t cs) (h2 : w.ownsMap Tryz.prog 3 R b n D) : g ≠ b := fun e => by
  obtain ⟨es, clock, hb, -⟩ := h2
  unfold Blk at h1
  rw [← e, h1] at hb
  cases hb
/-- how a pointer to a block's begin reads: the block's number, and one; 0: none -/
def ptrElem : Value → Option (DataW Unit × List MemPlace)
  | .pointer none => some (.lit (.int .i64 0), [])
  | .pointer (some ⟨b, 0, none⟩) => some (.lit (.int .i64 ((b : Int) + 1)), [])
  | _ => none
theorem ptrElem_zero : ptrElem (.pointer none) = some (.lit (.int .i64 0), []) := rfl
theorem ptrElem_some (b : Nat) : ptrElem (.pointer (some ⟨b, 0, none⟩)) = some (.lit (.int .i64 ((b : Int) + 1)), []) := rfl
theorem ptrElem_inv {v : Value} {s : Nat} {ps : List MemPlace} (h : ptrElem v = some (.lit (.int .i64 ((s : Int) + 1)), ps)) : v = .pointer (some ⟨s, 0, none⟩) := by
  unfold ptrElem at h
  split at h
  · simp at h; omega
  · rename_i b
    simp at h
    obtain ⟨h1, -⟩ := h
    have : b = s := by omega
    rw [this]
  · cases h
theorem ptrElem_inv0 {v : Value} {ps : List MemPlace} (h : ptrElem v = some (.lit (.int .i64 0), ps)) : v = .pointer none := by
  unfold ptrElem at h
  split at h
  · rfl
  · rename_i b
    simp at h
    omega
  · cases h
section
variable {P : Program} (w : World) {ops : Array Oper} {rest : List Oper} {o : Oper} {a : Act} {Q : Exit → Act → World → Prop}
theorem wpList_lookup_there (hg : o.guard = none) (m x : Operand) (t : TypeId) (hop : o.op = Op.lookup t m x true)
    (k e : TypeId) (K : Keyed P k) (ht : P.underlying t = some (.map k e)) (hz : (zeroValue e).run P w = .ok (.pointer none) w) (b n : Nat) (D : DataW Unit)
    (hm : a.eval m = .map (some b)) (hown : w.ownsMap P k ptrElem b n D) (key : Value) (kl : Lit) (hx : a.eval x = key) (hkey : keyOf P k key = some kl) (s : Nat) (hhas : Maps.has D kl = true) (hat : D.atKey kl (.lit (.int .i64 0)) = .lit (.int .i64 ((s : Int) + 1)))
    (hK : wpList P ops Q rest (a.put o.dst (.tuple #[.pointer (some ⟨s, 0, none⟩), .bool true])) w) :
    wpList P ops Q (o :: rest) a w :=
  wpList_lookup_own_ok w hg m x t hop k e K ht ptrElem hz (.lit (.int .i64 0)) [] ptrElem_zero b n D hm hown key kl hx hkey (fun v ps hv => by
    rw [hat] at hv
    rw [ptrElem_inv hv, hhas]
    exact hK)
theorem wpList_lookup_gone (hg : o.guard = none) (m x : Operand) (t : TypeId) (hop : o.op = Op.lookup t m x true)
    (k e : TypeId) (K : Keyed P k) (ht : P.underlying t = some (.map k e)) (hz : (zeroValue e).run P w = .ok (.pointer none) w) (b n : Nat) (D : DataW Unit)
    (hm : a.eval m = .map (some b)) (hown : w.ownsMap P k ptrElem b n D) (key : Value) (kl : Lit) (hx : a.eval x = key) (hkey : keyOf P k key = some kl) (hhas : Maps.has D kl = false) (hat : D.atKey kl (.lit (.int .i64 0)) = .lit (.int .i64 0))
    (hK : wpList P ops Q rest (a.put o.dst (.tuple #[.pointer none, .bool false])) w) :
    wpList P ops Q (o :: rest) a w :=
  wpList_lookup_own_ok w hg m x t hop k e K ht ptrElem hz (.lit (.int .i64 0)) [] ptrElem_zero b n D hm hown key kl hx hkey (fun v ps hv => by
    rw [hat] at hv
    rw [ptrElem_inv0 hv, hhas]
    exact hK)
end
/-- how a map among elements reads: its block's number, and one; 0: none -/
def mapElem : Value → Option (DataW Unit × List MemPlace)
  | .map none => some (.lit (.int .i64 0), [])
  | .map (some b) => some (.lit (.int .i64 ((b : Int) + 1)), [])
  | _ => none
theorem mapElem_zero : mapElem (.map none) = some (.lit (.int .i64 0), []) := rfl
theorem mapElem_some (b : Nat) : mapElem (.map (some b)) = some (.lit (.int .i64 ((b : Int) + 1)), []) := rfl
theorem mapElem_inv {v : Value} {s : Nat} {ps : List MemPlace} (h : mapElem v = some (.lit (.int .i64 ((s : Int) + 1)), ps)) : v = .map (some s) := by
  unfold mapElem at h
  split at h
  · simp at h; omega
  · rename_i b
    simp at h
    obtain ⟨h1, -⟩ := h
    have : b = s := by omega
    rw [this]
  · cases h
theorem mapElem_inv0 {v : Value} {ps : List MemPlace} (h : mapElem v = some (.lit (.int .i64 0), ps)) : v = .map none := by
  unfold mapElem at h
  split at h
  · rfl
  · rename_i b
    simp at h
    omega
  · cases h
section
variable {P : Program} (w : World) {ops : Array Oper} {rest : List Oper} {o : Oper} {a : Act} {Q : Exit → Act → World → Prop}
theorem wpList_lookup_mthere (hg : o.guard = none) (m x : Operand) (t : TypeId) (hop : o.op = Op.lookup t m x true)
    (k e : TypeId) (K : Keyed P k) (ht : P.underlying t = some (.map k e)) (hz : (zeroValue e).run P w = .ok (.map none) w) (b n : Nat) (D : DataW Unit)
    (hm : a.eval m = .map (some b)) (hown : w.ownsMap P k mapElem b n D) (key : Value) (kl : Lit) (hx : a.eval x = key) (hkey : keyOf P k key = some kl) (s : Nat) (hhas : Maps.has D kl = true) (hat : D.atKey kl (.lit (.int .i64 0)) = .lit (.int .i64 ((s : Int) + 1)))
    (hK : wpList P ops Q rest (a.put o.dst (.tuple #[.map (some s), .bool true])) w) :
    wpList P ops Q (o :: rest) a w :=
  wpList_lookup_own_ok w hg m x t hop k e K ht mapElem hz (.lit (.int .i64 0)) [] mapElem_zero b n D hm hown key kl hx hkey (fun v ps hv => by
    rw [hat] at hv
    rw [mapElem_inv hv, hhas]
    exact hK)
theorem wpList_lookup_mgone (hg : o.guard = none) (m x : Operand) (t : TypeId) (hop : o.op = Op.lookup t m x true)
    (k e : TypeId) (K : Keyed P k) (ht : P.underlying t = some (.map k e)) (hz : (zeroValue e).run P w = .ok (.map none) w) (b n : Nat) (D : DataW Unit)
    (hm : a.eval m = .map (some b)) (hown : w.ownsMap P k mapElem b n D) (key : Value) (kl : Lit) (hx : a.eval x = key) (hkey : keyOf P k key = some kl) (hhas : Maps.has D kl = false) (hat : D.atKey kl (.lit (.int .i64 0)) = .lit (.int .i64 0))
    (hK : wpList P ops Q rest (a.put o.dst (.tuple #[.map none, .bool false])) w) :
    wpList P ops Q (o :: rest) a w :=
  wpList_lookup_own_ok w hg m x t hop k e K ht mapElem hz (.lit (.int .i64 0)) [] mapElem_zero b n D hm hown key kl hx hkey (fun v ps hv => by
    rw [hat] at hv
    rw [mapElem_inv0 hv, hhas]
    exact hK)
end
/-- what a map tells: f -/
structure Tel (D : DataW Unit) (z : Lit) (f : Int → Option Lit) : Prop where
  has : ∀ k : Int, I64 k → Maps.has D (.int .i64 k) = (f k).isSome
  atk : ∀ k : Int, I64 k → D.atKey (.int .i64 k) (.lit z) = .lit ((f k).getD z)
theorem Tel.nil (z : Lit) : Tel (.map []) z (fun _ => none) := ⟨fun k _ => rfl, fun k _ => rfl⟩
theorem Tel.put {D : DataW Unit} {z : Lit} {f : Int → Option Lit} (h : Tel D z f) (hD : IsMap D) (k : Int) (v : Lit) : Tel (D.put (.int .i64 k) (.lit v)) z (fun j => if j = k then some v else f j) := by
  refine ⟨fun j hj => ?_, fun j hj => ?_⟩
  · by_cases e : j = k
    · rw [e, has_put_same hD (keyLit_int _)]; simp
    · rw [has_put_other (by simpa using e), h.has j hj]; simp [e]
  · by_cases e : j = k
    · rw [e, atKey_put_same hD (keyLit_int _)]; simp
    · rw [atKey_put_other (by simpa using e), h.atk j hj]; simp [e]
theorem Tel.del {D : DataW Unit} {z : Lit} {f : Int → Option Lit} (h : Tel D z f) (k : Int) : Tel (D.del (.int .i64 k)) z (fun j => if j = k then none else f j) := by
  refine ⟨fun j hj => ?_, fun j hj => ?_⟩
  · by_cases e : j = k
    · rw [e, has_del_same]; simp
    · rw [has_del_other (by simpa using e), h.has j hj]; simp [e]
  · by_cases e : j = k
    · rw [e, atKey_del_same]; simp
    · rw [atKey_del_other (by simpa using e), h.atk j hj]; simp [e]
theorem Tel.congr {D : DataW Unit} {z : Lit} {f f' : Int → Option Lit} (h : Tel D z f) (e : ∀ k, f k = f' k) : Tel D z f' := by
  have : f = f' := funext e
  rw [← this]; exact h
/-- the keys, each once -/
structure KsOk (f : Int → Option Lit) (ks : List Int) : Prop where
  nd : ks.Nodup
  mem : ∀ k, k ∈ ks ↔ (f k).isSome = true
  i64 : ∀ k ∈ ks, I64 k
/-- a map of one's own in block b that tells f, with the keys ks -/
def Mp (w : World) (R : Value → Option (DataW Unit × List MemPlace)) (b : Nat) (z : Lit) (f : Int → Option Lit) (ks : List Int) : Prop := ∃ D, w.ownsMap Tryz.prog 3 R b ks.length D ∧ Tel D z f ∧ KsOk f ks
theorem Mp.kept {w w' : World} {R : Value → Option (DataW Unit × List MemPlace)} {b : Nat} {z : Lit} {f : Int → Option Lit} {ks : List Int} {S : List Nat} (h : Mp w R b z f ks) (k : Kept S w w') (hS : b ∉ S) : Mp w' R b z f ks := by
  obtain ⟨D, h1, h2, h3⟩ := h
  exact ⟨D, ownsMap_kept h1 k hS, h2, h3⟩
theorem Mp.lt {w : World} {R : Value → Option (DataW Unit × List MemPlace)} {b : Nat} {z : Lit} {f : Int → Option Lit} {ks : List Int} (h : Mp w R b z f ks) : b < w.heap.size := by
  obtain ⟨D, h1, -⟩ := h
  exact h1.lt
theorem Mp.blk {w : World} {R : Value → Option (DataW Unit × List MemPlace)} {g b : Nat} {t : TypeId} {cs : List Value} {z : Lit} {f : Int → Option Lit} {ks : List Int} (h1 : Blk w g t cs) (h : Mp w R b z f ks) : g ≠ b := by
  obtain ⟨D, h2, -⟩ := h
  exact ownsMap_blk h1 h2
theorem mem_of_ks {D : DataW Unit} {z : Lit} {f : Int → Option Lit} {ks : List Int} (h : Tel D z f) (hk : KsOk f ks) : ∀ x, I64 x → Maps.has D (.int .i64 x) = true → x ∈ ks := fun x hx e => (hk.mem x).2 (by rw [← h.has x hx]; exact e)
theorem Mp.of {w : World} {R : Value → Option (DataW Unit × List MemPlace)} {b n : Nat} {z : Lit} {f : Int → Option Lit} {ks : List Int} {D : DataW Unit} (h : w.ownsMap Tryz.prog 3 R b n D) (ht : Tel D z f) (hk : KsOk f ks) : Mp w R b z f ks := ⟨D, own_in h (mem_of_ks ht hk), ht, hk⟩
theorem size_ks {w : World} {R : Value → Option (DataW Unit × List MemPlace)} {b n : Nat} {z : Lit} {f : Int → Option Lit} {ks : List Int} {D : DataW Unit} (h : w.ownsMap Tryz.prog 3 R b n D) (ht : Tel D z f) (hk : KsOk f ks) : ks.Perm (intKeys D) ∧ Maps.size D = ks.length := by
  obtain ⟨es, hD, hpw, _⟩ := h.entries keyL
  obtain ⟨es', hD', hko⟩ := h.keysOf
  obtain rfl : es = es' := by rw [hD] at hD'; simpa using hD'
  subst hD
  have p : ks.Perm (intKeys (.map es)) := perm_intKeys hpw (fun p hp => by obtain ⟨v, hv⟩ := hko p hp; obtain ⟨x, _, hx, _⟩ := Maps.keyOf_i64 Tryz.underlying3 hv; exact ⟨x, hx⟩) hk.nd (fun x => by
    by_cases hx : I64 x
    · rw [hk.mem x, ht.has x hx]
    · constructor
      · exact fun q => absurd (hk.i64 x q) hx
      · intro q
        rw [has_eq, List.any_eq_true] at q
        obtain ⟨p, hp, hs⟩ := q
        obtain ⟨v, hv⟩ := hko p hp
        obtain ⟨y, _, hy, hw⟩ := Maps.keyOf_i64 Tryz.underlying3 hv
        rw [hy] at hs
        have : y = x := by simpa [Lit.sameKey] using hs
        exact absurd (this ▸ i64_wf15 hw) hx)
  exact ⟨p, by rw [p.length_eq]; simp [intKeys, Maps.size]⟩
theorem Mp.made (w : World) (R : Value → Option (DataW Unit × List MemPlace)) (z : Lit) : Mp (w.alloc (.map #[] 0)) R w.heap.size z (fun _ => none) [] := ⟨.map [], World.ownsMap_made w _ _ _, Tel.nil z, ⟨List.nodup_nil, by simp, by simp⟩⟩
/-- values: keys and numbers of 64 bits, as a rising list -/
def fV (l : List (Int × Int)) (k : Int) : Option Lit := (lookE l k).map (Lit.int .u64)
def Vm (w : World) (b : Nat) (l : List (Int × Int)) : Prop := Mp w (plainElem Tryz.prog 45) b (.int .u64 0) (fV l) (l.map Prod.fst) ∧ Rise l
theorem Vm.kept {w w' : World} {b : Nat} {l : List (Int × Int)} {S : List Nat} (h : Vm w b l) (k : Kept S w w') (hS : b ∉ S) : Vm w' b l := ⟨h.1.kept k hS, h.2⟩
theorem Vm.lt {w : World} {b : Nat} {l : List (Int × Int)} (h : Vm w b l) : b < w.heap.size := h.1.lt
theorem Vm.made (w : World) : Vm (w.alloc (.map #[] 0)) w.heap.size [] := ⟨Mp.made w _ _, .nil⟩
theorem fV_isSome {l : List (Int × Int)} {k : Int} : (fV l k).isSome = (lookE l k).isSome := by unfold fV; rw [Option.isSome_map]
theorem ksOk_fV {l : List (Int × Int)} (h : Rise l) (hi : ∀ e ∈ l, I64 e.1) : KsOk (fV l) (l.map Prod.fst) := by
  refine ⟨h.nodup, fun k => ?_, fun k hk => ?_⟩
  · rw [fV_isSome]
    constructor
    · intro hk
      obtain ⟨e, he, rfl⟩ := List.mem_map.1 hk
      rw [(lookE_some h (k := e.1) (v := e.2)).2 he]; rfl
    · intro hk
      obtain ⟨v, hv⟩ := Option.isSome_iff_exists.1 hk
      exact List.mem_map.2 ⟨(k, v), (lookE_some h).1 hv, rfl⟩
  · obtain ⟨e, he, rfl⟩ := List.mem_map.1 hk
    exact hi e he
theorem Vm.i64 {w : World} {b : Nat} {l : List (Int × Int)} (h : Vm w b l) : ∀ e ∈ l, I64 e.1 := fun e he => by
  obtain ⟨D, -, -, hk⟩ := h.1
  exact hk.i64 _ (List.mem_map.2 ⟨e, he, rfl⟩)
theorem fV_lay {x : Chg} {l : List (Int × Int)} (h : Rise l) (j : Int) : fV (layE x x.gone l) j = if j = x.key then (if x.gone = true then none else some (.int .u64 x.val)) else fV l j := by
  unfold fV
  rw [lookE_lay h]
  split
  · split <;> rfl
  · rfl
/-- a change is laid -/
theorem Vm.put {w w' : World} {b n : Nat} {l : List (Int × Int)} {D : DataW Unit} {x : Chg} (ht : Tel D (.int .u64 0) (fV l)) (hr : Rise l) (hi : ∀ e ∈ l, I64 e.1) (hx : I64 x.key) (hD : IsMap D) (hg : x.gone = false) (h : w'.ownsMap Tryz.prog 3 (plainElem Tryz.prog 45) b n (D.put (.int .i64 x.key) (.lit (.int .u64 x.val)))) : Vm w' b (layE x x.gone l) := by
  refine ⟨Mp.of h ((ht.put hD x.key (.int .u64 x.val)).congr fun j => ?_) (ksOk_fV (lay_mem x hr).2 fun e he => ?_), (lay_mem x hr).2⟩
  · rw [fV_lay hr, hg]
    simp
  · rcases ((lay_mem x hr).1 e).1 he with ⟨-, rfl⟩ | ⟨h1, -⟩
    · exact hx
    · exact hi e h1
theorem Vm.del {w w' : World} {b n : Nat} {l : List (Int × Int)} {D : DataW Unit} {x : Chg} (ht : Tel D (.int .u64 0) (fV l)) (hr : Rise l) (hi : ∀ e ∈ l, I64 e.1) (hg : x.gone = true) (h : w'.ownsMap Tryz.prog 3 (plainElem Tryz.prog 45) b n (D.del (.int .i64 x.key))) : Vm w' b (layE x x.gone l) := by
  refine ⟨Mp.of h ((ht.del x.key).congr fun j => ?_) (ksOk_fV (lay_mem x hr).2 fun e he => ?_), (lay_mem x hr).2⟩
  · rw [fV_lay hr, hg]
    simp
  · rcases ((lay_mem x hr).1 e).1 he with ⟨h1, -⟩ | ⟨h1, -⟩
    · rw [hg] at h1; cases h1
    · exact hi e h1
theorem ranges_kept {R : Value → Option (DataW Unit × List MemPlace)} {w w' : World} {S : List Nat} {b r n cnt : Nat} {D : DataW Unit} {left : Lit → Bool} (h : w.ranges Tryz.prog 3 R b r n D left cnt) (k : Kept S w w') (hb : b ∉ S) (hr : r ∉ S) : w'.ranges Tryz.prog 3 R b r n D left cnt := by
  have h1 := h.owns.lt
  have h2 := h.lt
  obtain ⟨es, clock, since, seen, c0, hbb, F, hs, hD, hrr, rest⟩ := h
  exact ⟨es, clock, since, seen, c0, (k.block b h1 hb).trans hbb, F, hs, hD, (k.block r h2 hr).trans hrr, rest⟩
end Go.Proofs.YtnjfahgmebmakaaGreatDoor

/-
  OWN WORK. The landed plain (layer 18): how its State lies in memory: V says what value stands for each part of it.
-/
namespace Go.Proofs.YtnjfahgmebmakaaGreatDoor
open Go.RowKit Go.Maps Go.ChangeMaps Go.MapKept Go.WideShapes
set_option linter.unusedVariables false
set_option linter.unusedSimpArgs false

/-- the parts of a State: the box, the pages' row, the map of the open ones, the row of what is done; a page's values, a done one's changes; of an open one the box, what it holds, its changes, its own values of a page -/
inductive Tag where
  | g | bp | bo | vd
  | pg (p : Int) | dn (j : Nat)
  | tx (id : Int) | hd (id : Int) | ch (id : Int) | ow (id p : Int)
  deriving DecidableEq
def blkOf : Value → Option Nat
  | .map (some b) => some b
  | .pointer (some a) => some a.block
  | .slice (some a) _ _ => some a.block
  | _ => none
theorem blkOf_slice {v : Value} {p : Option Addr} {n c : Nat} (e : v = .slice p n c) : blkOf v = v.ownBlock := by subst e; cases p <;> rfl
theorem Row.blkOf {w : World} {base sz : Nat} {v : Value} {n : Nat} {cs : List Value} (h : Row w base sz v n cs) : Go.Proofs.YtnjfahgmebmakaaGreatDoor.blkOf v = v.ownBlock := by
  obtain ⟨p, c, e, -, -⟩ := h.shape
  exact blkOf_slice e
def nOf (v : Value) : Nat := (blkOf v).getD 0
def upd (V : Tag → Value) (a : Tag) (v : Value) : Tag → Value := fun b => if b = a then v else V b
theorem upd_same (V : Tag → Value) (a : Tag) (v : Value) : upd V a v a = v := if_pos rfl
theorem upd_other {V : Tag → Value} {a b : Tag} {v : Value} (h : b ≠ a) : upd V a v b = V b := if_neg h
/-- no two parts share a block -/
structure Inj (N : Nat) (V : Tag → Value) : Prop where
  inj : ∀ a b x, blkOf (V a) = some x → blkOf (V b) = some x → a = b
  lt : ∀ a x, blkOf (V a) = some x → x < N
theorem Inj.mono {N N' : Nat} {V : Tag → Value} (h : Inj N V) (hN : N ≤ N') : Inj N' V := ⟨h.inj, fun a x e => Nat.lt_of_lt_of_le (h.lt a x e) hN⟩
theorem Inj.upd {N N' : Nat} {V : Tag → Value} (h : Inj N V) {a : Tag} {v : Value} (hN : N ≤ N') (hv : ∀ x, blkOf v = some x → (N ≤ x ∧ x < N') ∨ blkOf (V a) = some x) : Inj N' (upd V a v) := by
  refine ⟨fun b1 b2 x h1 h2 => ?_, fun b x h1 => ?_⟩
  · unfold Go.Proofs.YtnjfahgmebmakaaGreatDoor.upd at h1 h2
    split at h1
    · rename_i e1
      split at h2
      · rename_i e2; rw [e1, e2]
      · rcases hv x h1 with q | q
        · have := h.lt _ _ h2; omega
        · rename_i e2; exact absurd (h.inj _ _ _ h2 q) e2
    · rename_i e1
      split at h2
      · rcases hv x h2 with q | q
        · have := h.lt _ _ h1; omega
        · exact absurd (h.inj _ _ _ h1 q) e1
      · exact h.inj _ _ _ h1 h2
  · unfold Go.Proofs.YtnjfahgmebmakaaGreatDoor.upd at h1
    split at h1
    · rcases hv x h1 with q | q
      · exact q.2
      · have := h.lt _ _ q; omega
    · have := h.lt _ _ h1; omega
/-- parts that are gone -/
def cut (V : Tag → Value) (p : Tag → Bool) : Tag → Value := fun a => if p a = true then .bool false else V a
theorem Inj.cut {N : Nat} {V : Tag → Value} (h : Inj N V) (p : Tag → Bool) : Inj N (cut V p) := by
  have e : ∀ a x, blkOf (Go.Proofs.YtnjfahgmebmakaaGreatDoor.cut V p a) = some x → blkOf (V a) = some x := fun a x q => by
    unfold Go.Proofs.YtnjfahgmebmakaaGreatDoor.cut at q
    split at q
    · cases q
    · exact q
  exact ⟨fun a b x h1 h2 => h.inj a b x (e a x h1) (e b x h2), fun a x h1 => h.lt a x (e a x h1)⟩
/-- is it a part of the transaction? -/
def ofT (id : Int) : Tag → Bool
  | .tx i => i == id
  | .hd i => i == id
  | .ch i => i == id
  | .ow i _ => i == id
  | _ => false
def fO (V : Tag → Value) (l : List Tn) (id : Int) : Option Lit := if (findO l id).isSome = true then some (.int .i64 ((nOf (V (.tx id)) : Int) + 1)) else none
def fH (V : Tag → Value) (t : Tn) (p : Int) : Option Lit := if p ∈ t.pages then some (.int .i64 ((nOf (V (.ow t.id p)) : Int) + 1)) else none
/-- how an open transaction lies -/
structure TxP (w : World) (V : Tag → Value) (c : Cf) (S : St) (t : Tn) : Prop where
  box : ∃ x, V (.tx t.id) = .pointer (some ⟨x, 0, none⟩) ∧ Blk w x 116 [V (.hd t.id), V (.ch t.id), .int .i64 t.kept]
  hd : ∃ h, V (.hd t.id) = .map (some h) ∧ Mp w mapElem h (.int .i64 0) (fH V t) t.pages
  chs : Cs w 0 (V (.ch t.id)) t.chs
  own : ∀ p ∈ t.pages, ∃ o, V (.ow t.id p) = .map (some o) ∧ Vm w o (pgT c S t p)
/-- how the State lies -/
structure PpP (w : World) (V : Tag → Value) (g : Nat) (c : Cf) (S : St) : Prop where
  vg : V .g = .pointer (some ⟨g, 0, none⟩)
  box : Blk w g 80 [.int .i64 c.pages, .int .i64 c.slots, .int .i64 c.log, .int .i64 c.frames, .int .i64 c.table, .int .i64 c.keys, V .bp, V .bo, .int .i64 S.used, V .vd]
  pgs : Row w 0 1 (V .bp) c.pages.toNat ((List.range c.pages.toNat).map fun i : Nat => V (.pg (i : Int)))
  pg : ∀ p : Int, 0 ≤ p → p < c.pages → ∃ b, V (.pg p) = .map (some b) ∧ Vm w b (pgD c S p)
  opn : ∃ b, V .bo = .map (some b) ∧ Mp w ptrElem b (.int .i64 0) (fO V S.opn) (S.opn.map Tn.id)
  txs : ∀ t ∈ S.opn, TxP w V c S t
  done : Row w 0 1 (V .vd) S.done.length ((List.range S.done.length).map fun j => V (.dn j))
  dns : ∀ j l, S.done[j]? = some l → Cs w 0 (V (.dn j)) l
  inj : Inj w.heap.size V
  ok : OkS c S
  ok2 : Ok2 c S
/-- a part stays where its block does -/
theorem TxP.kept {w w' : World} {V : Tag → Value} {c : Cf} {S : St} {t : Tn} {X : List Nat} (h : TxP w V c S t) (k : Kept X w w') (hX : ∀ a x, ofT t.id a = true → blkOf (V a) = some x → x ∉ X) : TxP w' V c S t := by
  obtain ⟨x, e1, h1⟩ := h.box
  obtain ⟨b, e2, h2⟩ := h.hd
  refine ⟨⟨x, e1, h1.kept k (hX (.tx t.id) x (by simp [ofT]) (by rw [e1]; rfl))⟩, ⟨b, e2, h2.kept k (hX (.hd t.id) b (by simp [ofT]) (by rw [e2]; rfl))⟩, h.chs.kept k fun y hy => hX (.ch t.id) y (by simp [ofT]) (by rw [Row.blkOf h.chs]; exact hy), fun p hp => ?_⟩
  obtain ⟨o, e3, h3⟩ := h.own p hp
  exact ⟨o, e3, h3.kept k (hX (.ow t.id p) o (by simp [ofT]) (by rw [e3]; rfl))⟩
/-- .. told by values that are the same -/
theorem TxP.congr {w : World} {V V' : Tag → Value} {c : Cf} {S S' : St} {t : Tn} (h : TxP w V c S t) (e : ∀ a, ofT t.id a = true → V' a = V a) (ed : ∀ p ∈ t.pages, pgT c S' t p = pgT c S t p) : TxP w V' c S' t := by
  have e1 := e (.tx t.id) (by simp [ofT])
  have e2 := e (.hd t.id) (by simp [ofT])
  have e3 := e (.ch t.id) (by simp [ofT])
  have e4 : fH V' t = fH V t := by
    funext p
    unfold fH
    rw [e (.ow t.id p) (by simp [ofT])]
  refine ⟨by rw [e1, e2, e3]; exact h.box, by rw [e2, e4]; exact h.hd, by rw [e3]; exact h.chs, fun p hp => ?_⟩
  rw [e (.ow t.id p) (by simp [ofT]), ed p hp]
  exact h.own p hp
theorem PpP.kept {w w' : World} {V : Tag → Value} {g : Nat} {c : Cf} {S : St} {X : List Nat} (h : PpP w V g c S) (k : Kept X w w') (hX : ∀ a x, blkOf (V a) = some x → x ∉ X) : PpP w' V g c S := by
  obtain ⟨bo, e1, h1⟩ := h.opn
  refine ⟨h.vg, h.box.kept k (hX .g g (by rw [h.vg]; rfl)), h.pgs.kept k (fun x hx => hX .bp x (by rw [Row.blkOf h.pgs]; exact hx)), fun p p0 p1 => ?_, ⟨bo, e1, h1.kept k (hX .bo bo (by rw [e1]; rfl))⟩, fun t ht => (h.txs t ht).kept k (fun a x _ q => hX a x q), h.done.kept k (fun x hx => hX .vd x (by rw [Row.blkOf h.done]; exact hx)), fun j l hj => ?_, h.inj.mono k.size, h.ok, h.ok2⟩
  · obtain ⟨b, e2, h2⟩ := h.pg p p0 p1
    exact ⟨b, e2, h2.kept k (hX (.pg p) b (by rw [e2]; rfl))⟩
  · have q := h.dns j l hj
    exact q.kept k (fun x hx => hX (.dn j) x (by rw [Row.blkOf q]; exact hx))
theorem PpP.then {w w' : World} {V : Tag → Value} {g : Nat} {c : Cf} {S : St} (h : PpP w V g c S) (k : Kept [] w w') : PpP w' V g c S := h.kept k (by simp)
theorem Tag.ne_of {id : Int} {a b : Tag} (ha : ofT id a = true) (hb : ofT id b = false) : a ≠ b := fun e => by rw [e, hb] at ha; cases ha
theorem ofT_other {id id' : Int} {a : Tag} (h : ofT id a = true) (hne : id ≠ id') : ofT id' a = false := by
  cases a <;> simp [ofT] at h ⊢ <;> rw [h] <;> exact hne
/-- one of the open ones is another -/
theorem PpP.setT {w w' : World} {V V' : Tag → Value} {g : Nat} {c : Cf} {S : St} {X : List Nat} {k : Nat} {t t' : Tn} (h : PpP w V g c S) (hk : S.opn[k]? = some t) (hid : t'.id = t.id) (kk : Kept X w w') (hX : ∀ x ∈ X, w.heap.size ≤ x ∨ x = g ∨ ∃ a, ofT t.id a = true ∧ blkOf (V a) = some x) {u : Int}
    (hbg : Blk w' g 80 [.int .i64 c.pages, .int .i64 c.slots, .int .i64 c.log, .int .i64 c.frames, .int .i64 c.table, .int .i64 c.keys, V .bp, V .bo, .int .i64 u, V .vd])
    (hV : ∀ a, ofT t.id a = false → V' a = V a) (htx : V' (.tx t.id) = V (.tx t.id)) (hT : TxP w' V' c S t') (hinj : Inj w'.heap.size V') (hok : OkS c ⟨S.done, S.opn.set k t', u⟩) (hok2 : Ok2 c ⟨S.done, S.opn.set k t', u⟩) : PpP w' V' g c ⟨S.done, S.opn.set k t', u⟩ := by
  have out : ∀ a x, a ≠ .g → ofT t.id a = false → blkOf (V a) = some x → x ∉ X := fun a x hg ha hx hm => by
    rcases hX x hm with q | q | ⟨b, hb, q⟩
    · have := h.inj.lt _ _ hx; omega
    · rw [q] at hx; exact hg (h.inj.inj _ _ _ hx (by rw [h.vg]; rfl))
    · exact Tag.ne_of hb ha (h.inj.inj _ _ _ q hx)
  have eg := hV .g rfl
  have ebp := hV .bp rfl
  have ebo := hV .bo rfl
  have evd := hV .vd rfl
  have epg : ∀ p, V' (.pg p) = V (.pg p) := fun p => hV _ rfl
  have edn : ∀ j, V' (.dn j) = V (.dn j) := fun j => hV _ rfl
  obtain ⟨bo, e1, h1⟩ := h.opn
  have hids : (S.opn.set k t').map Tn.id = S.opn.map Tn.id := by
    rw [List.map_set, hid]
    obtain ⟨hl, e⟩ := List.getElem?_eq_some_iff.1 hk
    rw [← e]
    apply List.ext_getElem (by simp)
    intro i hi1 hi2
    rw [List.getElem_set]
    split
    · rename_i q; subst q; simp
    · rfl
  have hfind : ∀ i, (findO (S.opn.set k t') i).isSome = (findO S.opn i).isSome := fun i => by
    rw [Bool.eq_iff_iff, findO_mem, findO_mem, hids]
  have hfo : fO V' (S.opn.set k t') = fO V S.opn := by
    funext i
    unfold fO
    rw [hfind]
    by_cases q : i = t.id
    · rw [q, htx]
    · rw [hV (.tx i) (by simp [ofT, q])]
  have hm := List.mem_of_getElem? hk
  refine ⟨by rw [eg]; exact h.vg, ?_, ?_, fun p p0 p1 => ?_, ?_, fun a ha => ?_, ?_, fun j l hj => ?_, hinj, hok, hok2⟩
  · rw [ebp, ebo, evd]; exact hbg
  · rw [ebp, show (fun i : Nat => V' (.pg (i : Int))) = fun i : Nat => V (.pg (i : Int)) from funext fun i => epg i]
    exact h.pgs.kept kk (fun x hx => out .bp x (by simp) rfl (by rw [Row.blkOf h.pgs]; exact hx))
  · obtain ⟨b, e2, h2⟩ := h.pg p p0 p1
    exact ⟨b, by rw [epg]; exact e2, h2.kept kk (out (.pg p) b (by simp) rfl (by rw [e2]; rfl))⟩
  · refine ⟨bo, by rw [ebo]; exact e1, ?_⟩
    show Mp w' ptrElem bo (.int .i64 0) (fO V' (S.opn.set k t')) ((S.opn.set k t').map Tn.id)
    rw [hfo, hids]
    exact h1.kept kk (out .bo bo (by simp) rfl (by rw [e1]; rfl))
  · rcases mem_set ha with rfl | ⟨i, hi, hai⟩
    · exact ⟨hT.box, hT.hd, hT.chs, hT.own⟩
    · have hne := ids_ne h.ok.dif hai hk hi
      have q := (h.txs a (List.mem_of_getElem? hai)).kept kk (fun b x hb hx => out b x (by intro e; subst e; cases hb) (ofT_other hb hne) hx)
      exact q.congr (fun b hb => hV b (ofT_other hb hne)) (fun p _ => rfl)
  · show Row w' 0 1 (V' .vd) S.done.length ((List.range S.done.length).map fun j => V' (.dn j))
    rw [evd, show (fun j : Nat => V' (.dn j)) = fun j => V (.dn j) from funext fun j => edn j]
    exact h.done.kept kk (fun x hx => out .vd x (by simp) rfl (by rw [Row.blkOf h.done]; exact hx))
  · have q := h.dns j l hj
    rw [edn]
    exact q.kept kk (fun x hx => out (.dn j) x (by simp) rfl (by rw [Row.blkOf q]; exact hx))
/-- the sum is another -/
theorem PpP.useT {w w' : World} {V : Tag → Value} {g : Nat} {c : Cf} {S : St} {u : Int} (h : PpP w V g c S) (kk : Kept [g] w w') (hb : Blk w' g 80 [.int .i64 c.pages, .int .i64 c.slots, .int .i64 c.log, .int .i64 c.frames, .int .i64 c.table, .int .i64 c.keys, V .bp, V .bo, .int .i64 u, V .vd]) (hok : OkS c ⟨S.done, S.opn, u⟩) : PpP w' V g c ⟨S.done, S.opn, u⟩ := by
  have vg : blkOf (V .g) = some g := by rw [h.vg]; rfl
  have out : ∀ a x, a ≠ .g → blkOf (V a) = some x → x ∉ [g] := fun a x ha hx hm => by
    have e : x = g := by simpa using hm
    rw [e] at hx
    exact ha (h.inj.inj _ _ _ hx vg)
  obtain ⟨bo, e1, h1⟩ := h.opn
  refine ⟨h.vg, hb, h.pgs.kept kk (fun x hx => out .bp x (by simp) (by rw [Row.blkOf h.pgs]; exact hx)), fun p p0 p1 => ?_, ⟨bo, e1, h1.kept kk (out .bo bo (by simp) (by rw [e1]; rfl))⟩, fun t ht => ((h.txs t ht).kept kk (fun a x ha q => out a x (by intro e; subst e; cases ha) q)).congr (fun _ _ => rfl) (fun _ _ => rfl), h.done.kept kk (fun x hx => out .vd x (by simp) (by rw [Row.blkOf h.done]; exact hx)), fun j l hj => ?_, h.inj.mono kk.size, hok, h.ok2.same rfl⟩
  · obtain ⟨b, e2, h2⟩ := h.pg p p0 p1
    exact ⟨b, e2, h2.kept kk (out (.pg p) b (by simp) (by rw [e2]; rfl))⟩
  · have q := h.dns j l hj
    exact q.kept kk (fun x hx => out (.dn j) x (by simp) (by rw [Row.blkOf q]; exact hx))
/-- at g lies the landed State that tells S under c, in the blocks F -/
def Pz (w : World) (g : Nat) (F : List Nat) (c : Cf) (S : St) : Prop := ∃ V, PpP w V g c S ∧ (∀ a x, blkOf (V a) = some x → x ∈ F) ∧ (∀ x ∈ F, x < w.heap.size) ∧ 0 ∉ F
theorem Pz.kept {w w' : World} {g : Nat} {F : List Nat} {c : Cf} {S : St} {X : List Nat} (h : Pz w g F c S) (k : Kept X w w') (hX : ∀ x ∈ F, x ∉ X) : Pz w' g F c S := by
  obtain ⟨V, h1, h2, h3, h4⟩ := h
  exact ⟨V, h1.kept k (fun a x q => hX x (h2 a x q)), h2, fun x hx => Nat.lt_of_lt_of_le (h3 x hx) k.size, h4⟩
/-- all blocks that have come -/
def grownF (w w' : World) (F : List Nat) : List Nat := F ++ (List.range (w'.heap.size - w.heap.size)).map (· + w.heap.size)
theorem mem_grownF {w w' : World} {F : List Nat} {x : Nat} : x ∈ grownF w w' F ↔ x ∈ F ∨ (w.heap.size ≤ x ∧ x < w'.heap.size) := by
  unfold grownF
  rw [List.mem_append, List.mem_map]
  constructor
  · rintro (h | ⟨y, hy, rfl⟩)
    · exact .inl h
    · have := List.mem_range.1 hy; exact .inr ⟨by omega, by omega⟩
  · rintro (h | ⟨h1, h2⟩)
    · exact .inl h
    · exact .inr ⟨x - w.heap.size, List.mem_range.2 (by omega), by omega⟩
theorem fr_grownF (w w' : World) (F : List Nat) : Fr w F (grownF w w' F) := fun x hx => (mem_grownF.1 hx).imp id (fun q => q.1)
theorem Pz.next {w w' : World} {g : Nat} {F : List Nat} {c : Cf} {S S' : St} {V V' : Tag → Value} (h2 : ∀ a x, blkOf (V a) = some x → x ∈ F) (h3 : ∀ x ∈ F, x < w.heap.size) (h4 : 0 ∉ F) (h' : PpP w' V' g c S') (hs : w.heap.size ≤ w'.heap.size) (h0 : 0 < w.heap.size) (hV : ∀ a x, blkOf (V' a) = some x → (∃ b, blkOf (V b) = some x) ∨ w.heap.size ≤ x) : Pz w' g (grownF w w' F) c S' := by
  refine ⟨V', h', fun a x q => mem_grownF.2 ?_, fun x hx => ?_, fun hx => ?_⟩
  · rcases hV a x q with ⟨b, r⟩ | r
    · exact .inl (h2 b x r)
    · exact .inr ⟨r, h'.inj.lt a x q⟩
  · rcases mem_grownF.1 hx with r | r
    · have := h3 x r; omega
    · exact r.2
  · rcases mem_grownF.1 hx with r | r
    · exact h4 r
    · omega
end Go.Proofs.YtnjfahgmebmakaaGreatDoor

/-
  OWN WORK. The landed plain (layer 18): number, within, mayBe, and what is read of a State alone.
-/
namespace Go.Proofs.YtnjfahgmebmakaaGreatDoor
open Go.RowKit Go.Maps
set_option linter.unusedVariables false
set_option linter.unusedSimpArgs false
theorem as_any {d : Nat} {v : Value} {n : Int} (h : Er d v n) (hd : d ≤ 2) (g : Nat) (old : Value) (w : World) (hv : Vr w) (hB : Blk w g 119 [old]) : Calls Tryz.prog 64 #[v, .iface 121 (.pointer (some ⟨g, 0, none⟩))] w fun e w' => e = .returned (.bool true) ∧ Blk w' g 119 [.int .i64 n] ∧ Kept [g] w w' := by
  have c0 := hB.cell (j := 0) rfl
  have f0 := hB.free 0
  have fin : ∀ {w1 w' : World}, Kept [] w w1 → w' = w1.setCell ⟨g, 0, none⟩ (.int .i64 n) → Blk w' g 119 [.int .i64 n] ∧ Kept [g] w w' := fun {w1 w'} k e => by
    subst e
    obtain ⟨q1, q2⟩ := (hB.kept k (by simp)).set 0 (.int .i64 n)
    exact ⟨q1, (k.mono (T := [g]) (by simp)).trans q2 (fun x hx => .inl hx)⟩
  cases h with
  | ref =>
    refine (as_hit0 n ⟨g, 0, none⟩ old w hv c0 f0).mono fun e w' ⟨he, hw⟩ => ⟨he, fin ?_ hw⟩
    exact ((((Kept.refl [] w).alloc _).alloc _).alloc _).alloc _
  | wrap x h =>
    cases h with
    | ref =>
      refine (as_hit1 x n ⟨g, 0, none⟩ old w hv c0 f0).mono fun e w' ⟨he, hw⟩ => ⟨he, fin ?_ hw⟩
      exact (((((Kept.refl [] w).alloc _).alloc _).alloc _).alloc _).alloc _
    | wrap y h =>
      cases h with
      | ref =>
        refine (as_hit2 y x n ⟨g, 0, none⟩ old w hv c0 f0).mono fun e w' ⟨he, hw⟩ => ⟨he, fin ?_ hw⟩
        exact ((((((Kept.refl [] w).alloc _).alloc _).alloc _).alloc _).alloc _).alloc _
      | wrap z h => omega
theorem Vr.lt {w : World} (h : Vr w) : 0 < w.heap.size := by
  rcases Nat.eq_zero_or_pos w.heap.size with h0 | h1
  · unfold Vr at h; simp [World.cell?, h0] at h
  · exact h1
theorem Vr.kept {w w' : World} {S : List Nat} (h : Vr w) (k : Kept S w w') (hS : 0 ∉ S) : Vr w' := k.cell h hS
set_option maxHeartbeats 1600000 in
theorem qNumber {d : Nat} {v : Value} {n : Int} (w : World) (hv : Vr w) (h : Er d v n) (hd : d ≤ 2) : Calls Tryz.prog 35 #[v] w fun e w' => e = .returned (.int .i64 n) ∧ Kept [] w w' := by
  obtain ⟨w1, hw1⟩ : ∃ wx, wx = w.alloc (.cells #[.int .i64 0] 119) := ⟨_, rfl⟩
  have k1 : Kept [] w w1 := by rw [hw1]; exact (Kept.refl [] w).alloc _
  have B1 : Blk w1 w.heap.size 119 [.int .i64 0] := by rw [hw1]; exact Blk.new w _ _
  have HQ := @hideH _ (as_any h hd w.heap.size _ w1 (hv.kept k1 (by simp)) B1)
  have HK := @hideH _ k1
  clear h hd hv k1 B1
  go_enter Tryz.func35, Tryz.ntmps35
  go_wp2_with fail
  rw [← hw1]
  refine HQ.out.mono ?_
  rintro e w2 ⟨rfl, B2, k2⟩
  have c0 := B2.cell (j := 0) rfl
  have HK2 := @hideH _ k2
  clear B2 k2
  go_wp2
  go_ret
  exact ⟨rfl, HK.out.trans HK2.out (fun x hx => .inr (by simp at hx; omega))⟩
set_option maxHeartbeats 1600000 in
theorem qNumber0 (w : World) : Calls Tryz.prog 35 #[.nilIface] w fun e w' => e = .returned (.int .i64 0) ∧ Kept [] w w' := by
  obtain ⟨w1, hw1⟩ : ∃ wx, wx = w.alloc (.cells #[.int .i64 0] 119) := ⟨_, rfl⟩
  have k1 : Kept [] w w1 := by rw [hw1]; exact (Kept.refl [] w).alloc _
  have HK := @hideH _ k1
  clear k1
  go_enter Tryz.func35, Tryz.ntmps35
  go_wp2_with fail
  rw [← hw1]
  refine (as_nil _ w1).mono ?_
  rintro e w2 ⟨rfl, rfl⟩
  go_wp2
  go_ret
  exact ⟨rfl, by first | exact HK.out | (rw [← hw1]; exact HK.out)⟩
theorem qWithin (n a b : Int) (w : World) : Calls Tryz.prog 71 #[.int .i64 n, .int .i64 a, .int .i64 b] w fun e w' => e = .returned (.bool (decide (a ≤ n ∧ n ≤ b))) ∧ w' = w := by
  by_cases h1 : a ≤ n
  · by_cases h2 : n ≤ b
    · have he : decide (a ≤ n ∧ n ≤ b) = true := by simp [h1, h2]
      rw [he]
      go_enter Tryz.func71, Tryz.ntmps71
      go_wp2
      go_ret
      exact ⟨by simp [h1, h2], rfl⟩
    · have he : decide (a ≤ n ∧ n ≤ b) = false := by simp [h2]
      rw [he]
      go_enter Tryz.func71, Tryz.ntmps71
      go_wp2
      go_ret
      exact ⟨by simp [h1, h2], rfl⟩
  · have he : decide (a ≤ n ∧ n ≤ b) = false := by simp [h1]
    rw [he]
    go_enter Tryz.func71, Tryz.ntmps71
    go_wp2
    go_ret
    exact ⟨by simp [h1], rfl⟩
end Go.Proofs.YtnjfahgmebmakaaGreatDoor

/-
  OWN WORK. The landed plain (layer 18): Used, log, idle, find.
-/
namespace Go.Proofs.YtnjfahgmebmakaaGreatDoor
open Go.RowKit Go.Maps
set_option linter.unusedVariables false
set_option linter.unusedSimpArgs false

section
variable {P : Program} (w : World) {ops : Array Oper} {rest : List Oper} {o : Oper} {a : Act} {Q : Exit → Act → World → Prop}
def mkPtr : Option Nat → Value
  | none => .pointer none
  | some b => .pointer (some ⟨b, 0, none⟩)
/-- the next pointer of a map of pointers, none of them nil -/
theorem wpList_next_ptr (hg : o.guard = none) (it : Operand) (hop : o.op = Op.next it false) (k : TypeId) (K : Keyed P k) (hk : P.underlying k = some (.int .i64))
    (b r n : Nat) (D : DataW Unit) (left : Lit → Bool) (cnt : Nat) (hit : a.eval it = .pointer (some ⟨r, 0, none⟩)) (h : w.ranges P k ptrElem b r n D left cnt)
    (hne : ∀ x, I64 x → left (.int .i64 x) = true → D.atKey (.int .i64 x) (.lit (.int .i64 0)) ≠ .lit (.int .i64 0))
    (hDone : cnt = 0 → (∀ kl, left kl = false) → wpList P ops Q rest (a.put o.dst (.tuple #[.bool false])) w)
    (hMore : ∀ (x : Int) (s : Nat) (w' : World) (cnt' : Nat), I64 x → left (.int .i64 x) = true → D.atKey (.int .i64 x) (.lit (.int .i64 0)) = .lit (.int .i64 ((s : Int) + 1)) → w'.ranges P k ptrElem b r n D (fun z => left z && !z.sameKey (.int .i64 x)) cnt' → cnt' < cnt →
      w.grownBy w' (some r) → w'.heap.size = w.heap.size → (Instr.entry (.pointer (some ⟨r, 0, none⟩))).run P w' = .ok (.tuple #[.int .i64 x, .pointer (some ⟨s, 0, none⟩)]) w' → wpList P ops Q rest (a.put o.dst (.tuple #[.bool true, .int .i64 x, .pointer (some ⟨s, 0, none⟩)])) w') :
    wpList P ops Q (o :: rest) a w :=
  wpList_next_ranges w hg it hop k K ptrElem (Value.int .i64) mkPtr (fun key kl hkey => by obtain ⟨x, rfl, _⟩ := Maps.keyOf_int_inv hk hkey; exact ⟨x, rfl⟩) (fun v y hv => by
      unfold ptrElem at hv
      split at hv
      · exact ⟨none, rfl⟩
      · rename_i b; exact ⟨some b, rfl⟩
      · cases hv)
    b r n D left cnt hit h hDone (fun x c kl y w' cnt' hkey hlk hv hat hrg hlt hgr hsz hen => by
      obtain ⟨x', ex, rfl, hwx⟩ := Maps.keyOf_int_inv hk hkey
      cases ex
      have hi := i64_wf15 hwx
      cases c with
      | none =>
        have e : y.1 = .lit (.int .i64 0) := by
          have q : ptrElem (.pointer none) = some y := hv
          rw [ptrElem_zero] at q
          rw [← Option.some.inj q]
        exact absurd ((hat _).trans e) (hne x hi hlk)
      | some s =>
        have e : y.1 = .lit (.int .i64 ((s : Int) + 1)) := by
          have q : ptrElem (.pointer (some ⟨s, 0, none⟩)) = some y := hv
          rw [ptrElem_some] at q
          rw [← Option.some.inj q]
        exact hMore x s w' cnt' hi hlk ((hat _).trans e) hrg hlt hgr hsz hen)
end
/-! the open ones that have come by -/
def keptF (q : Int → Bool) : List Tn → Int
  | [] => 0
  | t :: r => (if q t.id = true then t.kept else 0) + keptF q r
theorem keptF_none {q : Int → Bool} : ∀ {l : List Tn}, (∀ t ∈ l, q t.id = false) → keptF q l = 0
  | [], _ => rfl
  | t :: r, h => by unfold keptF; rw [h t (by simp), keptF_none (fun x hx => h x (by simp [hx]))]; rfl
theorem keptF_all {q : Int → Bool} : ∀ {l : List Tn}, (∀ t ∈ l, q t.id = true) → keptF q l = keptO l
  | [], _ => rfl
  | t :: r, h => by unfold keptF keptO; rw [h t (by simp), keptF_all (fun x hx => h x (by simp [hx]))]; rfl
theorem keptF_same {q q' : Int → Bool} : ∀ {l : List Tn}, (∀ t ∈ l, q' t.id = q t.id) → keptF q' l = keptF q l
  | [], _ => rfl
  | t :: r, h => by unfold keptF; rw [h t (by simp), keptF_same (fun x hx => h x (by simp [hx]))]
theorem keptF_step {q q' : Int → Bool} {t : Tn} : ∀ {l : List Tn}, (l.Pairwise fun x y => x.id ≠ y.id) → t ∈ l → q t.id = false → (∀ i, q' i = (q i || i == t.id)) → keptF q' l = keptF q l + t.kept
  | [], _, ht, _, _ => by simp at ht
  | x :: r, hp, ht, hq, he => by
    obtain ⟨h1, h2⟩ := List.pairwise_cons.1 hp
    unfold keptF
    rcases List.mem_cons.1 ht with e | ht'
    · subst e
      rw [he, hq, keptF_same (q := q) (q' := q') (l := r) (fun y hy => by rw [he]; have := h1 y hy; simp [Ne.symm this])]
      simp
      omega
    · have hne : x.id ≠ t.id := h1 t ht'
      rw [keptF_step h2 ht' hq he, he]
      simp [hne]
      omega
theorem keptF_le {q : Int → Bool} : ∀ {l : List Tn}, (∀ t ∈ l, ∀ n ∈ t.lens, 1 ≤ n ∧ n ≤ 16) → 0 ≤ keptF q l ∧ keptF q l ≤ keptO l
  | [], _ => ⟨Int.le_refl _, Int.le_refl _⟩
  | t :: r, h => by
    have ih := keptF_le (q := q) (l := r) (fun x hx => h x (by simp [hx]))
    have e := sumL_pos (h t (by simp))
    unfold keptF keptO Tn.kept
    split <;> omega
def come (left : Lit → Bool) (id : Int) : Bool := !left (.int .i64 id)
theorem come_step (left : Lit → Bool) (x i : Int) : come (fun z => left z && !z.sameKey (.int .i64 x)) i = (come left i || i == x) := by
  unfold come
  by_cases e : i = x
  · subst e; simp [Lit.sameKey]
  · have es : (Lit.int .i64 i).sameKey (.int .i64 x) = false := Maps.sameKey_ne (fun q => e (by simpa using q))
    simp [es, e]
theorem fO_there {V : Tag → Value} {l : List Tn} {id : Int} {t : Tn} (h : findO l id = some t) : fO V l id = some (.int .i64 ((nOf (V (.tx id)) : Int) + 1)) := by unfold fO; rw [h]; rfl
theorem fO_gone {V : Tag → Value} {l : List Tn} {id : Int} (h : findO l id = none) : fO V l id = none := by unfold fO; rw [h]; rfl
/-- one that comes by in a range over the open ones -/
theorem PpP.met {w : World} {V : Tag → Value} {g : Nat} {c : Cf} {S : St} (h : PpP w V g c S) {D : DataW Unit} (ht : Tel D (.int .i64 0) (fO V S.opn)) {x : Int} {s : Nat} (hx : I64 x) (hat : D.atKey (.int .i64 x) (.lit (.int .i64 0)) = .lit (.int .i64 ((s : Int) + 1))) : ∃ t ∈ S.opn, t.id = x ∧ V (.tx x) = .pointer (some ⟨s, 0, none⟩) ∧ Blk w s 116 [V (.hd t.id), V (.ch t.id), .int .i64 t.kept] := by
  rw [ht.atk x hx] at hat
  cases hf : findO S.opn x with
  | none => rw [fO_gone hf] at hat; simp at hat; omega
  | some t =>
    rw [fO_there hf] at hat
    obtain ⟨hm, hid⟩ := findO_some hf
    obtain ⟨y, e1, hb⟩ := (h.txs t hm).box
    rw [hid] at e1
    have : nOf (V (.tx x)) = y := by rw [e1]; rfl
    have hy : y = s := by rw [this] at hat; simp at hat; omega
    subst hy
    exact ⟨t, hm, hid, e1, hb⟩
theorem Tel.not0 {V : Tag → Value} {l : List Tn} {D : DataW Unit} (ht : Tel D (.int .i64 0) (fO V l)) {x : Int} (hx : I64 x) (hh : Maps.has D (.int .i64 x) = true) : D.atKey (.int .i64 x) (.lit (.int .i64 0)) ≠ .lit (.int .i64 0) := by
  rw [ht.has x hx] at hh
  rw [ht.atk x hx]
  cases hf : findO l x with
  | none => rw [fO_gone hf] at hh; cases hh
  | some t => rw [fO_there hf]; simp; omega
theorem PpP.id64 {w : World} {V : Tag → Value} {g : Nat} {c : Cf} {S : St} (h : PpP w V g c S) {t : Tn} (ht : t ∈ S.opn) : I64 t.id := by
  have := h.ok.ids t ht
  unfold isId at this
  exact ⟨by omega, by omega⟩
set_option maxRecDepth 20000 in
set_option maxHeartbeats 1600000 in
theorem qUsed {V : Tag → Value} {g : Nat} {c : Cf} {S : St} (w : World) (h : PpP w V g c S) : Calls Tryz.prog 32 #[.pointer (some ⟨g, 0, none⟩)] w fun e w' => e = .returned (.tuple #[.int .i64 S.used, .int .i64 (keptO S.opn)]) ∧ Kept [] w w' := by
  obtain ⟨bo, e1, D, hO, hT, hK⟩ := h.opn
  have B := h.box
  rw [e1] at B
  have c7 := B.cell (j := 7) rfl
  have c8 := B.cell (j := 8) rfl
  have HP := @hideH _ h
  have HT := @hideH _ (And.intro hT hK)
  have hbl := hO.lt
  have hgl := B.lt
  obtain ⟨n, hn⟩ : ∃ n, n = (S.opn.map Tn.id).length := ⟨_, rfl⟩
  rw [← hn] at hO
  clear B hT hK h hn
  go_enter Tryz.func32, Tryz.ntmps32
  go_wp2_with (at_range; refine wpList_range_own _ rfl _ 76 rfl 3 77 keyL Tryz.underlying76 _ bo _ D rfl hO ?_; intro w0 hrg0 hg0 hs0)
  go_frame
  have k0 : Kept [] w w0 := (Kept.refl [] w).grown hg0 (fun k hk => by cases hk)
  go_loopw [4] (fun v wr => ∃ (left : Lit → Bool) (cnt : Nat), v = .int .i64 (keptF (come left) S.opn) ∧ Hid (wr.ranges Tryz.prog 3 ptrElem bo w.heap.size n D left cnt ∧ Kept [] w wr ∧ ∀ k, left k = true → Maps.has D k = true)) (fun _ wr => wr.rangeLeft bo w.heap.size)
  case atStart =>
    refine ⟨_, _, ?_, hrg0, k0, fun k hk => hk⟩
    rw [keptF_none]
    intro t ht
    unfold come
    rw [HT.out.1.has t.id (HP.out.id64 ht)]
    have : (findO S.opn t.id).isSome = true := findO_mem.2 (List.mem_map.2 ⟨t, ht, rfl⟩)
    obtain ⟨t', ht'⟩ := Option.isSome_iff_exists.1 this
    rw [fO_there ht']; rfl
  case round =>
    clear hrg0 hg0 hs0 k0
    obtain ⟨left, cnt, rfl, hh⟩ := hrel
    have hrg := hh.out.1
    go_wp2_with (at_next; refine wpList_next_ptr _ rfl _ rfl 3 keyL Tryz.underlying3 bo w.heap.size _ _ _ _ rfl hrg (fun x hx hl => HT.out.1.not0 hx (hh.out.2.2 _ hl)) ?_ ?_)
    · intro hc0 hl0
      have HL := @hideH _ (show keptF (come left) S.opn = keptO S.opn from keptF_all (fun t _ => by unfold come; rw [hl0]; rfl))
      have c7r := hh.out.2.1.cell c7 (by simp)
      have c8r := hh.out.2.1.cell c8 (by simp)
      clear hc0 hl0 hrg
      go_wp2
      go_ret2
      exact ⟨by rw [HL.out]; first | rfl | simp, hh.out.2.1⟩
    · intro x s w1 cnt1 hix hlx hat hrg1 hlt1 hg1 hs1 hen
      have k1 : Kept [] w w1 := hh.out.2.1.grown hg1 (fun k hk => .inr (by cases hk; exact Nat.le_refl _))
      obtain ⟨t, htm, hid, hv, hb⟩ := (HP.out.then k1).met HT.out.1 hix hat
      have cs := hb.cell (j := 2) rfl
      have hst := keptF_step (q := come left) (q' := come (fun z => left z && !z.sameKey (.int .i64 x))) HP.out.ok.dif htm (by unfold come; rw [hid, hlx]; rfl) (fun i => by rw [come_step, hid])
      have hle := keptF_le (q := come (fun z => left z && !z.sameKey (.int .i64 x))) HP.out.ok.lens
      have hle0 := keptF_le (q := come left) HP.out.ok.lens
      have hkk := HP.out.ok.kept
      have wk : IntKind.i64.wrap (keptF (come left) S.opn + t.kept) = keptF (come left) S.opn + t.kept := wrap_i64_of (by omega) (by omega)
      obtain ⟨tk, htk⟩ : ∃ tk, tk = t.kept := ⟨_, rfl⟩
      rw [← htk] at cs wk hst
      have HA := @hideH _ (And.intro hst (And.intro k1 (And.intro hrg1 hlt1)))
      clear hst hle hle0 hkk k1 hrg1 hlt1 hg1 hs1 hb hv hid htm htk hat
      go_wp2
      go_roundw
      case rel =>
        refine ⟨_, cnt1, by first | rw [HA.out.1] | (rw [HA.out.1]; rfl) | (rw [HA.out.1]; go_num), HA.out.2.2.1, HA.out.2.1, fun k hk => hh.out.2.2 k (by revert hk; cases left k <;> simp)⟩
      case measure => rw [HA.out.2.2.1.left_eq, hrg.left_eq]; exact HA.out.2.2.2
set_option maxHeartbeats 1600000 in
theorem qFind {V : Tag → Value} {g : Nat} {c : Cf} {S : St} (id : Int) (w : World) (h : PpP w V g c S) (hi : I64 id) : Calls Tryz.prog 65 #[.pointer (some ⟨g, 0, none⟩), .int .i64 id] w fun e w' => w' = w ∧ ((findO S.opn id = none ∧ e = .returned (.tuple #[.pointer none, .iface 119 (.int .i64 160)])) ∨ ∃ t x, findO S.opn id = some t ∧ V (.tx id) = .pointer (some ⟨x, 0, none⟩) ∧ e = .returned (.tuple #[.pointer (some ⟨x, 0, none⟩), .nilIface])) := by
  obtain ⟨bo, e1, D, hO, hT, hK⟩ := h.opn
  have B := h.box
  rw [e1] at B
  have c7 := B.cell (j := 7) rfl
  have hkey := keyOf_int_mk (P := Tryz.prog) (k := 3) Tryz.underlying3 (wf_of_i64 hi)
  have zP : ∀ w : World, (zeroValue 77).run Tryz.prog w = .ok (.pointer none) w := fun w => by
    go_simp
    try rfl
  cases hf : findO S.opn id with
  | none =>
    have h1 := hT.has id hi
    have h2 := hT.atk id hi
    rw [fO_gone hf] at h1 h2
    simp only [Option.isSome_none, Option.getD_none] at h1 h2
    clear h hf B hT hK
    go_enter Tryz.func65, Tryz.ntmps65
    go_wp2_with (at_lookup; refine wpList_lookup_gone w rfl _ _ 76 rfl 3 77 keyL Tryz.underlying76 (zP _) bo _ D rfl hO _ _ rfl hkey h1 h2 ?_)
    try go_wp2
    go_ret2
    exact ⟨rfl, .inl ⟨by first | rfl | trivial, by first | rfl | trivial⟩⟩
  | some t =>
    obtain ⟨hm, hid⟩ := findO_some hf
    obtain ⟨x, ex, hb⟩ := (h.txs t hm).box
    rw [hid] at ex
    have h1 := hT.has id hi
    have h2 := hT.atk id hi
    rw [fO_there hf, ex] at h1 h2
    simp only [Option.isSome_some, Option.getD_some, nOf, blkOf] at h1 h2
    have HE := @hideH _ ex
    clear h hf B hT hK hb hm ex
    go_enter Tryz.func65, Tryz.ntmps65
    go_wp2_with (at_lookup; refine wpList_lookup_there w rfl _ _ 76 rfl 3 77 keyL Tryz.underlying76 (zP _) bo _ D rfl hO _ _ rfl hkey x h1 h2 ?_)
    try go_wp2
    go_ret2
    exact ⟨rfl, .inr ⟨t, x, by first | rfl | trivial, HE.out, by first | rfl | trivial⟩⟩
set_option maxHeartbeats 1600000 in
theorem qLog {V : Tag → Value} {g : Nat} {c : Cf} {S : St} (more keep : Int) (w : World) (h : PpP w V g c S) (hm : 0 ≤ more ∧ more ≤ 1000) (hk : 0 ≤ keep ∧ keep ≤ 1000) : Calls Tryz.prog 72 #[.pointer (some ⟨g, 0, none⟩), .int .i64 more, .int .i64 keep] w fun e w' => (fitsS c S more keep = true ∧ e = .returned .nilIface ∧ PpP w' V g c ⟨S.done, S.opn, S.used + more⟩ ∧ Kept [g] w w') ∨ (fitsS c S more keep = false ∧ e = .returned (.iface 119 (.int .i64 170)) ∧ Kept [] w w') := by
  have hkp := h.ok.kept
  have hlw := h.ok.low
  have hlg := h.ok.may.2.2.1
  have HU := @hideH _ (qUsed w h)
  have HP := @hideH _ h
  obtain ⟨u, hu⟩ : ∃ u, u = S.used := ⟨_, rfl⟩
  obtain ⟨q, hq⟩ : ∃ q, q = keptO S.opn := ⟨_, rfl⟩
  have hfit : fitsS c S more keep = decide (u + more + q + keep ≤ c.log) := by rw [hu, hq]; rfl
  rw [← hu, ← hq] at HU
  rw [← hu, ← hq] at hkp
  rw [← hu] at hlw
  rw [hfit, ← hu]
  have w1 : IntKind.i64.wrap (u + more) = u + more := wrap_i64_of (by omega) (by omega)
  have w2 : IntKind.i64.wrap (u + more + q) = u + more + q := wrap_i64_of (by omega) (by omega)
  have w3 : IntKind.i64.wrap (u + more + q + keep) = u + more + q + keep := wrap_i64_of (by omega) (by omega)
  have HB := @hideH _ (And.intro hu (And.intro hq (And.intro hkp (And.intro hlw (And.intro hlg (And.intro hm hk))))))
  clear h hkp hlw hlg hu hq hfit hm hk
  go_enter Tryz.func72, Tryz.ntmps72
  go_wp2_with fail
  refine HU.out.mono ?_
  clear HU
  rintro e wu ⟨rfl, ku⟩
  have P1 := HP.out.then ku
  have B := P1.box
  rw [← HB.out.1] at B
  have c2 := B.cell (j := 2) rfl
  have c8 := B.cell (j := 8) rfl
  have f8 := B.free 8
  by_cases hf : u + more + q + keep ≤ c.log
  · have hf' : ¬ c.log < u + more + q + keep := by omega
    obtain ⟨wn, hwn⟩ : ∃ wx, wx = wu.setCell ⟨g, 8, none⟩ (.int .i64 (u + more)) := ⟨_, rfl⟩
    obtain ⟨BS, kS⟩ := B.set 8 (.int .i64 (u + more))
    rw [← hwn] at BS kS
    have ok' : OkS c ⟨S.done, S.opn, u + more⟩ := by
      have o := HP.out.ok
      have b := HB.out
      exact ⟨o.may, o.dif, o.len, by show 0 ≤ u + more; omega, by show u + more + keptO S.opn ≤ c.log; omega, o.keyD, o.tns⟩
    have HN := @hideH _ (And.intro (P1.useT kS BS ok') ((ku.mono (T := [g]) (by simp)).trans kS (fun x hx => .inl hx)))
    clear P1 B BS kS ok' ku
    go_wp2
    rw [← hwn]
    go_wp2
    go_ret
    exact .inl ⟨by simp [hf], rfl, HN.out.1, HN.out.2⟩
  · have hf' : c.log < u + more + q + keep := by omega
    have HN := @hideH _ ku
    clear P1 B ku f8 c8
    go_wp2
    go_ret
    exact .inr ⟨by simp [hf], rfl, HN.out⟩
end Go.Proofs.YtnjfahgmebmakaaGreatDoor

/-
  OWN WORK. The landed plain (layer 18): idle, ask.
-/
namespace Go.Proofs.YtnjfahgmebmakaaGreatDoor
open Go.RowKit Go.Maps
set_option linter.unusedVariables false
set_option linter.unusedSimpArgs false
theorem txn_info : ∃ j, Tryz.prog.info? 116 = some j ∧ j.size = 3 := by
  have h : (Tryz.prog.info? 116).map (·.size) = some 3 := by kernel_rfl
  obtain ⟨j, h1, h2⟩ := Option.map_eq_some_iff.1 h
  exact ⟨j, h1, h2⟩
theorem neq_same (x : Nat) (w : World) : (binOp .neq 77 (.pointer (some ⟨x, 0, none⟩)) (.pointer (some ⟨x, 0, none⟩))).run Tryz.prog w = .ok (.bool false) w := by
  obtain ⟨j, hj, -⟩ := txn_info
  have h : ∀ d : Nat, (Op.equalIn (d + 1) 77 (.pointer (some ⟨x, 0, none⟩)) (.pointer (some ⟨x, 0, none⟩))).run Tryz.prog w = .ok true w := fun d => by
    simp [Op.equalIn, run_underlying Tryz.underlying77, sizeOf, typeInfo, hj, run_sameAddr_same]
  simp only [binOp]
  simp [Op.equal, Op.maxDepth, h 9999]
theorem neq_other {x y : Nat} {w : World} {tx ty : TypeId} {cx cy : List Value} (hne : x ≠ y) (hx : Blk w x tx cx) (hy : Blk w y ty cy) : (binOp .neq 77 (.pointer (some ⟨x, 0, none⟩)) (.pointer (some ⟨y, 0, none⟩))).run Tryz.prog w = .ok (.bool true) w := by
  obtain ⟨j, hj, hz⟩ := txn_info
  have h : ∀ d : Nat, (Op.equalIn (d + 1) 77 (.pointer (some ⟨x, 0, none⟩)) (.pointer (some ⟨y, 0, none⟩))).run Tryz.prog w = .ok false w := fun d => by
    simp [Op.equalIn, run_underlying Tryz.underlying77, sizeOf, typeInfo, hj, hz, run_sameAddr_other w (a := ⟨x, 0, none⟩) (b := ⟨y, 0, none⟩) (fun e => hne (congrArg Addr.block e)) hx hy]
  simp only [binOp]
  simp [Op.equal, Op.maxDepth, h 9999]
theorem PpP.openSize {w : World} {V : Tag → Value} {g : Nat} {c : Cf} {S : St} (h : PpP w V g c S) : ∃ bo n D, V .bo = .map (some bo) ∧ w.ownsMap Tryz.prog 3 ptrElem bo n D ∧ Maps.size D = S.opn.length := by
  obtain ⟨bo, e1, D, hO, hT, hK⟩ := h.opn
  exact ⟨bo, _, D, e1, hO, by rw [(size_ks hO hT hK).2, List.length_map]⟩
set_option maxHeartbeats 1600000 in
theorem qIdle {V : Tag → Value} {g : Nat} {c : Cf} {S : St} (w : World) (h : PpP w V g c S) : Calls Tryz.prog 37 #[.pointer (some ⟨g, 0, none⟩)] w fun e w' => w' = w ∧ ((S.opn = [] ∧ e = .returned .nilIface) ∨ (S.opn ≠ [] ∧ e = .returned (.iface 119 (.int .i64 210)))) := by
  obtain ⟨bo, n, D, e1, hO, hz⟩ := h.openSize
  have B := h.box
  rw [e1] at B
  have c7 := B.cell (j := 7) rfl
  clear B h
  by_cases hn : S.opn = []
  · have hz' : Maps.size D = 0 := by rw [hz, hn]; rfl
    go_enter Tryz.func37, Tryz.ntmps37
    go_wp2_with (at_len; refine wpList_len_own _ rfl _ 76 rfl 3 77 Tryz.underlying76 _ bo n D rfl hO ?_; rw [hz'])
    try go_wp2
    go_ret
    exact ⟨rfl, .inl ⟨hn, rfl⟩⟩
  · have hp : 0 < S.opn.length := List.length_pos_iff.2 hn
    obtain ⟨m, hm⟩ : ∃ m, m = S.opn.length := ⟨_, rfl⟩
    rw [← hm] at hz hp
    have hp' : (0 : Int) < (m : Int) := by omega
    clear hm
    go_enter Tryz.func37, Tryz.ntmps37
    go_wp2_with (at_len; refine wpList_len_own _ rfl _ 76 rfl 3 77 Tryz.underlying76 _ bo n D rfl hO ?_; rw [hz])
    try go_wp2
    go_ret
    exact ⟨rfl, .inr ⟨hn, rfl⟩⟩
theorem fH_there {V : Tag → Value} {t : Tn} {p : Int} (h : p ∈ t.pages) : fH V t p = some (.int .i64 ((nOf (V (.ow t.id p)) : Int) + 1)) := if_pos h
theorem fH_gone {V : Tag → Value} {t : Tn} {p : Int} (h : p ∉ t.pages) : fH V t p = none := if_neg h
theorem busy_has {l : List Tn} {id p : Int} {t : Tn} (ht : t ∈ l) (hne : t.id ≠ id) (hp : p ∈ t.pages) : busy l id p = true := by
  unfold busy
  rw [List.any_eq_true]
  exact ⟨t, ht, by simp [hne, hp]⟩
theorem busy_none {l : List Tn} {id p : Int} (h : ∀ t ∈ l, t.id ≠ id → p ∉ t.pages) : busy l id p = false := by
  unfold busy
  rw [List.any_eq_false]
  intro t ht
  by_cases e : t.id = id
  · simp [e]
  · have := h t ht e
    simp [e, this]
set_option maxRecDepth 20000 in
set_option maxHeartbeats 3200000 in
theorem qAsk {V : Tag → Value} {g : Nat} {c : Cf} {S : St} (id key : Int) (w : World) (h : PpP w V g c S) (hi : I64 id) (hk : I64 key) : Calls Tryz.prog 73 #[.pointer (some ⟨g, 0, none⟩), .int .i64 id, .int .i64 key] w fun e w' => Kept [] w w' ∧ ((askE c S id key ≠ 0 ∧ e = .returned (.tuple #[.pointer none, .int .i64 0, .iface 119 (.int .i64 (askE c S id key))])) ∨ (askE c S id key = 0 ∧ ∃ t x, findO S.opn id = some t ∧ V (.tx id) = .pointer (some ⟨x, 0, none⟩) ∧ e = .returned (.tuple #[.pointer (some ⟨x, 0, none⟩), .int .i64 (key % c.pages), .nilIface]))) := by
  have zM : ∀ w : World, (zeroValue 88).run Tryz.prog w = .ok (.map none) w := fun w => by
    go_simp
    try rfl
  obtain ⟨bo, e1, D, hO, hT, hK⟩ := h.opn
  have B := h.box
  rw [e1] at B
  have c0 := B.cell (j := 0) rfl
  have c5 := B.cell (j := 5) rfl
  have c7 := B.cell (j := 7) rfl
  have hmay := h.ok.may
  have HF := @hideH _ (qFind id w h hi)
  have HP := @hideH _ h
  have HT := @hideH _ (And.intro hT hK)
  obtain ⟨n, hn⟩ : ∃ n, n = (S.opn.map Tn.id).length := ⟨_, rfl⟩
  rw [← hn] at hO
  have wk1 : IntKind.i64.wrap (c.keys - 1) = c.keys - 1 := wrap_i64_of (by have := hmay.2.2.2.2.2; omega) (by have := hmay.2.2.2.2.2; omega)
  have HM := @hideH _ (And.intro hmay hk)
  have hpg : c.pages ≠ 0 := by have := hmay.1; omega
  clear B hT hK h hn hmay
  go_enter Tryz.func73, Tryz.ntmps73
  go_wp2_with fail
  refine HF.out.mono ?_
  clear HF
  rintro e wf ⟨rfl, ⟨hf, rfl⟩ | ⟨t, x, hf, hx, rfl⟩⟩
  · have HE := @hideH _ (show askE c S id key = 160 by unfold askE; rw [hf]; rfl)
    clear hf
    go_wp2
    go_ret3
    exact ⟨Kept.refl _ _, .inl ⟨by rw [HE.out]; decide, by rw [HE.out]; first | rfl | simp⟩⟩
  · go_wp2_with fail
    refine (qWithin _ _ _ _).mono ?_
    rintro e ww ⟨rfl, rfl⟩
    by_cases hkk : 0 ≤ key ∧ key ≤ c.keys - 1
    · have hkd : decide (0 ≤ key ∧ key ≤ c.keys - 1) = true := decide_eq_true hkk
      rw [hkd]
      have wrem : key.tmod c.pages = key % c.pages := Int.tmod_eq_emod_of_nonneg hkk.1
      obtain ⟨pg, hpgd⟩ : ∃ pg, pg = key % c.pages := ⟨_, rfl⟩
      rw [← hpgd] at wrem
      have HE := @hideH _ (show askE c S id key = if busy S.opn id pg = true then 150 else 0 by
        unfold askE
        rw [hf, if_neg (by simp), if_neg (by omega), hpgd])
      have hpi : I64 pg := by
        have h1 := Int.emod_nonneg key hpg
        have h2 := Int.emod_lt_of_pos key (show 0 < c.pages by have := HM.out.1.1; omega)
        have := HM.out.1.1
        exact ⟨by omega, by omega⟩
      have hkey := keyOf_int_mk (P := Tryz.prog) (k := 3) Tryz.underlying3 (wf_of_i64 hpi)
      have HFX := @hideH _ (And.intro hf (And.intro hx hpgd))
      clear hkk hkd hf hpgd
      go_wp2_with (at_range; refine wpList_range_own _ rfl _ 76 rfl 3 77 keyL Tryz.underlying76 _ bo _ D rfl hO ?_; intro w0 hrg0 hg0 hs0)
      go_frame
      have k0 : Kept [] ww w0 := (Kept.refl [] ww).grown hg0 (fun k hk => by cases hk)
      go_loopw [13] (fun _ wr => ∃ (left : Lit → Bool) (cnt : Nat), Hid (wr.ranges Tryz.prog 3 ptrElem bo ww.heap.size n D left cnt ∧ Kept [] ww wr ∧ (∀ k, left k = true → Maps.has D k = true) ∧ ∀ y ∈ S.opn, come left y.id = true → y.id ≠ id → pg ∉ y.pages)) (fun _ wr => wr.rangeLeft bo ww.heap.size)
      case atStart =>
        refine ⟨_, _, hrg0, k0, fun k hk => hk, fun y hy hc => ?_⟩
        unfold come at hc
        rw [HT.out.1.has y.id (HP.out.id64 hy)] at hc
        have : (findO S.opn y.id).isSome = true := findO_mem.2 (List.mem_map.2 ⟨y, hy, rfl⟩)
        obtain ⟨t', ht'⟩ := Option.isSome_iff_exists.1 this
        rw [fO_there ht'] at hc
        cases hc
      case round =>
        clear hrg0 hg0 hs0 k0
        obtain ⟨left, cnt, hh⟩ := hrel
        have hrg := hh.out.1
        go_wp2_with (at_next; refine wpList_next_ptr _ rfl _ rfl 3 keyL Tryz.underlying3 bo ww.heap.size _ _ _ _ rfl hrg (fun x hx hl => HT.out.1.not0 hx (hh.out.2.2.1 _ hl)) ?_ ?_)
        · intro hc0 hl0
          have HB := @hideH _ (busy_none (l := S.opn) (id := id) (p := pg) (fun y hy => hh.out.2.2.2 y hy (by unfold come; rw [hl0]; rfl)))
          clear hc0 hl0 hrg
          go_wp2
          go_ret3
          exact ⟨hh.out.2.1, .inr ⟨by rw [HE.out, HB.out]; rfl, t, x, HFX.out.1, HFX.out.2.1, by rw [← HFX.out.2.2]; first | rfl | simp⟩⟩
        · intro y s w1 cnt1 hiy hly hat hrg1 hlt1 hg1 hs1 hen
          have k1 : Kept [] ww w1 := hh.out.2.1.grown hg1 (fun k hk => .inr (by cases hk; exact Nat.le_refl _))
          obtain ⟨t', htm, hid, hv, hb⟩ := (HP.out.then k1).met HT.out.1 hiy hat
          obtain ⟨hb', ehd, Dh, hOh, hTh, hKh⟩ := ((HP.out.then k1).txs t' htm).hd
          rw [ehd] at hb
          have cs := hb.cell (j := 0) rfl
          by_cases hp : pg ∈ t'.pages
          · have h1 := hTh.has pg hpi
            have h2 := hTh.atk pg hpi
            rw [fH_there hp] at h1 h2
            simp only [Option.isSome_some, Option.getD_some] at h1 h2
            by_cases hyi : y = id
            · subst hyi
              obtain rfl : x = s := by
                have := HFX.out.2.1
                rw [hv] at this
                simpa using this.symm
              have hnq := neq_same x
              have HA := @hideH _ (And.intro k1 (And.intro hrg1 (And.intro hlt1 (show ∀ z ∈ S.opn, come (fun z => left z && !z.sameKey (.int .i64 y)) z.id = true → z.id ≠ y → pg ∉ z.pages from fun z hz hc hne => hh.out.2.2.2 z hz (by rw [come_step] at hc; simpa [hne] using hc) hne))))
              clear k1 hrg1 hlt1 hg1 hs1 hb hv hid htm hat hTh hKh hx
              go_wp2_with (at_lookup; refine wpList_lookup_mthere w1 rfl _ _ 114 rfl 3 88 keyL Tryz.underlying114 (zM _) hb' _ Dh rfl hOh _ _ rfl hkey _ h1 h2 ?_)
              try go_wp2
              go_roundw
              case rel => exact ⟨_, cnt1, HA.out.2.1, HA.out.1, fun k hk => hh.out.2.2.1 k (by revert hk; cases left k <;> simp), HA.out.2.2.2⟩
              case measure => rw [HA.out.2.1.left_eq, hrg.left_eq]; exact HA.out.2.2.1
            · have hne : s ≠ x := fun e => by
                have e2 := HFX.out.2.1
                subst e
                have := HP.out.inj.inj (.tx y) (.tx id) s (by rw [hv]; rfl) (by rw [e2]; rfl)
                exact hyi (by simpa using this)
              obtain ⟨tt, htt, hti⟩ : ∃ tt ∈ S.opn, tt.id = id := ⟨t, (findO_some HFX.out.1).1, (findO_some HFX.out.1).2⟩
              obtain ⟨x2, ex2, hb2⟩ := ((HP.out.then k1).txs tt htt).box
              rw [hti] at ex2
              obtain rfl : x2 = x := by have := HFX.out.2.1; rw [ex2] at this; simpa using this
              have hnq := neq_other hne hb hb2
              have HB := @hideH _ (show busy S.opn id pg = true from busy_has htm (by rw [hid]; exact hyi) hp)
              have HA := @hideH _ k1
              clear k1 hrg1 hlt1 hg1 hs1 hb hv hid htm hat hTh hKh hx
              go_wp2_with (at_lookup; refine wpList_lookup_mthere w1 rfl _ _ 114 rfl 3 88 keyL Tryz.underlying114 (zM _) hb' _ Dh rfl hOh _ _ rfl hkey _ h1 h2 ?_)
              try go_wp2
              go_ret3
              exact ⟨HA.out, .inl ⟨by rw [HE.out, HB.out]; decide, by rw [HE.out, HB.out]; first | rfl | simp⟩⟩
          · have h1 := hTh.has pg hpi
            have h2 := hTh.atk pg hpi
            rw [fH_gone hp] at h1 h2
            simp only [Option.isSome_none, Option.getD_none] at h1 h2
            have HA := @hideH _ (And.intro k1 (And.intro hrg1 (And.intro hlt1 (show ∀ z ∈ S.opn, come (fun z => left z && !z.sameKey (.int .i64 y)) z.id = true → z.id ≠ id → pg ∉ z.pages from fun z hz hc hne => by
              by_cases ez : z.id = y
              · have : z = t' := ids_eq HP.out.ok.dif hz htm (by rw [ez, hid])
                rw [this]; exact hp
              · exact hh.out.2.2.2 z hz (by rw [come_step] at hc; simpa [ez] using hc) hne))))
            clear k1 hrg1 hlt1 hg1 hs1 hb hv hid htm hat hTh hKh hx
            go_wp2_with (at_lookup; refine wpList_lookup_mgone w1 rfl _ _ 114 rfl 3 88 keyL Tryz.underlying114 (zM _) hb' _ Dh rfl hOh _ _ rfl hkey h1 h2 ?_)
            try go_wp2
            go_roundw
            case rel => exact ⟨_, cnt1, HA.out.2.1, HA.out.1, fun k hk => hh.out.2.2.1 k (by revert hk; cases left k <;> simp), HA.out.2.2.2⟩
            case measure => rw [HA.out.2.1.left_eq, hrg.left_eq]; exact HA.out.2.2.1
    · have hkd : decide (0 ≤ key ∧ key ≤ c.keys - 1) = false := decide_eq_false hkk
      rw [hkd]
      have HE := @hideH _ (show askE c S id key = 50 by
        unfold askE
        rw [hf, if_neg (by simp), if_pos (by omega)])
      clear hkk hkd hf
      go_wp2
      go_ret3
      exact ⟨Kept.refl _ _, .inl ⟨by rw [HE.out]; decide, by rw [HE.out]; first | rfl | simp⟩⟩
end Go.Proofs.YtnjfahgmebmakaaGreatDoor

/-
  OWN WORK. The landed plain (layer 18): copied, lay, seen.
-/
namespace Go.Proofs.YtnjfahgmebmakaaGreatDoor
open Go.RowKit Go.Maps
set_option linter.unusedVariables false
set_option linter.unusedSimpArgs false
theorem makeHint (n : Int) (w : World) : (Instr.makeMap 88 (some (.int .i64 n))).run Tryz.prog w = .ok (.map (some w.heap.size)) (w.alloc (.map #[] 0)) := by
  have u := run_underlying Tryz.underlying88 (w := w)
  simp [Instr.makeMap, u, Result.andThen]
  rfl
/-- what has been copied: those that have come by -/
def fCome (l : List (Int × Int)) (left : Lit → Bool) (k : Int) : Option Lit := if left (.int .i64 k) = true then none else fV l k
theorem fV_some {l : List (Int × Int)} (hr : Rise l) {k : Int} {q : Lit} (h : fV l k = some q) : ∃ v, q = .int .u64 v ∧ (k, v) ∈ l := by
  unfold fV at h
  obtain ⟨v, h1, h2⟩ := Option.map_eq_some_iff.1 h
  exact ⟨v, h2.symm, (lookE_some hr).1 h1⟩
set_option maxRecDepth 20000 in
set_option maxHeartbeats 3200000 in
theorem qCopied {b : Nat} {l : List (Int × Int)} (w : World) (h : Vm w b l) (hl : l.length ≤ 3600000000000) : Calls Tryz.prog 99 #[.map (some b)] w fun e w' => ∃ b', e = .returned (.map (some b')) ∧ w.heap.size ≤ b' ∧ Vm w' b' l ∧ Kept [] w w' := by
  have hi := h.i64
  obtain ⟨⟨D, hO, hT, hK⟩, hr⟩ := h
  obtain ⟨n, hn⟩ : ∃ n, n = (l.map Prod.fst).length := ⟨_, rfl⟩
  have hnl : n ≤ 3600000000000 := by rw [hn, List.length_map]; exact hl
  rw [← hn] at hO
  have hbl := hO.lt
  obtain ⟨w1, hw1⟩ : ∃ wx, wx = w.alloc (.map #[] 0) := ⟨_, rfl⟩
  have k1 : Kept [] w w1 := by rw [hw1]; exact (Kept.refl [] w).alloc _
  have o1 : w1.ownsMap Tryz.prog 3 (plainElem Tryz.prog 45) w.heap.size 0 (.map [] : DataW Unit) := by rw [hw1]; exact World.ownsMap_made w _ _ _
  have z1 : w1.heap.size = w.heap.size + 1 := by rw [hw1, World.size_alloc]
  have hO1 := ownsMap_kept hO k1 (by simp)
  have hmk := makeHint (Maps.size D) w
  rw [← hw1] at hmk
  have HT := @hideH _ (And.intro hT (And.intro hK (And.intro hr (And.intro hi (And.intro hn hnl)))))
  have HK := @hideH _ (And.intro k1 z1)
  have HO := @hideH _ o1
  clear hT hK hr hi hl hn hnl k1 o1 hw1
  go_enter Tryz.func99, Tryz.ntmps99
  go_wp2_with (first
    | (at_len; refine wpList_len_own _ rfl _ 88 rfl 3 45 Tryz.underlying88 _ b n D rfl hO ?_)
    | (at_range; refine wpList_range_own _ rfl _ 88 rfl 3 45 keyL Tryz.underlying88 _ b n D rfl hO1 ?_; intro w0 hrg0 hg0 hs0))
  go_frame
  rw [z1] at hrg0
  have k0 : Kept [] w1 w0 := (Kept.refl [] w1).grown hg0 (fun k hk => by cases hk)
  rw [z1]
  go_loopw [4] (fun _ wr => ∃ (left : Lit → Bool) (cnt : Nat) (D' : DataW Unit), Hid (wr.ranges Tryz.prog 3 (plainElem Tryz.prog 45) b (w.heap.size + 1) n D left cnt ∧ Kept [] w wr ∧ (∀ k, left k = true → Maps.has D k = true) ∧ wr.ownsMap Tryz.prog 3 (plainElem Tryz.prog 45) w.heap.size n D' ∧ Tel D' (.int .u64 0) (fCome l left))) (fun _ wr => wr.rangeLeft b (w.heap.size + 1))
  case atStart =>
    refine ⟨_, _, .map [], hrg0, HK.out.1.then k0, fun k hk => hk, ?_, (Tel.nil _).congr fun k => ?_⟩
    · exact own_in (ks := l.map Prod.fst) (ownsMap_kept HO.out k0 (by simp)) (fun x _ q => by cases q) |> fun q => by rw [← HT.out.2.2.2.2.1] at q; exact q
    · unfold fCome
      by_cases hk : I64 k
      · rw [HT.out.1.has k hk]
        cases hf : fV l k <;> simp [hf]
      · split
        · rfl
        · cases hf : fV l k with
          | none => rfl
          | some q => exact absurd (HT.out.2.1.i64 k ((HT.out.2.1.mem k).2 (by rw [hf]; rfl))) hk
  case round =>
    clear hrg0 hg0 hs0 k0
    obtain ⟨left, cnt, D', hh⟩ := hrel
    have hrg := hh.out.1
    go_wp2_with (at_next; refine wpList_next_ranges_ii _ rfl _ rfl 3 45 .i64 .u64 keyL Tryz.underlying3 Tryz.underlying45 b (w.heap.size + 1) n _ _ _ rfl hrg ?_ ?_)
    · intro hc0 hl0
      have HL := @hideH _ (show Vm wr w.heap.size l from ⟨Mp.of hh.out.2.2.2.1 (hh.out.2.2.2.2.congr fun k => by unfold fCome; rw [hl0]; rfl) (ksOk_fV HT.out.2.2.1 HT.out.2.2.2.1), HT.out.2.2.1⟩)
      clear hc0 hl0 hrg
      go_wp2
      go_ret
      exact ⟨w.heap.size, by first | rfl | trivial, Nat.le_refl _, HL.out, hh.out.2.1⟩
    · intro x y w2 cnt2 hwx hwy hlx hat hrg1 hlt1 hg1 hs1 hen
      have hix : I64 x := i64_wf15 hwx
      have hkey := keyOf_int_mk (P := Tryz.prog) (k := 3) Tryz.underlying3 hwx
      have k1 : Kept [] w w2 := hh.out.2.1.grown hg1 (fun k hk => .inr (by cases hk; omega))
      have k2 : Kept [w.heap.size + 1] wr w2 := (Kept.refl _ wr).grown hg1 (fun k hk => .inl (by cases hk; simp))
      have o2 := ownsMap_kept hh.out.2.2.2.1 k2 (by simp)
      have hval : plainElem (H := Unit) Tryz.prog 45 (.int .u64 y) = some (.lit (.int .u64 y), []) := plainElem_int Tryz.underlying45 hwy
      have HA := @hideH _ (And.intro k1 (And.intro hrg1 (And.intro hlt1 (And.intro hat (And.intro hix hlx)))))
      have hnm : n < maxLen := by have := HT.out.2.2.2.2.2; unfold maxLen; omega
      clear k1 k2 hrg1 hlt1 hg1 hs1 hat hlx hwx hwy hix
      go_wp2_with (at_mapUpdate; refine wpList_mapUpdate_own _ rfl _ _ _ 88 rfl 3 45 keyL Tryz.underlying88 _ w.heap.size n D' rfl o2 hnm _ _ _ rfl rfl hkey _ [] hval ?_; intro w3 o3 hg3)
      have k3 : Kept [w.heap.size] w2 w3 := (Kept.refl _ w2).grown hg3 (fun k hk => .inl (by cases hk; simp))
      have hrg3 := ranges_kept HA.out.2.1 k3 (by have := hbl; simp; omega) (by simp)
      have tn := hh.out.2.2.2.2.put o2.isMap x (.int .u64 y)
      have hxy : fV l x = some (.int .u64 y) := by
        have e1 := HT.out.1.atk x HA.out.2.2.2.2.1
        have e2 := hh.out.2.2.1 _ HA.out.2.2.2.2.2
        rw [HT.out.1.has x HA.out.2.2.2.2.1] at e2
        obtain ⟨q, hq⟩ := Option.isSome_iff_exists.1 e2
        rw [HA.out.2.2.2.1, hq] at e1
        rw [hq]
        simp at e1
        rw [e1]
      have tn2 : Tel (D'.put (.int .i64 x) (.lit (.int .u64 y))) (.int .u64 0) (fCome l (fun z => left z && !z.sameKey (.int .i64 x))) := tn.congr fun j => by
        unfold fCome
        by_cases e : j = x
        · subst e; simp [Lit.sameKey, hxy]
        · have es : (Lit.int .i64 j).sameKey (.int .i64 x) = false := Maps.sameKey_ne (fun q => e (by simpa using q))
          simp [es, e]
      have o4 : w3.ownsMap Tryz.prog 3 (plainElem Tryz.prog 45) w.heap.size n (D'.put (.int .i64 x) (.lit (.int .u64 y))) := by
        have q := own_in (ks := l.map Prod.fst) o3 (fun j hj q => by
          rw [tn2.has j hj] at q
          unfold fCome at q
          split at q
          · cases q
          · exact (HT.out.2.1.mem j).2 q)
        rw [← HT.out.2.2.2.2.1] at q
        exact q
      have HF := @hideH _ (And.intro hrg3 (And.intro (HA.out.1.trans k3 (fun z hz => .inr (by simp at hz; omega))) (And.intro o4 tn2)))
      clear k3 hrg3 tn tn2 o4 o3 hg3 hxy
      try go_wp2
      go_roundw
      case rel => exact ⟨_, _, _, _, _, _, _, _, _, _, ⟨_, cnt2, _, HF.out.1, HF.out.2.1, fun k hk => hh.out.2.2.1 k (by revert hk; cases left k <;> simp), HF.out.2.2.1, HF.out.2.2.2⟩, rfl⟩
      case measure => rw [HF.out.1.left_eq, hrg.left_eq]; exact HA.out.2.2.1
set_option maxRecDepth 20000 in
set_option maxHeartbeats 1600000 in
theorem qLay {b : Nat} {l : List (Int × Int)} (x : Chg) (w : World) (h : Vm w b l) (hl : l.length ≤ 3600000000000) (hx : I64 x.key) (hv : u64 x.val) : Calls Tryz.prog 39 #[.map (some b), .agg #[.int .i64 x.key, .int .u64 x.val, .bool x.gone]] w fun e w' => e = .returned (.tuple #[]) ∧ Vm w' b (layE x x.gone l) ∧ Kept [b] w w' := by
  have hi := h.i64
  obtain ⟨⟨D, hO, hT, hK⟩, hr⟩ := h
  obtain ⟨w1, hw1⟩ : ∃ wx, wx = w.alloc (.cells #[.int .i64 x.key, .int .u64 x.val, .bool x.gone] 50) := ⟨_, rfl⟩
  have k1 : Kept [] w w1 := by rw [hw1]; exact (Kept.refl [] w).alloc _
  have B1 : Blk w1 w.heap.size 50 [.int .i64 x.key, .int .u64 x.val, .bool x.gone] := by rw [hw1]; exact Blk.new w _ _
  have c0 := B1.cell (j := 0) rfl
  have c1 := B1.cell (j := 1) rfl
  have c2 := B1.cell (j := 2) rfl
  have hO1 := ownsMap_kept hO k1 (by simp)
  have hbl := hO.lt
  have hkey := keyOf_int_mk (P := Tryz.prog) (k := 3) Tryz.underlying3 (wf_of_i64 hx)
  obtain ⟨n, hn⟩ : ∃ n, n = (l.map Prod.fst).length := ⟨_, rfl⟩
  rw [← hn] at hO1
  have hnm : n < maxLen := by rw [hn, List.length_map]; unfold maxLen; omega
  have hwv : (Lit.int .u64 x.val).wf = true := by
    obtain ⟨h1, h2⟩ := hv
    simp [Lit.wf, IntKind.min, IntKind.max, IntKind.signed, IntKind.bits]
    omega
  have hval : plainElem (H := Unit) Tryz.prog 45 (.int .u64 x.val) = some (.lit (.int .u64 x.val), []) := plainElem_int Tryz.underlying45 hwv
  have HT := @hideH _ (And.intro hT (And.intro hr (And.intro hi (And.intro hx k1))))
  clear hT hK hr hi hl hn hv hwv hO B1 k1
  cases hg : x.gone with
  | true =>
    rw [hg] at c2 hw1
    go_enter Tryz.func39, Tryz.ntmps39
    go_upto_region 1 with fail
    rw [← hw1]
    clear hw1
    go_wp2_with (at_delete; refine wpList_delete_own _ rfl _ _ 88 3 rfl 45 keyL Tryz.underlying88 _ b n D rfl hO1 _ _ rfl hkey ?_; intro w2 o2 ht2)
    have k2 : Kept [b] w1 w2 := (Kept.refl _ w1).grown ht2.grown (fun k hk => .inl (by cases hk; simp))
    try go_wp2
    go_end0
    refine ⟨by first | rfl | trivial, ?_, (HT.out.2.2.2.2.mono (T := [b]) (by simp)).trans k2 (fun z hz => .inl hz)⟩
    have q := Vm.del (w := w1) (x := x) HT.out.1 HT.out.2.1 HT.out.2.2.1 hg o2
    rw [hg] at q
    exact q
  | false =>
    rw [hg] at c2 hw1
    go_enter Tryz.func39, Tryz.ntmps39
    go_upto_region 1 with fail
    rw [← hw1]
    clear hw1
    go_wp2_with (at_mapUpdate; refine wpList_mapUpdate_own _ rfl _ _ _ 88 rfl 3 45 keyL Tryz.underlying88 _ b n D rfl hO1 hnm _ _ _ rfl rfl hkey _ [] hval ?_; intro w2 o2 ht2)
    have k2 : Kept [b] w1 w2 := (Kept.refl _ w1).grown ht2 (fun k hk => .inl (by cases hk; simp))
    try go_wp2
    go_end0
    refine ⟨by first | rfl | trivial, ?_, (HT.out.2.2.2.2.mono (T := [b]) (by simp)).trans k2 (fun z hz => .inl hz)⟩
    have q := Vm.put (w := w1) (x := x) HT.out.1 HT.out.2.1 HT.out.2.2.1 HT.out.2.2.2.1 hO1.isMap hg o2
    rw [hg] at q
    exact q
set_option maxHeartbeats 1600000 in
theorem qSeen {V : Tag → Value} {g : Nat} {c : Cf} {S : St} {t : Tn} {x : Nat} (p : Int) (w : World) (h : PpP w V g c S) (ht : t ∈ S.opn) (hx : V (.tx t.id) = .pointer (some ⟨x, 0, none⟩)) (hp : 0 ≤ p ∧ p < c.pages) (hl : (pgT c S t p).length ≤ 3600000000000) : Calls Tryz.prog 74 #[.pointer (some ⟨g, 0, none⟩), .pointer (some ⟨x, 0, none⟩), .int .i64 p] w fun e w' => Kept [] w w' ∧ ∃ b, e = .returned (.map (some b)) ∧ Vm w' b (pgT c S t p) ∧ ((p ∈ t.pages ∧ V (.ow t.id p) = .map (some b)) ∨ (p ∉ t.pages ∧ w.heap.size ≤ b)) := by
  have zM : ∀ w : World, (zeroValue 88).run Tryz.prog w = .ok (.map none) w := fun w => by
    go_simp
    try rfl
  obtain ⟨x', ex, hb⟩ := (h.txs t ht).box
  obtain rfl : x = x' := by rw [hx] at ex; simpa using ex
  obtain ⟨hd, ehd, D, hO, hT, hK⟩ := (h.txs t ht).hd
  rw [ehd] at hb
  have cs := hb.cell (j := 0) rfl
  have hpi : I64 p := by have := h.ok.may.1; exact ⟨by omega, by omega⟩
  have hkey := keyOf_int_mk (P := Tryz.prog) (k := 3) Tryz.underlying3 (wf_of_i64 hpi)
  have h1 := hT.has p hpi
  have h2 := hT.atk p hpi
  by_cases hm : p ∈ t.pages
  · obtain ⟨o, eo, ho⟩ := (h.txs t ht).own p hm
    rw [fH_there hm, eo] at h1 h2
    simp only [Option.isSome_some, Option.getD_some, nOf, blkOf] at h1 h2
    have HV := @hideH _ (And.intro ho eo)
    clear hT hK h hb ho eo hl
    go_enter Tryz.func74, Tryz.ntmps74
    go_wp2_with (at_lookup; refine wpList_lookup_mthere w rfl _ _ 114 rfl 3 88 keyL Tryz.underlying114 (zM _) hd _ D rfl hO _ _ rfl hkey o h1 h2 ?_)
    try go_wp2
    go_ret
    exact ⟨Kept.refl _ _, o, by first | rfl | trivial, HV.out.1, .inl ⟨hm, HV.out.2⟩⟩
  · rw [fH_gone hm] at h1 h2
    simp only [Option.isSome_none, Option.getD_none] at h1 h2
    obtain ⟨b, eb, hv⟩ := h.pg p hp.1 hp.2
    have B := h.box
    obtain ⟨pp, cc, epp, hnc, hcm⟩ := h.pgs.shape
    have hpgs := h.pgs
    rw [epp] at B hpgs
    have c6 := B.cell (j := 6) rfl
    have hpn : p.toNat < c.pages.toNat := by omega
    obtain ⟨gp, rfl, h6, h7, h8, h9⟩ := Row.pos hpgs (by omega)
    have cp := h8 p.toNat (.map (some b)) (by rw [List.getElem?_map, List.getElem?_range hpn]; show some (V (.pg ((p.toNat : Nat) : Int))) = _; rw [Int.toNat_of_nonneg hp.1, eb])
    obtain ⟨k, hk⟩ : ∃ k : Nat, (k : Int) = p := ⟨p.toNat, Int.toNat_of_nonneg hp.1⟩
    subst hk
    obtain ⟨n, hn⟩ : ∃ n, n = c.pages.toNat := ⟨_, rfl⟩
    rw [← hn] at c6
    rw [Int.toNat_natCast] at cp hpn
    have hkn : (k : Int) < (n : Int) := by omega
    have hk0 : (0 : Int) ≤ (k : Int) := by omega
    have hpg : pgT c S t (k : Int) = pgD c S (k : Int) := pgT_new (h.ok2.on t ht) hm
    rw [hpg] at hl ⊢
    have HQ := @hideH _ (qCopied w hv hl)
    clear hT hK h hb hv hl B hpgs h6 h7 h8 h9 hn hpn hp hpg hnc hcm epp eb
    go_enter Tryz.func74, Tryz.ntmps74
    go_wp2_with (at_lookup; refine wpList_lookup_mgone w rfl _ _ 114 rfl 3 88 keyL Tryz.underlying114 (zM _) hd _ D rfl hO _ _ rfl hkey h1 h2 ?_)
    try go_wp2_with fail
    refine HQ.out.mono ?_
    rintro e w1 ⟨b', rfl, hb1, hv1, k1⟩
    have HA := @hideH _ (And.intro k1 hv1)
    clear k1 hv1
    go_wp2
    go_ret
    exact ⟨HA.out.1, b', by first | rfl | trivial, HA.out.2, .inr ⟨hm, hb1⟩⟩
end Go.Proofs.YtnjfahgmebmakaaGreatDoor

/-
  OWN WORK (by mkpp2.py). The landed plain (layer 18): a slot's bytes; the length of a change.
-/
namespace Go.Proofs.YtnjfahgmebmakaaGreatDoor
open Go.RowKit Go.Maps
set_option linter.unusedVariables false
set_option linter.unusedSimpArgs false
def iOf : Value → Int
  | .int _ q => q
  | _ => 0
theorem shr_pow (v : Int) : ∀ j : Nat, shr j v = v / 2 ^ (8 * j)
  | 0 => by simp [shr]
  | j + 1 => by
    rw [shr, shr_pow v j, show 8 * (j + 1) = 8 * j + 8 by omega, Int.pow_add, Int.ediv_ediv_of_nonneg (Int.pow_nonneg (by omega))]
    rfl
set_option maxRecDepth 20000 in
set_option maxHeartbeats 25600000 in
theorem qSlotF (key v : Int) (w : World) (hk : 0 ≤ key ∧ key < 4294967296) (hv : 0 ≤ v ∧ v < 18446744073709551616) : Calls Tryz.prog 77 #[.agg #[.int .i64 key, .int .u64 v, .bool true]] w fun e w' => e = .returned (.agg (b8 (slotL key v false)).toArray) ∧ Kept [] w w' := by
  obtain ⟨w0, hw0⟩ : ∃ wx, wx = w.alloc (.cells #[.int .i64 key, .int .u64 v, .bool true] 50) := ⟨_, rfl⟩
  have k0 : Kept [] w w0 := by rw [hw0]; exact (Kept.refl [] w).alloc _
  have B0 : Blk w0 w.heap.size 50 [.int .i64 key, .int .u64 v, .bool true] := by rw [hw0]; exact Blk.new w _ _
  have e0 : w0.heap.size = w.heap.size + 1 := by rw [hw0, World.size_alloc]
  obtain ⟨w1, hw1⟩ : ∃ wx, wx = w0.alloc (.cells #[.int .u8 0, .int .u8 0, .int .u8 0, .int .u8 0, .int .u8 0, .int .u8 0, .int .u8 0, .int .u8 0, .int .u8 0, .int .u8 0, .int .u8 0, .int .u8 0, .int .u8 0, .int .u8 0, .int .u8 0, .int .u8 0] 137) := ⟨_, rfl⟩
  have k1 : Kept [] w0 w1 := by rw [hw1]; exact (Kept.refl [] w0).alloc _
  have B1 : Blk w1 w0.heap.size 137 (b8 (zeros 16)) := by rw [hw1]; exact Blk.new w0 _ _
  obtain ⟨w2, hw2⟩ : ∃ wx, wx = w1.alloc (.cells #[.int .u8 0, .int .u8 0, .int .u8 0, .int .u8 0, .int .u8 0, .int .u8 0, .int .u8 0, .int .u8 0, .int .u8 0, .int .u8 0, .int .u8 0, .int .u8 0, .int .u8 0, .int .u8 0, .int .u8 0, .int .u8 0] 137) := ⟨_, rfl⟩
  have k2 : Kept [] w1 w2 := by rw [hw2]; exact (Kept.refl [] w1).alloc _
  have B2 : Blk w2 w1.heap.size 137 (b8 (zeros 16)) := by rw [hw2]; exact Blk.new w1 _ _
  have e1 : w1.heap.size = w.heap.size + 1 + 1 := by rw [hw1, World.size_alloc, e0]
  rw [e1] at B2
  rw [e0] at B1
  have HB := @hideH _ (And.intro (B1.kept k2 (by simp)) (And.intro B2 (And.intro (k0.then (k1.then k2)) (B0.kept (k1.then k2) (by simp)))))
  clear k0 k1 k2 B0 B1 B2
  clear hk hv
  have B1 := HB.out.1
  have B2 := HB.out.2.1
  have cg := HB.out.2.2.2.cell (j := 2) rfl
  go_enter Tryz.func77, Tryz.ntmps77
  go_upto_region 2 with fail
  rw [← hw0, ← e0, ← hw1]
  rw [e0, ← e1, ← hw2]
  rw [e1]
  clear hw0 hw1 hw2 e0 e1
  go_upto_region 3 with fail
  obtain ⟨L, hL⟩ : ∃ L : List Int, L = zeros 16 := ⟨_, rfl⟩
  rw [← hL] at B2
  have HL := @hideH _ (And.intro hL (show L.length = 16 by rw [hL]; simp [digits_length, zeros]))
  clear hL
  have hld := run_range (P := Tryz.prog) 137 (by kernel_rfl) Tryz.underlying137 rfl HL.out.2 B2
  obtain ⟨ht, hst, B4, k4⟩ := run_over16 (P := Tryz.prog) 137 (by kernel_rfl) B1 HL.out.2
  obtain ⟨w4, hw4⟩ : ∃ wx, wx = w2.setCells (w.heap.size + 1) 0 (b8 L) := ⟨_, rfl⟩
  rw [← hw4] at B4 k4
  have HB4 := @hideH _ B4
  have HK4 := @hideH _ k4
  clear B1 B2 B4 k4 hst
  refine wp_region_lit ?_
  refine wpList_load_mid rfl 137 (.tmp 3) rfl (w.heap.size + 1 + 1) 0 (by rfl) (b8 L) _ hld Tryz.underlying137 rfl (by rw [b8_length, HL.out.2]; kernel_rfl) ?_
  refine wpList_store_mid rfl 137 (.tmp 2) (.tmp 8) rfl (w.heap.size + 1) 0 (b8 L).toArray (by rfl) (by rfl) ht (by rw [List.size_toArray, b8_length, HL.out.2]; kernel_rfl) (b8_all L) ?_
  rw [show ((b8 L).toArray.toList) = b8 L from rfl, ← hw4]
  clear hw4 ht hld
  go_wp2
  refine bodyPost_ret (v := .agg (b8 L).toArray) (results_cell_row Tryz.results77 _ w4 (w.heap.size + 1) 137 (b8 L).toArray (0, 0) _ (by rfl) HB4.out Tryz.underlying137 rfl (by rw [List.size_toArray, b8_length, HL.out.2]; kernel_rfl)) rfl ?_
  exact ⟨by rw [HL.out.1]; rfl, HB.out.2.2.1.trans HK4.out (fun y hy => .inr (by simp at hy; omega))⟩
set_option maxRecDepth 20000 in
set_option maxHeartbeats 25600000 in
theorem qSlotT (key v : Int) (w : World) (hk : 0 ≤ key ∧ key < 4294967296) (hv : 0 ≤ v ∧ v < 18446744073709551616) : Calls Tryz.prog 77 #[.agg #[.int .i64 key, .int .u64 v, .bool false]] w fun e w' => e = .returned (.agg (b8 (slotL key v true)).toArray) ∧ Kept [] w w' := by
  obtain ⟨w0, hw0⟩ : ∃ wx, wx = w.alloc (.cells #[.int .i64 key, .int .u64 v, .bool false] 50) := ⟨_, rfl⟩
  have k0 : Kept [] w w0 := by rw [hw0]; exact (Kept.refl [] w).alloc _
  have B0 : Blk w0 w.heap.size 50 [.int .i64 key, .int .u64 v, .bool false] := by rw [hw0]; exact Blk.new w _ _
  have e0 : w0.heap.size = w.heap.size + 1 := by rw [hw0, World.size_alloc]
  obtain ⟨w1, hw1⟩ : ∃ wx, wx = w0.alloc (.cells #[.int .u8 0, .int .u8 0, .int .u8 0, .int .u8 0, .int .u8 0, .int .u8 0, .int .u8 0, .int .u8 0, .int .u8 0, .int .u8 0, .int .u8 0, .int .u8 0, .int .u8 0, .int .u8 0, .int .u8 0, .int .u8 0] 137) := ⟨_, rfl⟩
  have k1 : Kept [] w0 w1 := by rw [hw1]; exact (Kept.refl [] w0).alloc _
  have B1 : Blk w1 w0.heap.size 137 (b8 (zeros 16)) := by rw [hw1]; exact Blk.new w0 _ _
  obtain ⟨w2, hw2⟩ : ∃ wx, wx = w1.alloc (.cells #[.int .u8 0, .int .u8 0, .int .u8 0, .int .u8 0, .int .u8 0, .int .u8 0, .int .u8 0, .int .u8 0, .int .u8 0, .int .u8 0, .int .u8 0, .int .u8 0, .int .u8 0, .int .u8 0, .int .u8 0, .int .u8 0] 137) := ⟨_, rfl⟩
  have k2 : Kept [] w1 w2 := by rw [hw2]; exact (Kept.refl [] w1).alloc _
  have B2 : Blk w2 w1.heap.size 137 (b8 (zeros 16)) := by rw [hw2]; exact Blk.new w1 _ _
  have e1 : w1.heap.size = w.heap.size + 1 + 1 := by rw [hw1, World.size_alloc, e0]
  rw [e1] at B2
  rw [e0] at B1
  have HB := @hideH _ (And.intro (B1.kept k2 (by simp)) (And.intro B2 (And.intro (k0.then (k1.then k2)) (B0.kept (k1.then k2) (by simp)))))
  clear k0 k1 k2 B0 B1 B2
  have HKV := @hideH _ (And.intro hk hv)
  clear hk hv
  have cg := HB.out.2.2.2.cell (j := 2) rfl
  have B2 := HB.out.2.1
  have c0 := B2.cell (j := 0) (v := .int .u8 0) rfl
  have f0 := B2.free 0
  obtain ⟨w3, hw3⟩ : ∃ wx, wx = w2.setCell ⟨w.heap.size + 1 + 1, 0, none⟩ (.int .u8 1) := ⟨_, rfl⟩
  obtain ⟨BS, kS⟩ := B2.set 0 (.int .u8 1)
  rw [← hw3] at BS kS
  have HC := @hideH _ (show Blk w3 (w.heap.size + 1) 137 (b8 (zeros 16)) ∧ Blk w3 (w.heap.size + 1 + 1) 137 (b8 (part [1, 0, 0, 0] 12 0 key)) ∧ Kept [] w w3 ∧ Blk w3 w.heap.size 50 [.int .i64 key, .int .u64 v, .bool false] from ⟨HB.out.1.kept kS (by simp), BS, HB.out.2.2.1.trans kS (fun y hy => .inr (by simp at hy; omega)), HB.out.2.2.2.kept kS (by simp; omega)⟩)
  clear B2 BS kS HB
  go_enter Tryz.func77, Tryz.ntmps77
  go_upto_region 2 with fail
  rw [← hw0, ← e0, ← hw1]
  rw [e0, ← e1, ← hw2]
  rw [e1]
  clear hw0 hw1 hw2 e0 e1
  go_upto_region 5 with fail
  rw [← hw3]
  clear hw3 c0 f0 cg
  go_wp2
  go_loopw [10] (fun vi wr => ∃ j : Nat, j ≤ 4 ∧ vi = .int .i64 j ∧ Hid (Blk wr (w.heap.size + 1) 137 (b8 (zeros 16)) ∧ Blk wr (w.heap.size + 1 + 1) 137 (b8 (part ([1, 0, 0, 0]) 12 j key)) ∧ Kept [] w wr ∧ Blk wr w.heap.size 50 [.int .i64 key, .int .u64 v, .bool false])) (fun vi _ => 4 - (iOf vi).toNat)
  case atStart => exact ⟨0, by omega, rfl, HC.out⟩
  case round =>
    obtain ⟨j, hj, rfl, hh⟩ := hrel
    by_cases hjl : j < 4
    · have hjl' : (j : Int) < (4 : Int) := by omega
      have hj0 : (0 : Int) ≤ (j : Int) := by omega
      have wj : IntKind.i64.wrap ((j : Int) + 1) = (j : Int) + 1 := wrap_i64_of (by omega) (by omega)
      have wo : IntKind.i64.wrap (4 + (j : Int)) = ((4 + j : Nat) : Int) := by rw [wrap_i64_of (by omega) (by omega)]; omega
      have wm : IntKind.i64.wrap (8 * (j : Int)) = ((8 * j : Nat) : Int) := by rw [wrap_i64_of (by omega) (by omega)]; omega
      have ho1 : ((4 + j : Nat) : Int) < 16 := by omega
      have ho0 : (0 : Int) ≤ ((4 + j : Nat) : Int) := by omega
      have cK := hh.out.2.2.2.cell (j := 0) rfl
      have BA := hh.out.2.1
      have cA := BA.cell (b8_at (part_old ([1, 0, 0, 0]) (m := 12) (i := j) (by omega) key))
      rw [show ([1, 0, 0, 0] : List Int).length + j = 4 + j by simp [digits_length]] at cA
      have fA := BA.free (4 + j)
      obtain ⟨y, hy⟩ : ∃ y, y = shr j key % 256 := ⟨_, rfl⟩
      obtain ⟨BS, kS⟩ := BA.set (4 + j) (.int .u8 (shr j key % 256))
      have hpn := part_next ([1, 0, 0, 0]) (m := 12) (i := j) (by omega) key
      rw [show ([1, 0, 0, 0] : List Int).length + j = 4 + j by simp [digits_length]] at hpn
      rw [b8_set, hpn, ← hy] at BS
      rw [← hy] at kS
      obtain ⟨z, hz⟩ : ∃ z, z = shr j key := ⟨_, rfl⟩
      rw [← hz] at hy
      have hsh : Op.shift .shr .i64 key .i64 ((8 * j : Nat) : Int) = pure (.int .i64 z) := by
        rw [shift_shr_any .i64 .i64 key _ (by omega), hz, shr_pow]
        have : min (((8 * j : Nat) : Int).toNat) (IntKind.bits .i64) = 8 * j := by
          have : IntKind.bits .i64 = 64 := rfl
          omega
        rw [this]
      have cv : IntKind.u8.wrap z = y := by rw [hy, IntKind.wrap_u8]
      obtain ⟨o8, ho8⟩ : ∃ o8 : Int, o8 = ((8 * j : Nat) : Int) := ⟨_, rfl⟩
      rw [← ho8] at wm hsh
      obtain ⟨wn, hwn⟩ : ∃ wx, wx = wr.setCell ⟨w.heap.size + 1 + 1, 4 + j, none⟩ (.int .u8 y) := ⟨_, rfl⟩
      rw [← hwn] at BS kS
      have HN := @hideH _ (show Blk wn (w.heap.size + 1) 137 (b8 (zeros 16)) ∧ Blk wn (w.heap.size + 1 + 1) 137 (b8 (part ([1, 0, 0, 0]) 12 (j + 1) key)) ∧ Kept [] w wn ∧ Blk wn w.heap.size 50 [.int .i64 key, .int .u64 v, .bool false] from ⟨hh.out.1.kept kS (by simp), BS, hh.out.2.2.1.trans kS (fun y hy => .inr (by simp at hy; omega)), hh.out.2.2.2.kept kS (by simp; omega)⟩)
      clear hh BA BS kS hpn hz hy ho8
      go_upto_region 9 with fail
      rw [← hwn]
      clear hwn cA fA cv
      go_wp2
      go_roundw
      case rel => exact ⟨j + 1, by omega, by go_num, HN.out⟩
      case measure => first | (simp [iOf]; done) | (simp [iOf]; omega)
    · obtain rfl : j = 4 := by omega
      have HD := @hideH _ (show Blk wr (w.heap.size + 1) 137 (b8 (zeros 16)) ∧ Blk wr (w.heap.size + 1 + 1) 137 (b8 (part ([1, 0, 0, 0] ++ digits 4 key) 8 0 v)) ∧ Kept [] w wr ∧ Blk wr w.heap.size 50 [.int .i64 key, .int .u64 v, .bool false] from ⟨hh.out.1, by rw [part_zero]; exact hh.out.2.1, hh.out.2.2.1, hh.out.2.2.2⟩)
      clear hh HC
      go_wp2
      go_loopw [23] (fun vi wr => ∃ j : Nat, j ≤ 8 ∧ vi = .int .i64 j ∧ Hid (Blk wr (w.heap.size + 1) 137 (b8 (zeros 16)) ∧ Blk wr (w.heap.size + 1 + 1) 137 (b8 (part ([1, 0, 0, 0] ++ digits 4 key) 8 j v)) ∧ Kept [] w wr ∧ Blk wr w.heap.size 50 [.int .i64 key, .int .u64 v, .bool false])) (fun vi _ => 8 - (iOf vi).toNat)
      case atStart => exact ⟨0, by omega, rfl, HD.out⟩
      case round =>
        obtain ⟨j, hj, rfl, hh⟩ := hrel
        by_cases hjl : j < 8
        · have hjl' : (j : Int) < (8 : Int) := by omega
          have hj0 : (0 : Int) ≤ (j : Int) := by omega
          have wj : IntKind.i64.wrap ((j : Int) + 1) = (j : Int) + 1 := wrap_i64_of (by omega) (by omega)
          have wo : IntKind.i64.wrap (8 + (j : Int)) = ((8 + j : Nat) : Int) := by rw [wrap_i64_of (by omega) (by omega)]; omega
          have wm : IntKind.i64.wrap (8 * (j : Int)) = ((8 * j : Nat) : Int) := by rw [wrap_i64_of (by omega) (by omega)]; omega
          have ho1 : ((8 + j : Nat) : Int) < 16 := by omega
          have ho0 : (0 : Int) ≤ ((8 + j : Nat) : Int) := by omega
          have cK := hh.out.2.2.2.cell (j := 1) rfl
          have BA := hh.out.2.1
          have cA := BA.cell (b8_at (part_old ([1, 0, 0, 0] ++ digits 4 key) (m := 8) (i := j) (by omega) v))
          rw [show ([1, 0, 0, 0] ++ digits 4 key : List Int).length + j = 8 + j by simp [digits_length]] at cA
          have fA := BA.free (8 + j)
          obtain ⟨y, hy⟩ : ∃ y, y = shr j v % 256 := ⟨_, rfl⟩
          obtain ⟨BS, kS⟩ := BA.set (8 + j) (.int .u8 (shr j v % 256))
          have hpn := part_next ([1, 0, 0, 0] ++ digits 4 key) (m := 8) (i := j) (by omega) v
          rw [show ([1, 0, 0, 0] ++ digits 4 key : List Int).length + j = 8 + j by simp [digits_length]] at hpn
          rw [b8_set, hpn, ← hy] at BS
          rw [← hy] at kS
          obtain ⟨z, hz⟩ : ∃ z, z = shr j v := ⟨_, rfl⟩
          rw [← hz] at hy
          have hsh : Op.shift .shr .u64 v .i64 ((8 * j : Nat) : Int) = pure (.int .u64 z) := by
            rw [shift_shr_any .u64 .i64 v _ (by omega), hz, shr_pow]
            have : min (((8 * j : Nat) : Int).toNat) (IntKind.bits .u64) = 8 * j := by
              have : IntKind.bits .u64 = 64 := rfl
              omega
            rw [this]
          have cv : IntKind.u8.wrap z = y := by rw [hy, IntKind.wrap_u8]
          obtain ⟨o8, ho8⟩ : ∃ o8 : Int, o8 = ((8 * j : Nat) : Int) := ⟨_, rfl⟩
          rw [← ho8] at wm hsh
          obtain ⟨wn, hwn⟩ : ∃ wx, wx = wr.setCell ⟨w.heap.size + 1 + 1, 8 + j, none⟩ (.int .u8 y) := ⟨_, rfl⟩
          rw [← hwn] at BS kS
          have HN := @hideH _ (show Blk wn (w.heap.size + 1) 137 (b8 (zeros 16)) ∧ Blk wn (w.heap.size + 1 + 1) 137 (b8 (part ([1, 0, 0, 0] ++ digits 4 key) 8 (j + 1) v)) ∧ Kept [] w wn ∧ Blk wn w.heap.size 50 [.int .i64 key, .int .u64 v, .bool false] from ⟨hh.out.1.kept kS (by simp), BS, hh.out.2.2.1.trans kS (fun y hy => .inr (by simp at hy; omega)), hh.out.2.2.2.kept kS (by simp; omega)⟩)
          clear hh BA BS kS hpn hz hy ho8
          go_upto_region 14 with fail
          rw [← hwn]
          clear hwn cA fA cv
          go_wp2
          go_roundw
          case rel => exact ⟨j + 1, by omega, by go_num, HN.out⟩
          case measure => first | (simp [iOf]; done) | (simp [iOf]; omega)
        · obtain rfl : j = 8 := by omega
          have HW := @hideH _ hh.out.2.2.1
          have B1 := hh.out.1
          have B2 := hh.out.2.1
          rw [part_all] at B2
          clear hh HD
          go_upto_region 15 with fail
          obtain ⟨L, hL⟩ : ∃ L : List Int, L = [1, 0, 0, 0] ++ digits 4 key ++ digits 8 v := ⟨_, rfl⟩
          rw [← hL] at B2
          have HL := @hideH _ (And.intro hL (show L.length = 16 by rw [hL]; simp [digits_length, zeros]))
          clear hL
          have hld := run_range (P := Tryz.prog) 137 (by kernel_rfl) Tryz.underlying137 rfl HL.out.2 B2
          obtain ⟨ht, hst, B4, k4⟩ := run_over16 (P := Tryz.prog) 137 (by kernel_rfl) B1 HL.out.2
          obtain ⟨w4, hw4⟩ : ∃ wx, wx = wr.setCells (w.heap.size + 1) 0 (b8 L) := ⟨_, rfl⟩
          rw [← hw4] at B4 k4
          have HB4 := @hideH _ B4
          have HK4 := @hideH _ k4
          clear B1 B2 B4 k4 hst
          refine wp_region_lit ?_
          refine wpList_load_mid rfl 137 (.tmp 3) rfl (w.heap.size + 1 + 1) 0 (by rfl) (b8 L) _ hld Tryz.underlying137 rfl (by rw [b8_length, HL.out.2]; kernel_rfl) ?_
          refine wpList_store_mid rfl 137 (.tmp 2) (.tmp 36) rfl (w.heap.size + 1) 0 (b8 L).toArray (by rfl) (by rfl) ht (by rw [List.size_toArray, b8_length, HL.out.2]; kernel_rfl) (b8_all L) ?_
          rw [show ((b8 L).toArray.toList) = b8 L from rfl, ← hw4]
          clear hw4 ht hld
          go_wp2
          refine bodyPost_ret (v := .agg (b8 L).toArray) (results_cell_row Tryz.results77 _ w4 (w.heap.size + 1) 137 (b8 L).toArray (0, 0) _ (by rfl) HB4.out Tryz.underlying137 rfl (by rw [List.size_toArray, b8_length, HL.out.2]; kernel_rfl)) rfl ?_
          exact ⟨by rw [HL.out.1]; rfl, HW.out.trans HK4.out (fun y hy => .inr (by simp at hy; omega))⟩
theorem qSlot (x : Chg) (w : World) (hk : 0 ≤ x.key ∧ x.key < 4294967296) (hv : u64 x.val) : Calls Tryz.prog 77 #[.agg #[.int .i64 x.key, .int .u64 x.val, .bool x.gone]] w fun e w' => e = .returned (.agg (b8 (slotL x.key x.val (!x.gone))).toArray) ∧ Kept [] w w' := by
  cases hg : x.gone
  · exact qSlotT x.key x.val w hk hv
  · exact qSlotF x.key x.val w hk hv
set_option maxRecDepth 20000 in
set_option maxHeartbeats 3200000 in
theorem qLength (A B : List Int) (hA : A.length = 16) (hB : B.length = 16) (w : World) : Calls Tryz.prog 75 #[.agg (b8 A).toArray, .agg (b8 B).toArray] w fun e w' => e = .returned (.int .i64 (lengthL A B)) ∧ Kept [] w w' := by
  obtain ⟨w1, hw1⟩ : ∃ wx, wx = w.alloc (.cells (b8 A).toArray 137) := ⟨_, rfl⟩
  have k1 : Kept [] w w1 := by rw [hw1]; exact (Kept.refl [] w).alloc _
  have B1 : Blk w1 w.heap.size 137 (b8 A) := by rw [hw1]; exact Blk.new w _ _
  obtain ⟨w2, hw2⟩ : ∃ wx, wx = w1.alloc (.cells (b8 B).toArray 137) := ⟨_, rfl⟩
  have k2 : Kept [] w1 w2 := by rw [hw2]; exact (Kept.refl [] w1).alloc _
  have B2 : Blk w2 w1.heap.size 137 (b8 B) := by rw [hw2]; exact Blk.new w1 _ _
  have e1 : w1.heap.size = w.heap.size + 1 := by rw [hw1, World.size_alloc]
  rw [e1] at B2
  have HB := @hideH _ (And.intro (B1.kept k2 (by simp)) (And.intro B2 (k1.then k2)))
  have HL := @hideH _ (And.intro hA hB)
  clear k1 k2 B1 B2 hA hB
  go_enter Tryz.func75, Tryz.ntmps75
  go_upto_region 1 with fail
  rw [← hw1, ← hw2]
  clear hw1 hw2 e1
  go_wp2
  go_loopw [5, 6, 7] (fun vf vb vi wr => ∃ m f t : Nat, m ≤ 16 ∧ vi = .int .i64 ((m : Int) - 1) ∧ vf = .int .i64 (f : Int) ∧ vb = .int .i64 (t : Int) ∧ Hid (Kept [] w2 wr ∧ (((∀ i, m ≤ i → i < 16 → A[i]? = B[i]?) ∧ f = 0 ∧ t = 0) ∨ (m ≤ f ∧ f < t ∧ t ≤ 16 ∧ A[f]? ≠ B[f]? ∧ (∀ i, m ≤ i → i < f → A[i]? = B[i]?) ∧ A[t - 1]? ≠ B[t - 1]? ∧ ∀ i, t ≤ i → i < 16 → A[i]? = B[i]?)))) (fun _ _ vi _ => (iOf vi + 1).toNat)
  case atStart => exact ⟨16, 0, 0, by omega, by first | rfl | go_num, rfl, rfl, Kept.refl _ _, .inl ⟨fun i h1 h2 => by omega, rfl, rfl⟩⟩
  case round =>
    obtain ⟨m, f, t, hm, rfl, rfl, rfl, hh⟩ := hrel
    by_cases hm0 : 0 < m
    · obtain ⟨j, rfl⟩ : ∃ j, m = j + 1 := ⟨m - 1, by omega⟩
      rw [show (((j + 1 : Nat) : Int) - 1) = (j : Int) by omega]
      have hj0 : (0 : Int) ≤ (j : Int) := by omega
      have hj16 : (j : Int) < 16 := by omega
      have wj : IntKind.i64.wrap ((j : Int) + 1) = ((j + 1 : Nat) : Int) := by rw [wrap_i64_of (by omega) (by omega)]; omega
      have wd : IntKind.i64.wrap ((j : Int) - 1) = (j : Int) - 1 := wrap_i64_of (by omega) (by omega)
      obtain ⟨x, hx⟩ : ∃ x, A[j]? = some x := ⟨_, List.getElem?_eq_getElem (by have := HL.out.1; omega)⟩
      obtain ⟨y, hy⟩ : ∃ y, B[j]? = some y := ⟨_, List.getElem?_eq_getElem (by have := HL.out.2; omega)⟩
      have ca := hh.out.1.cell (HB.out.1.cell (b8_at hx)) (by simp)
      have cb := hh.out.1.cell (HB.out.2.1.cell (b8_at hy)) (by simp)
      by_cases e : x = y
      · have e' : (x != y) = false := by simpa using e
        have e2 : (x == y) = true := by simpa using e
        have HN := @hideH _ (show ((∀ i, j ≤ i → i < 16 → A[i]? = B[i]?) ∧ f = 0 ∧ t = 0) ∨ (j ≤ f ∧ f < t ∧ t ≤ 16 ∧ A[f]? ≠ B[f]? ∧ (∀ i, j ≤ i → i < f → A[i]? = B[i]?) ∧ A[t - 1]? ≠ B[t - 1]? ∧ ∀ i, t ≤ i → i < 16 → A[i]? = B[i]?) by
          have one : ∀ i, i = j → A[i]? = B[i]? := fun i hi => by rw [hi, hx, hy, e]
          rcases hh.out.2 with ⟨h1, h2⟩ | ⟨h1, h2, h3, h4, h5, h6⟩
          · exact .inl ⟨fun i hi hi2 => by
              by_cases q : i = j
              · exact one i q
              · exact h1 i (by omega) hi2, h2⟩
          · exact .inr ⟨by omega, h2, h3, h4, fun i hi hi2 => by
              by_cases q : i = j
              · exact one i q
              · exact h5 i (by omega) hi2, h6⟩)
        have HK := @hideH _ hh.out.1
        clear e hx hy hh
        go_upto_region 5 with fail
        go_quiet (fail)
        go_wp2
        go_roundw
        case rel => exact ⟨j, f, t, by omega, by first | rfl | go_num, rfl, rfl, HK.out.drewN' _, HN.out⟩
        case measure => first | (simp [iOf]; done) | (simp [iOf]; omega)
      · have e' : (x != y) = true := by simpa using e
        have e2 : (x == y) = false := by simpa using e
        have hmx : max (t : Int) ((j + 1 : Nat) : Int) = ((max t (j + 1) : Nat) : Int) := by omega
        have HN := @hideH _ (show (j ≤ j ∧ j < max t (j + 1) ∧ max t (j + 1) ≤ 16 ∧ A[j]? ≠ B[j]? ∧ (∀ i, j ≤ i → i < j → A[i]? = B[i]?) ∧ A[max t (j + 1) - 1]? ≠ B[max t (j + 1) - 1]? ∧ ∀ i, max t (j + 1) ≤ i → i < 16 → A[i]? = B[i]?) by
          have one : A[j]? ≠ B[j]? := by rw [hx, hy]; exact fun q => e (Option.some.inj q)
          rcases hh.out.2 with ⟨h1, h2, h3⟩ | ⟨h1, h2, h3, h4, h5, h6, h7⟩
          · subst h3
            rw [show max 0 (j + 1) = j + 1 by omega]
            exact ⟨by omega, by omega, by omega, one, fun i hi hi2 => by omega, by simpa using one, fun i hi hi2 => h1 i (by omega) hi2⟩
          · rw [show max t (j + 1) = t by omega]
            exact ⟨by omega, by omega, h3, one, fun i hi hi2 => by omega, h6, h7⟩)
        obtain ⟨t', ht'⟩ : ∃ t', t' = max t (j + 1) := ⟨_, rfl⟩
        rw [← ht'] at HN hmx
        have HK := @hideH _ hh.out.1
        clear e hx hy hh ht'
        go_upto_region 5 with fail
        go_quiet (fail)
        go_wp2
        go_roundw
        case rel => exact ⟨j, j, t', by omega, by first | rfl | go_num, by first | rfl | go_num, by first | rfl | (rw [hmx]) | go_num, HK.out.drewN' _, .inr HN.out⟩
        case measure => first | (simp [iOf]; done) | (simp [iOf]; omega)
    · obtain rfl : m = 0 := by omega
      have HE := @hideH _ (show lengthL A B = (t : Int) - (f : Int) by
        rcases hh.out.2 with ⟨h1, h2, h3⟩ | ⟨h1, h2, h3, h4, h5, h6, h7⟩
        · subst h2 h3
          exact lengthL_same (same16 HL.out.1 HL.out.2 (fun i hi => h1 i (by omega) hi))
        · have l1 := HL.out.1
          have l2 := HL.out.2
          have a1 : A[f]? = some A[f] := List.getElem?_eq_getElem (by omega)
          have b1 : B[f]? = some B[f] := List.getElem?_eq_getElem (by omega)
          have a2 : A[t - 1]? = some A[t - 1] := List.getElem?_eq_getElem (by omega)
          have b2 : B[t - 1]? = some B[t - 1] := List.getElem?_eq_getElem (by omega)
          exact lengthL_part l1 l2 (fun i hi => h5 i (by omega) hi) a1 b1 (fun q => h4 (by rw [a1, b1, q])) h7 (by omega) h3 a2 b2 (fun q => h6 (by rw [a2, b2, q])))
      have HT := @hideH _ (show t ≤ 16 ∧ f ≤ 16 by rcases hh.out.2 with ⟨h1, h2, h3⟩ | ⟨h1, h2, h3, h4⟩ <;> omega)
      have wd : IntKind.i64.wrap ((t : Int) - (f : Int)) = (t : Int) - (f : Int) := wrap_i64_of (by have := HT.out; omega) (by have := HT.out; omega)
      have HK := @hideH _ hh.out.1
      clear hh
      go_wp2
      go_ret
      exact ⟨by rw [HE.out]; first | rfl | go_num, HB.out.2.2.then HK.out⟩
set_option maxRecDepth 20000 in
set_option maxHeartbeats 3200000 in
theorem qSlotV {b : Nat} {l : List (Int × Int)} (key : Int) (w : World) (h : Vm w b l) (hk : 0 ≤ key ∧ key < 4294967296) (hv : u64 (pairO (lookE l key)).1) : Calls Tryz.prog 76 #[.map (some b), .int .i64 key] w fun e w' => e = .returned (.agg (b8 (slotL key (pairO (lookE l key)).1 (pairO (lookE l key)).2)).toArray) ∧ Kept [] w w' := by
  have zU : ∀ w : World, (zeroValue 45).run Tryz.prog w = .ok (.int .u64 0) w := fun w => by
    go_simp
    try rfl
  obtain ⟨⟨D, hO, hT, hK⟩, hr⟩ := h
  have hi : I64 key := ⟨by omega, by omega⟩
  have hkey := keyOf_int_mk (P := Tryz.prog) (k := 3) Tryz.underlying3 (wf_of_i64 hi)
  obtain ⟨q, hq⟩ : ∃ q, q = pairO (lookE l key) := ⟨_, rfl⟩
  rw [← hq] at hv ⊢
  have h1 : Maps.has D (.int .i64 key) = q.2 := by
    rw [hT.has key hi, fV_isSome, hq]
    cases lookE l key <;> rfl
  have h2 : D.atKey (.int .i64 key) (.lit (.int .u64 0)) = .lit (.int .u64 q.1) := by
    rw [hT.atk key hi, hq]
    unfold fV
    cases lookE l key <;> rfl
  obtain ⟨w1, hw1⟩ : ∃ wx, wx = w.alloc (.cells #[.int .u8 0, .int .u8 0, .int .u8 0, .int .u8 0, .int .u8 0, .int .u8 0, .int .u8 0, .int .u8 0, .int .u8 0, .int .u8 0, .int .u8 0, .int .u8 0, .int .u8 0, .int .u8 0, .int .u8 0, .int .u8 0] 137) := ⟨_, rfl⟩
  have k1 : Kept [] w w1 := by rw [hw1]; exact (Kept.refl [] w).alloc _
  have B1 : Blk w1 w.heap.size 137 (b8 (zeros 16)) := by rw [hw1]; exact Blk.new w _ _
  have hO1 := ownsMap_kept hO k1 (by simp)
  have HS := @hideH _ (fun wx => qSlot ⟨key, q.1, !q.2⟩ wx hk hv)
  have HB := @hideH _ (And.intro k1 B1)
  have HL := @hideH _ (slot_len key q.1 q.2)
  obtain ⟨v, th⟩ := q
  dsimp only at *
  obtain ⟨n, hn⟩ : ∃ n, n = (l.map Prod.fst).length := ⟨_, rfl⟩
  rw [← hn] at hO1
  clear hT hK hr hO k1 B1 hq hv hk hn
  go_enter Tryz.func76, Tryz.ntmps76
  go_upto_region 1 with fail
  rw [← hw1]
  clear hw1
  go_wp2_with (at_lookup; refine wpList_lookup_own_ok_int _ rfl _ _ 88 rfl 3 45 .u64 keyL Tryz.underlying88 Tryz.underlying45 (zU _) b n D rfl hO1 _ _ rfl hkey ?_; intro cc hcc hwc; (obtain rfl : v = cc := (by rw [h2] at hcc; simpa using hcc)); rw [h1])
  try go_wp2_with fail
  refine (HS.out _).mono ?_
  rintro e w2 ⟨rfl, k2⟩
  rw [Bool.not_not]
  obtain ⟨L, hL⟩ : ∃ L : List Int, L = slotL key v th := ⟨_, rfl⟩
  rw [← hL] at HL ⊢
  have HLL := @hideH _ hL
  have B2 := HB.out.2.kept k2 (by simp)
  obtain ⟨ht, hst, B4, k4⟩ := run_over16 (P := Tryz.prog) 137 (by kernel_rfl) B2 HL.out
  obtain ⟨w4, hw4⟩ : ∃ wx, wx = w2.setCells w.heap.size 0 (b8 L) := ⟨_, rfl⟩
  rw [← hw4] at B4 k4
  have HB4 := @hideH _ B4
  have HK4 := @hideH _ (And.intro (HB.out.1.then k2) k4)
  clear B2 B4 k4 hst hL k2
  go_wp2_with (refine wpList_store_mid rfl 137 (.tmp 4) (.tmp 18) rfl w.heap.size 0 (b8 L).toArray (by rfl) (by rfl) ht (by rw [List.size_toArray, b8_length, HL.out]; kernel_rfl) (b8_all L) ?_; rw [show ((b8 L).toArray.toList) = b8 L from rfl, ← hw4]; clear hw4 ht)
  try go_wp2
  refine bodyPost_ret (v := .agg (b8 L).toArray) (results_cell_row Tryz.results76 _ w4 w.heap.size 137 (b8 L).toArray (0, 0) _ (by rfl) HB4.out Tryz.underlying137 rfl (by rw [List.size_toArray, b8_length, HL.out]; kernel_rfl)) rfl ?_
  exact ⟨by rw [HLL.out], HK4.out.1.trans HK4.out.2 (fun y hy => .inr (by simp at hy; omega))⟩
end Go.Proofs.YtnjfahgmebmakaaGreatDoor

/-
  OWN WORK. The landed plain (layer 18): how its State lies behind a begin and behind an end.
-/
namespace Go.Proofs.YtnjfahgmebmakaaGreatDoor
open Go.RowKit Go.Maps
set_option linter.unusedVariables false
set_option linter.unusedSimpArgs false
/-- what came is new; what was written is the State's -/
def Nx (w w' : World) (V V' : Tag → Value) : Prop := (∀ a x, blkOf (V' a) = some x → (∃ b, blkOf (V b) = some x) ∨ w.heap.size ≤ x) ∧ ∃ X, Kept X w w' ∧ ∀ x ∈ X, ∃ b, blkOf (V b) = some x
theorem Nx.refl {w w' : World} (V : Tag → Value) (k : Kept [] w w') : Nx w w' V V := ⟨fun a x h => .inl ⟨a, h⟩, [], k, by simp⟩
theorem Nx.same {w w' : World} {V : Tag → Value} {X : List Nat} (k : Kept X w w') (h : ∀ x ∈ X, ∃ b, blkOf (V b) = some x) : Nx w w' V V := ⟨fun a x h => .inl ⟨a, h⟩, X, k, h⟩
theorem Nx.then {w w' w'' : World} {V V' : Tag → Value} (h : Nx w w' V V') (k : Kept [] w' w'') : Nx w w'' V V' := by
  obtain ⟨h1, X, k1, h2⟩ := h
  exact ⟨h1, X, k1.then k, h2⟩
theorem Nx.trans {w w' w'' : World} {V V' V'' : Tag → Value} (h : Nx w w' V V') (h' : Nx w' w'' V' V'') : Nx w w'' V V'' := by
  obtain ⟨h1, X, k1, h2⟩ := h
  obtain ⟨h3, Y, k2, h4⟩ := h'
  have hs := k1.size
  refine ⟨fun a x q => ?_, X ++ Y.filter (fun y => decide (y < w.heap.size)), ?_, fun x hx => ?_⟩
  · rcases h3 a x q with ⟨b, r⟩ | r
    · exact h1 b x r
    · exact .inr (by omega)
  · refine (k1.mono (T := X ++ Y.filter (fun y => decide (y < w.heap.size))) (fun x hx => List.mem_append.2 (.inl hx))).trans k2 (fun y hy => ?_)
    by_cases q : y < w.heap.size
    · exact .inl (List.mem_append.2 (.inr (List.mem_filter.2 ⟨hy, by simpa using q⟩)))
    · exact .inr (by omega)
  · rcases List.mem_append.1 hx with q | q
    · exact h2 x q
    · obtain ⟨q1, q2⟩ := List.mem_filter.1 q
      obtain ⟨b, r⟩ := h4 x q1
      rcases h1 b x r with r | r
      · exact r
      · have : x < w.heap.size := by simpa using q2
        omega
/-- from a step of the State to what the face says of it -/
theorem Nx.face {w w' : World} {V V' : Tag → Value} {g : Nat} {F : List Nat} {c : Cf} {S S' : St} (h2 : ∀ a x, blkOf (V a) = some x → x ∈ F) (h3 : ∀ x ∈ F, x < w.heap.size) (h4 : 0 ∉ F) (h0 : 0 < w.heap.size) (hp : PpP w' V' g c S') (hn : Nx w w' V V') : ∃ F', Pz w' g F' c S' ∧ Fr w F F' ∧ Kept F w w' := by
  obtain ⟨h1, X, k, hX⟩ := hn
  exact ⟨grownF w w' F, Pz.next (S := S') h2 h3 h4 hp k.size h0 h1, fr_grownF w w' F, k.mono (fun x hx => by obtain ⟨b, q⟩ := hX x hx; exact h2 b x q)⟩
/-- one more is open -/
theorem PpP.addT {w w' : World} {V : Tag → Value} {g : Nat} {c : Cf} {S : St} (h : PpP w V g c S) {id : Int} (hf : findO S.opn id = none) {bo x hb n : Nat} {D : DataW Unit} (hbo : V .bo = .map (some bo)) (hx : w.heap.size ≤ x ∧ x < w'.heap.size) (hh : w.heap.size ≤ hb ∧ hb < w'.heap.size) (hne : hb ≠ x) (kk : Kept [bo] w w')
    (hT : Tel D (.int .i64 0) (fO V S.opn)) (hD : Maps.IsMap D) (ho : w'.ownsMap Tryz.prog 3 ptrElem bo n (D.put (.int .i64 id) (.lit (.int .i64 ((x : Int) + 1))))) (hbx : Blk w' x 116 [.map (some hb), .slice none 0 0, .int .i64 99]) (hm : Mp w' mapElem hb (.int .i64 0) (fun _ => none) [])
    (hok : OkS c ⟨S.done, S.opn ++ [⟨id, [], [], []⟩], S.used⟩) : ∃ V', PpP w' V' g c ⟨S.done, S.opn ++ [⟨id, [], [], []⟩], S.used⟩ ∧ ∀ a y, blkOf (V' a) = some y → (∃ b, blkOf (V b) = some y) ∨ w.heap.size ≤ y := by
  obtain ⟨V', hV'⟩ : ∃ V', V' = upd (upd (upd V (.hd id) (.map (some hb))) (.ch id) (.slice none 0 0)) (.tx id) (.pointer (some ⟨x, 0, none⟩)) := ⟨_, rfl⟩
  have hsz := kk.size
  have i1 : Inj w'.heap.size (upd V (.hd id) (.map (some hb))) := h.inj.upd hsz (fun y hy => .inl (by cases hy; exact hh))
  have i2 : Inj w'.heap.size (upd (upd V (.hd id) (.map (some hb))) (.ch id) (.slice none 0 0)) := i1.upd (Nat.le_refl _) (fun y hy => by cases hy)
  have hinj : Inj w'.heap.size V' := by
    refine ⟨fun a b y ha hb' => ?_, fun a y ha => ?_⟩
    · rw [hV'] at ha hb'
      unfold upd at ha hb'
      have lt : ∀ d z, blkOf (V d) = some z → z < w.heap.size := h.inj.lt
      by_cases a1 : a = .tx id
      · by_cases b1 : b = .tx id
        · rw [a1, b1]
        · rw [if_pos a1] at ha
          rw [if_neg b1] at hb'
          cases ha
          split at hb'
          · cases hb'
          · split at hb'
            · cases hb'; exact absurd rfl hne
            · exact absurd (show x < w.heap.size from lt _ _ hb') (by omega)
      · rw [if_neg a1] at ha
        by_cases b1 : b = .tx id
        · rw [if_pos b1] at hb'
          cases hb'
          split at ha
          · cases ha
          · split at ha
            · cases ha; exact absurd rfl hne
            · exact absurd (show x < w.heap.size from lt _ _ ha) (by omega)
        · rw [if_neg b1] at hb'
          exact i2.inj a b y ha hb'
    · rw [hV'] at ha
      unfold upd at ha
      split at ha
      · cases ha; exact hx.2
      · exact i2.lt a y ha
  have hother : ∀ a, ofT id a = false → V' a = V a := fun a ha => by
    rw [hV', upd_other (by intro e; subst e; simp [ofT] at ha), upd_other (by intro e; subst e; simp [ofT] at ha), upd_other (by intro e; subst e; simp [ofT] at ha)]
  have etx : V' (.tx id) = .pointer (some ⟨x, 0, none⟩) := by rw [hV', upd_same]
  have ech : V' (.ch id) = .slice none 0 0 := by rw [hV', upd_other (by simp), upd_same]
  have ehd : V' (.hd id) = .map (some hb) := by rw [hV', upd_other (by simp), upd_other (by simp), upd_same]
  have nk := findO_none.1 hf
  have out : ∀ a y, a ≠ .bo → blkOf (V a) = some y → y ∉ [bo] := fun a y ha hy hm => by
    have e : y = bo := by simpa using hm
    rw [e] at hy
    exact ha (h.inj.inj _ _ _ hy (by rw [hbo]; rfl))
  refine ⟨V', ⟨by rw [hother .g rfl]; exact h.vg, ?_, ?_, fun p p0 p1 => ?_, ?_, fun t ht => ?_, ?_, fun j l hj => ?_, hinj, hok, h.ok2.beg id _ _⟩, fun a y ha => ?_⟩
  · rw [hother .bp rfl, hother .bo rfl, hother .vd rfl]
    exact h.box.kept kk (out .g g (by simp) (by rw [h.vg]; rfl))
  · rw [hother .bp rfl, show (fun i : Nat => V' (.pg (i : Int))) = fun i : Nat => V (.pg (i : Int)) from funext fun i => hother _ rfl]
    exact h.pgs.kept kk (fun y hy => out .bp y (by simp) (by rw [Row.blkOf h.pgs]; exact hy))
  · obtain ⟨b, e2, h2⟩ := h.pg p p0 p1
    exact ⟨b, by rw [hother _ rfl]; exact e2, h2.kept kk (out (.pg p) b (by simp) (by rw [e2]; rfl))⟩
  · refine ⟨bo, by rw [hother .bo rfl]; exact hbo, Mp.of ho ((hT.put hD id (.int .i64 ((x : Int) + 1))).congr fun j => ?_) ?_⟩
    · show _ = fO V' (S.opn ++ [(⟨id, [], [], []⟩ : Tn)]) j
      unfold fO
      have e : (findO (S.opn ++ [(⟨id, [], [], []⟩ : Tn)]) j).isSome = ((findO S.opn j).isSome || j == id) := by
        rw [Bool.eq_iff_iff, findO_mem, Bool.or_eq_true, findO_mem]
        simp
      rw [e]
      by_cases q : j = id
      · subst q
        rw [if_pos rfl, if_pos (by simp), etx]; rfl
      · rw [if_neg q, hother (.tx j) (by simp [ofT, q])]
        simp [q]
    · refine ⟨?_, fun j => ?_, fun j hj => ?_⟩
      · show ((S.opn ++ [(⟨id, [], [], []⟩ : Tn)]).map Tn.id).Nodup
        exact List.pairwise_map.2 hok.dif
      · show j ∈ (S.opn ++ [(⟨id, [], [], []⟩ : Tn)]).map Tn.id ↔ _
        rw [← findO_mem]
        unfold fO
        split <;> simp_all
      · obtain ⟨t, ht, rfl⟩ := List.mem_map.1 hj
        have := hok.ids t ht
        unfold isId at this
        exact ⟨by omega, by omega⟩
  · rcases List.mem_append.1 ht with q | q
    · have hne' := nk t q
      have hk := (h.txs t q).kept kk (fun a y ha hy => out a y (by intro e; subst e; cases ha) hy)
      exact hk.congr (fun a ha => hother a (ofT_other ha hne')) (fun p _ => rfl)
    · simp at q
      subst q
      refine ⟨⟨x, etx, ?_⟩, ⟨hb, ehd, ?_⟩, ?_, by simp⟩
      · rw [ehd, ech]; exact hbx
      · have e : fH V' ⟨id, [], [], []⟩ = fun _ => none := by funext p; unfold fH; simp
        rw [e]; exact hm
      · rw [ech]; exact Cs.nil _ _
  · show Row w' 0 1 (V' .vd) S.done.length ((List.range S.done.length).map fun j => V' (.dn j))
    rw [hother .vd rfl, show (fun j : Nat => V' (.dn j)) = fun j => V (.dn j) from funext fun j => hother _ rfl]
    exact h.done.kept kk (fun y hy => out .vd y (by simp) (by rw [Row.blkOf h.done]; exact hy))
  · have q := h.dns j l hj
    rw [hother _ rfl]
    exact q.kept kk (fun y hy => out (.dn j) y (by simp) (by rw [Row.blkOf q]; exact hy))
  · rw [hV'] at ha
    unfold upd at ha
    split at ha
    · cases ha; exact .inr hx.1
    · split at ha
      · cases ha
      · split at ha
        · cases ha; exact .inr hh.1
        · exact .inl ⟨a, ha⟩
theorem ids_erase {l : List Tn} (h : l.Pairwise fun x y => x.id ≠ y.id) {k : Nat} {t : Tn} (hk : l[k]? = some t) (j : Int) : (findO (l.eraseIdx k) j).isSome = ((findO l j).isSome && j != t.id) := by
  rw [Bool.eq_iff_iff, Bool.and_eq_true, findO_mem, findO_mem]
  rw [← dropO_at h hk]
  unfold dropO
  simp only [List.mem_map, List.mem_filter, bne_iff_ne]
  constructor
  · rintro ⟨x, ⟨h1, h2⟩, rfl⟩
    exact ⟨⟨x, h1, rfl⟩, h2⟩
  · rintro ⟨⟨x, h1, rfl⟩, h2⟩
    exact ⟨x, ⟨h1, h2⟩, rfl⟩
theorem mem_erase {l : List Tn} (h : l.Pairwise fun x y => x.id ≠ y.id) {k : Nat} {t x : Tn} (hk : l[k]? = some t) (hx : x ∈ l.eraseIdx k) : x ∈ l ∧ x.id ≠ t.id := by
  rw [← dropO_at h hk] at hx
  obtain ⟨h1, h2⟩ := List.mem_filter.1 hx
  exact ⟨h1, by simpa using h2⟩
/-- one is open no more -/
theorem PpP.dropT {w w' : World} {V : Tag → Value} {g : Nat} {c : Cf} {S : St} (h : PpP w V g c S) {k : Nat} {t : Tn} (hk : S.opn[k]? = some t) {bo n : Nat} {D : DataW Unit} (hbo : V .bo = .map (some bo)) (kk : Kept [g, bo] w w') (hT : Tel D (.int .i64 0) (fO V S.opn)) (ho : w'.ownsMap Tryz.prog 3 ptrElem bo n (D.del (.int .i64 t.id))) {u : Int}
    (hb : Blk w' g 80 [.int .i64 c.pages, .int .i64 c.slots, .int .i64 c.log, .int .i64 c.frames, .int .i64 c.table, .int .i64 c.keys, V .bp, V .bo, .int .i64 u, V .vd]) (hok : OkS c ⟨S.done, S.opn.eraseIdx k, u⟩) : PpP w' V g c ⟨S.done, S.opn.eraseIdx k, u⟩ := by
  have out : ∀ a y, a ≠ .g → a ≠ .bo → blkOf (V a) = some y → y ∉ [g, bo] := fun a y ha ha' hy hm => by
    rcases List.mem_cons.1 hm with e | hm
    · rw [e] at hy
      exact ha (h.inj.inj _ _ _ hy (by rw [h.vg]; rfl))
    · have e : y = bo := by simpa using hm
      rw [e] at hy
      exact ha' (h.inj.inj _ _ _ hy (by rw [hbo]; rfl))
  refine ⟨h.vg, hb, h.pgs.kept kk (fun y hy => out .bp y (by simp) (by simp) (by rw [Row.blkOf h.pgs]; exact hy)), fun p p0 p1 => ?_, ⟨bo, hbo, Mp.of ho ((hT.del t.id).congr fun j => ?_) ?_⟩, fun x hx => ?_, h.done.kept kk (fun y hy => out .vd y (by simp) (by simp) (by rw [Row.blkOf h.done]; exact hy)), fun j l hj => ?_, h.inj.mono kk.size, hok, h.ok2.erase k _ _⟩
  · obtain ⟨b, e2, h2⟩ := h.pg p p0 p1
    exact ⟨b, e2, h2.kept kk (out (.pg p) b (by simp) (by simp) (by rw [e2]; rfl))⟩
  · show _ = fO V (S.opn.eraseIdx k) j
    unfold fO
    rw [ids_erase h.ok.dif hk]
    by_cases q : j = t.id
    · rw [if_pos q, q]; simp
    · rw [if_neg q]; simp [q]
  · refine ⟨List.pairwise_map.2 hok.dif, fun j => ?_, fun j hj => ?_⟩
    · show j ∈ (S.opn.eraseIdx k).map Tn.id ↔ _
      rw [← findO_mem]
      unfold fO
      split <;> simp_all
    · obtain ⟨x, hx, rfl⟩ := List.mem_map.1 hj
      exact h.id64 (mem_erase h.ok.dif hk hx).1
  · have hx' := mem_erase h.ok.dif hk hx
    exact ((h.txs x hx'.1).kept kk (fun a y ha hy => out a y (by intro e; subst e; cases ha) (by intro e; subst e; cases ha) hy)).congr (fun _ _ => rfl) (fun _ _ => rfl)
  · have q := h.dns j l hj
    exact q.kept kk (fun y hy => out (.dn j) y (by simp) (by simp) (by rw [Row.blkOf q]; exact hy))
end Go.Proofs.YtnjfahgmebmakaaGreatDoor

/-
  OWN WORK. The landed plain (layer 18): begin, forget, abort.
-/
namespace Go.Proofs.YtnjfahgmebmakaaGreatDoor
open Go.RowKit Go.Maps
set_option linter.unusedVariables false
set_option linter.unusedSimpArgs false
/-- an error or none, by number -/
def ErOk (n : Int) (v : Value) : Prop := (n = 0 ∧ v = .nilIface) ∨ (n ≠ 0 ∧ ∃ d, d ≤ 2 ∧ Er d v n)
theorem zeroPtr (w : World) : (zeroValue 77).run Tryz.prog w = .ok (.pointer none) w := by
  go_simp
  try rfl
set_option maxRecDepth 20000 in
set_option maxHeartbeats 3200000 in
theorem qBegin {V : Tag → Value} {g : Nat} {c : Cf} {S : St} (id : Int) (w : World) (h : PpP w V g c S) (hi : I64 id) : Calls Tryz.prog 41 #[.pointer (some ⟨g, 0, none⟩), .int .i64 id] w fun e w' => ∃ V' v, e = .returned v ∧ ErOk (begE c S id) v ∧ PpP w' V' g c (begS c S id) ∧ Nx w w' V V' := by
  obtain ⟨bo, e1, D, hO, hT, hK⟩ := h.opn
  have hkey := keyOf_int_mk (P := Tryz.prog) (k := 3) Tryz.underlying3 (wf_of_i64 hi)
  have B := h.box
  rw [e1] at B
  have c7 := B.cell (j := 7) rfl
  have c4 := B.cell (j := 4) rfl
  have h1 := hT.has id hi
  have h2 := hT.atk id hi
  have hszk := size_ks hO hT hK
  obtain ⟨n, hn⟩ : ∃ n, n = (S.opn.map Tn.id).length := ⟨_, rfl⟩
  rw [← hn] at hO
  have hzm : Maps.size D = S.opn.length := by rw [hszk.2, List.length_map]
  have HP := @hideH _ h
  have HT := @hideH _ hT
  have HZ := @hideH _ hi
  clear B hK h hT hszk hn
  cases hf : findO S.opn id with
  | some t =>
    obtain ⟨hm, hid⟩ := findO_some hf
    obtain ⟨x, ex, hb⟩ := (HP.out.txs t hm).box
    rw [hid] at ex
    rw [fO_there hf, ex] at h1 h2
    simp only [Option.isSome_some, Option.getD_some, nOf, blkOf] at h1 h2
    have HE := @hideH _ (show begE c S id = 160 ∧ begS c S id = S by
      have e : begE c S id = 160 := by unfold begE; rw [if_pos (.inr (by rw [hf]; rfl))]
      exact ⟨e, by unfold begS; rw [e, if_neg (by decide)]⟩)
    clear hf hb hm ex
    go_enter Tryz.func41, Tryz.ntmps41
    go_wp2_with (at_lookup; refine wpList_lookup_there w rfl _ _ 76 rfl 3 77 keyL Tryz.underlying76 (zeroPtr _) bo _ D rfl hO _ _ rfl hkey x h1 h2 ?_)
    try go_wp2
    go_ret
    rw [HE.out.1, HE.out.2]
    exact ⟨V, _, by first | rfl | trivial, .inr ⟨by decide, 0, by omega, by first | exact Er.ref 160 | simpa using Er.ref 160⟩, HP.out, Nx.refl V (Kept.refl _ _)⟩
  | none =>
    rw [fO_gone hf] at h1 h2
    simp only [Option.isSome_none, Option.getD_none] at h1 h2
    go_enter Tryz.func41, Tryz.ntmps41
    go_wp2_with (at_lookup; refine wpList_lookup_gone w rfl _ _ 76 rfl 3 77 keyL Tryz.underlying76 (zeroPtr _) bo _ D rfl hO _ _ rfl hkey h1 h2 ?_)
    refine (qWithin _ _ _ _).mono ?_
    rintro e ww ⟨rfl, rfl⟩
    by_cases hisI : isId id
    · have hisd : decide (1 ≤ id ∧ id ≤ 64) = true := decide_eq_true hisI
      rw [hisd]
      have HI := @hideH _ hisI
      clear hisd hisI
      obtain ⟨m, hm⟩ : ∃ m, m = S.opn.length := ⟨_, rfl⟩
      have hlen : ∀ q, (Builtin.len_ #[76] 3 #[.map (some bo)]).run Tryz.prog (ww.drewN q) = .ok (.int .i64 (m : Int)) (ww.drewN q) := fun q => by
        have r := (ownsMap_kept hO ((Kept.refl [] ww).drewN' q) (by simp)).len Tryz.underlying76 3
        rw [hzm, ← hm] at r
        exact r
      have HM := @hideH _ hm
      have HF := @hideH _ hf
      clear hzm hf hm
      by_cases hfull : c.table ≤ (m : Int)
      · have HE := @hideH _ (show begE c S id = 161 ∧ begS c S id = S by
          have e : begE c S id = 161 := by
            unfold begE
            rw [if_neg (by rw [HF.out]; simp [HI.out]), if_pos (by rw [← HM.out]; exact hfull)]
          exact ⟨e, by unfold begS; rw [e, if_neg (by decide)]⟩)
        go_upto_region 4 with fail
        go_quiet (fail)
        go_wp2
        go_ret
        rw [HE.out.1, HE.out.2]
        have kd : Kept [] ww (ww.drewN nq) := (Kept.refl [] ww).drewN' nq
        exact ⟨V, _, by first | rfl | trivial, .inr ⟨by decide, 0, by omega, by first | exact Er.ref 161 | simpa using Er.ref 161⟩, HP.out.then kd, Nx.refl V kd⟩
      · have hfull' : ¬ c.table ≤ (m : Int) := hfull
        go_upto_region 4 with fail
        go_quiet (fail)
        obtain ⟨wd, hwd⟩ : ∃ wx, wx = ww.drewN nq := ⟨_, rfl⟩
        have kd : Kept [] ww wd := by rw [hwd]; exact (Kept.refl [] ww).drewN' nq
        rw [← hwd]
        clear hwd
        have HQ := @hideH _ (qLog 34 99 wd (HP.out.then kd) (by omega) (by omega))
        have HD := @hideH _ (And.intro kd hfull)
        clear hlen c4 c7 kd
        go_wp2_with fail
        refine HQ.out.mono ?_
        clear HQ
        rintro e w1 (⟨hfit, rfl, P1, k1⟩ | ⟨hfit, rfl, k1⟩)
        · have HE := @hideH _ (show begE c S id = 0 ∧ begS c S id = ⟨S.done, S.opn ++ [⟨id, [], [], []⟩], S.used + 34⟩ by
            have e : begE c S id = 0 := by
              unfold begE
              rw [if_neg (by rw [HF.out]; simp [HI.out]), if_neg (by rw [← HM.out]; have := HD.out.2; omega), if_pos hfit]
            exact ⟨e, by unfold begS; rw [e, if_pos rfl]⟩)
          obtain ⟨bo', e1', D', hO', hT', hK'⟩ := P1.opn
          obtain rfl : bo = bo' := by rw [e1] at e1'; simpa using e1'
          have B1 := P1.box
          rw [e1] at B1
          have c7 := B1.cell (j := 7) rfl
          obtain ⟨w2, hw2⟩ : ∃ wx, wx = w1.alloc (.map #[] 0) := ⟨_, rfl⟩
          have k2 : Kept [] w1 w2 := by rw [hw2]; exact (Kept.refl [] w1).alloc _
          have m2 : Mp w2 mapElem w1.heap.size (.int .i64 0) (fun _ => none) [] := by rw [hw2]; exact Mp.made w1 _ _
          have z2 : w2.heap.size = w1.heap.size + 1 := by rw [hw2, World.size_alloc]
          obtain ⟨w3, hw3⟩ : ∃ wx, wx = w2.alloc (.cells #[.map (some w1.heap.size), .slice none 0 0, .int .i64 99] 116) := ⟨_, rfl⟩
          have k3 : Kept [] w2 w3 := by rw [hw3]; exact (Kept.refl [] w2).alloc _
          have b3 : Blk w3 (w1.heap.size + 1) 116 [.map (some w1.heap.size), .slice none 0 0, .int .i64 99] := by rw [hw3, ← z2]; exact Blk.new w2 _ _
          have z3 : w3.heap.size = w1.heap.size + 1 + 1 := by rw [hw3, World.size_alloc, z2]
          have hO3 := ownsMap_kept hO' (k2.then k3) (by simp)
          have hmk : (Instr.makeMap 114 none).run Tryz.prog w1 = .ok (.map (some w1.heap.size)) w2 := by rw [hw2]; rfl
          have hlt := hO'.lt
          obtain ⟨n', hn'⟩ : ∃ n', n' = (S.opn.map Tn.id).length := ⟨_, rfl⟩
          have hO3' : w3.ownsMap Tryz.prog 3 ptrElem bo n' D' := by rw [hn']; exact hO3
          have hn8 : n' < maxLen := by rw [hn', List.length_map]; have := P1.ok.lenN; unfold maxLen; show S.opn.length < _; have : S.opn.length ≤ 8 := P1.ok.lenN; omega
          have hval := ptrElem_some (w1.heap.size + 1)
          have HB := @hideH _ (And.intro P1 (And.intro hT' (And.intro (k2.then k3) (And.intro (m2.kept k3 (by simp)) (And.intro b3 (And.intro z3 (And.intro hlt (And.intro k1 hfit))))))))
          have HO := @hideH _ hO3
          clear P1 hT' hK' hO' hO3 B1 k1 k2 k3 m2 b3 hn' hfit hw2
          have hw3' : w2.alloc (.cells #[.map (some w1.heap.size), .slice none 0 0, .int .i64 99] 116) = w3 := hw3.symm
          have z2' : w2.heap.size = w1.heap.size + 1 := z2
          clear hw3 z2
          go_wp2_with (at_mapUpdate; (try rw [hw3']); (try rw [z2']); refine wpList_mapUpdate_own _ rfl _ _ _ 76 rfl 3 77 keyL Tryz.underlying76 _ bo n' D' rfl hO3' hn8 _ _ _ rfl rfl hkey _ [] hval ?_; intro w4 o4 hg4)
          try go_wp2
          go_ret
          have k4 : Kept [bo] w3 w4 := (Kept.refl _ w3).grown hg4 (fun k hk => .inl (by cases hk; simp))
          have hne3 : w1.heap.size ≠ bo := by have := HB.out.2.2.2.2.2.2.1; omega
          have hsz4 := k4.size
          have kb : Kept [bo] w1 w4 := (HB.out.2.2.1.mono (T := [bo]) (by simp)).trans k4 (fun x hx => .inl hx)
          have hfo : fitsS c S 34 99 = true := HB.out.2.2.2.2.2.2.2.2
          have hok : OkS c ⟨S.done, S.opn ++ [⟨id, [], [], []⟩], S.used + 34⟩ := by
            have q := HP.out.ok.beg id
            rw [HE.out.2] at q
            exact q
          obtain ⟨V', p', n''⟩ := HB.out.1.addT (id := id) (x := w1.heap.size + 1) (hb := w1.heap.size) HF.out e1 ⟨by omega, by have := HB.out.2.2.2.2.2.1; omega⟩ ⟨by omega, by have := HB.out.2.2.2.2.2.1; omega⟩ (by omega) kb HB.out.2.1 HO.out.isMap o4 (HB.out.2.2.2.2.1.kept k4 (by have := HB.out.2.2.2.2.2.2.1; simp; omega)) (HB.out.2.2.2.1.kept k4 (by simp [hne3])) hok
          refine ⟨V', .nilIface, by first | rfl | trivial, .inl ⟨HE.out.1, rfl⟩, by rw [HE.out.2]; exact p', ?_⟩
          have nx1 : Nx ww w1 V V := Nx.same ((HD.out.1.mono (T := [g]) (by simp)).trans HB.out.2.2.2.2.2.2.2.1 (fun x hx => .inl hx)) (fun x hx => ⟨.g, by rw [HP.out.vg]; simp at hx; rw [hx]; rfl⟩)
          exact nx1.trans ⟨n'', [bo], kb, fun x hx => ⟨.bo, by rw [e1]; simp at hx; rw [hx]; rfl⟩⟩
        · have HE := @hideH _ (show begE c S id = 170 ∧ begS c S id = S by
            have e : begE c S id = 170 := by
              unfold begE
              rw [if_neg (by rw [HF.out]; simp [HI.out]), if_neg (by rw [← HM.out]; have := HD.out.2; omega), if_neg (by rw [show fitsS c S 34 99 = false from hfit]; decide)]
            exact ⟨e, by unfold begS; rw [e, if_neg (by decide)]⟩)
          have HK := @hideH _ (HD.out.1.then k1)
          clear k1 hfit
          go_wp2_with fail
          refine (qWrap _ _ _ _).mono ?_
          rintro e wv ⟨rfl, rfl⟩
          go_wp2
          go_ret
          rw [HE.out.1, HE.out.2]
          exact ⟨V, _, by first | rfl | trivial, .inr ⟨by decide, 1, by omega, by first | exact Er.wrap _ (Er.ref 170) | simpa using Er.wrap _ (Er.ref 170)⟩, HP.out.then HK.out, Nx.refl V HK.out⟩
    · have hisd : decide (1 ≤ id ∧ id ≤ 64) = false := decide_eq_false hisI
      rw [hisd]
      have HE := @hideH _ (show begE c S id = 160 ∧ begS c S id = S by
        have e : begE c S id = 160 := by unfold begE; rw [if_pos (.inl hisI)]
        exact ⟨e, by unfold begS; rw [e, if_neg (by decide)]⟩)
      clear hisd hf hisI
      try go_wp2
      go_ret
      rw [HE.out.1, HE.out.2]
      exact ⟨V, _, by first | rfl | trivial, .inr ⟨by decide, 0, by omega, by first | exact Er.ref 160 | simpa using Er.ref 160⟩, HP.out, Nx.refl V (Kept.refl _ _)⟩
end Go.Proofs.YtnjfahgmebmakaaGreatDoor

/-
  OWN WORK (by mkpp3.py). The landed plain (layer 18): forget, abort.
-/
namespace Go.Proofs.YtnjfahgmebmakaaGreatDoor
open Go.RowKit Go.Maps
set_option linter.unusedVariables false
set_option linter.unusedSimpArgs false
set_option maxRecDepth 20000 in
set_option maxHeartbeats 3200000 in
theorem qForget {V : Tag → Value} {g : Nat} {c : Cf} {S : St} {k : Nat} {t : Tn} {x : Nat} (w : World) (h : PpP w V g c S) (hk : S.opn[k]? = some t) (hx : V (.tx t.id) = .pointer (some ⟨x, 0, none⟩)) : Calls Tryz.prog 67 #[.pointer (some ⟨g, 0, none⟩), .int .i64 t.id, .pointer (some ⟨x, 0, none⟩)] w fun e w' => e = .returned (.tuple #[]) ∧ PpP w' V g c ⟨S.done, S.opn.eraseIdx k, S.used + 66 + sumL t.lens⟩ ∧ Nx w w' V V := by
  have hm := List.mem_of_getElem? hk
  obtain ⟨bo, e1, D, hO, hT, hK⟩ := h.opn
  have hkey := keyOf_int_mk (P := Tryz.prog) (k := 3) Tryz.underlying3 (wf_of_i64 (h.id64 hm))
  obtain ⟨x', ex, hb⟩ := (h.txs t hm).box
  obtain rfl : x = x' := by rw [hx] at ex; simpa using ex
  have B := h.box
  have B' := B
  rw [e1] at B'
  have c8 := B'.cell (j := 8) rfl
  have c7 := B'.cell (j := 7) rfl
  have ck := hb.cell (j := 2) rfl
  have hone := h.ok.one hk
  have hkp := h.ok.kept
  have hlw := h.ok.low
  obtain ⟨u, hu⟩ : ∃ u, u = S.used := ⟨_, rfl⟩
  obtain ⟨kt, hkt⟩ : ∃ kt, kt = t.kept := ⟨_, rfl⟩
  have hktv : kt = 99 + sumL t.lens := hkt
  rw [← hu] at c8 B hkp hlw
  rw [← hkt] at ck
  have wv1 : IntKind.i64.wrap (kt - 33) = kt - 33 := wrap_i64_of (by omega) (by omega)
  have wv2 : IntKind.i64.wrap (u + (kt - 33)) = u + (kt - 33) := wrap_i64_of (by omega) (by omega)
  have HP := @hideH _ h
  have hok : OkS c ⟨S.done, S.opn.eraseIdx k, u + (kt - 33)⟩ := by
    have q := h.ok.undo hk
    rw [show u + (kt - 33) = S.used + 66 + sumL t.lens by omega]
    exact q
  have HOK := @hideH _ (And.intro hok (show u + (kt - 33) = S.used + 66 + sumL t.lens by omega))
  obtain ⟨n, hn⟩ : ∃ n, n = (S.opn.map Tn.id).length := ⟨_, rfl⟩
  rw [← hn] at hO
  have HT := @hideH _ hT
  obtain ⟨w6, hw6⟩ : ∃ wx, wx = w.drew := ⟨_, rfl⟩
  have k6 : Kept [] w w6 := by rw [hw6]; exact (Kept.refl [] w).drew
  have B6 := B.kept k6 (by simp)
  have hS : (fun w' : World => w'.cell? ⟨g, 8, none⟩ = some (.int .i64 u) ∧ w'.cell? ⟨x, 2, none⟩ = some (.int .i64 kt)) w6 := ⟨k6.cell c8 (by simp), k6.cell ck (by simp)⟩
  have c8' := B6.cell (j := 8) rfl
  have f8' := B6.free 8
  obtain ⟨w9, hw9⟩ : ∃ wx, wx = w6.setCell ⟨g, 8, none⟩ (.int .i64 (u + (kt - 33))) := ⟨_, rfl⟩
  obtain ⟨B9, k9⟩ := B6.set 8 (.int .i64 (u + (kt - 33)))
  rw [← hw9] at B9 k9
  have k69 := (k6.mono (T := [g]) (by simp)).trans k9 (fun x hx => .inl hx)
  have hgb : g ≠ bo := fun e => by
    have := h.inj.inj .g .bo g (by rw [h.vg]; rfl) (by rw [e1, e]; rfl)
    cases this
  have B9' := B9
  simp only [e1] at B9'
  have c7' := B9'.cell (j := 7) (v := .map (some bo)) rfl
  have hO9 := ownsMap_kept hO k69 (by simpa using Ne.symm hgb)
  have HB := @hideH _ (And.intro B9 k69)
  try dsimp only at hS
  clear B B' B6 B9 B9' hb hone hkp hlw hktv hok hK hT h hn hu hkt k6 k9 k69 c8 c7 ck c8' hO
  go_enter Tryz.func67, Tryz.ntmps67
  go_upto_region 0 with fail
  refine wp_region_late (fun w' => w'.cell? ⟨g, 8, none⟩ = some (.int .i64 u) ∧ w'.cell? ⟨x, 2, none⟩ = some (.int .i64 kt)) 12 (by kernel_rfl) ?_
  rw [← hw6]
  clear hw6
  refine wpAnyZ_take 0 (v := ?va0_1) rfl (by kernel_rfl) (by kernel_rfl) (by kernel_rfl) (by kernel_rfl) (fun _ _ _ h => h) (by rfl) ?hya0_1 hS ?resta0_1
  case hya0_1 => (intro wx hSx; obtain ⟨s1, s2⟩ := hSx; go_simp; (try with_reducible rfl))
  (try simp only [Act.put, List.getElem_toArray, List.getElem_cons_zero, List.getElem_cons_succ, List.setIfInBounds_toArray, List.set_cons_zero, List.set_cons_succ])
  refine wpAnyZ_take 1 (v := ?va1_2) rfl (by kernel_rfl) (by kernel_rfl) (by kernel_rfl) (by kernel_rfl) (fun _ _ _ h => h) (by rfl) ?hya1_2 hS ?resta1_2
  case hya1_2 => (intro wx hSx; obtain ⟨s1, s2⟩ := hSx; go_simp; (try with_reducible rfl))
  (try simp only [Act.put, List.getElem_toArray, List.getElem_cons_zero, List.getElem_cons_succ, List.setIfInBounds_toArray, List.set_cons_zero, List.set_cons_succ])
  refine wpAnyZ_take 2 (v := ?va2_3) rfl (by kernel_rfl) (by kernel_rfl) (by kernel_rfl) (by kernel_rfl) (fun _ _ _ h => h) (by rfl) ?hya2_3 hS ?resta2_3
  case hya2_3 => (intro wx hSx; obtain ⟨s1, s2⟩ := hSx; go_simp; (try with_reducible rfl))
  (try simp only [Act.put, List.getElem_toArray, List.getElem_cons_zero, List.getElem_cons_succ, List.setIfInBounds_toArray, List.set_cons_zero, List.set_cons_succ])
  refine wpAnyZ_take 3 (v := ?va3_4) rfl (by kernel_rfl) (by kernel_rfl) (by kernel_rfl) (by kernel_rfl) (fun _ _ _ h => h) (by rfl) ?hya3_4 hS ?resta3_4
  case hya3_4 => (intro wx hSx; obtain ⟨s1, s2⟩ := hSx; go_simp; (try with_reducible rfl))
  (try simp only [Act.put, List.getElem_toArray, List.getElem_cons_zero, List.getElem_cons_succ, List.setIfInBounds_toArray, List.set_cons_zero, List.set_cons_succ])
  refine wpAnyZ_take 4 (v := ?va4_5) rfl (by kernel_rfl) (by kernel_rfl) (by kernel_rfl) (by kernel_rfl) (fun _ _ _ h => h) (by rfl) ?hya4_5 hS ?resta4_5
  case hya4_5 => (intro wx hSx; obtain ⟨s1, s2⟩ := hSx; go_simp; (try with_reducible rfl))
  (try simp only [Act.put, List.getElem_toArray, List.getElem_cons_zero, List.getElem_cons_succ, List.setIfInBounds_toArray, List.set_cons_zero, List.set_cons_succ])
  refine wpAnyZ_take 5 (v := ?va5_6) rfl (by kernel_rfl) (by kernel_rfl) (by kernel_rfl) (by kernel_rfl) (fun _ _ _ h => h) (by rfl) ?hya5_6 hS ?resta5_6
  case hya5_6 => (intro wx hSx; obtain ⟨s1, s2⟩ := hSx; go_simp; (try with_reducible rfl))
  (try simp only [Act.put, List.getElem_toArray, List.getElem_cons_zero, List.getElem_cons_succ, List.setIfInBounds_toArray, List.set_cons_zero, List.set_cons_succ])
  refine wpAnyZ_take 6 (v := ?va6_7) rfl (by kernel_rfl) (by kernel_rfl) (by kernel_rfl) (by kernel_rfl) (fun _ _ _ h => h) (by rfl) ?hya6_7 hS ?resta6_7
  case hya6_7 => (intro wx hSx; obtain ⟨s1, s2⟩ := hSx; go_simp; (try with_reducible rfl))
  (try simp only [Act.put, List.getElem_toArray, List.getElem_cons_zero, List.getElem_cons_succ, List.setIfInBounds_toArray, List.set_cons_zero, List.set_cons_succ])
  refine wpAnyZ_take 7 (v := ?va7_8) rfl (by kernel_rfl) (by kernel_rfl) (by kernel_rfl) (by kernel_rfl) (fun _ _ _ h => h) (by rfl) ?hya7_8 hS ?resta7_8
  case hya7_8 => (intro wx hSx; obtain ⟨s1, s2⟩ := hSx; go_simp; (try with_reducible rfl))
  (try simp only [Act.put, List.getElem_toArray, List.getElem_cons_zero, List.getElem_cons_succ, List.setIfInBounds_toArray, List.set_cons_zero, List.set_cons_succ])
  refine wpAnyZ_take 8 (v := ?va8_9) rfl (by kernel_rfl) (by kernel_rfl) (by kernel_rfl) (by kernel_rfl) (fun _ _ _ h => h) (by rfl) ?hya8_9 hS ?resta8_9
  case hya8_9 => (intro wx hSx; obtain ⟨s1, s2⟩ := hSx; go_simp; (try with_reducible rfl))
  (try simp only [Act.put, List.getElem_toArray, List.getElem_cons_zero, List.getElem_cons_succ, List.setIfInBounds_toArray, List.set_cons_zero, List.set_cons_succ])
  refine wpAnyZ_take 9 (v := ?va9_10) rfl (by kernel_rfl) (by kernel_rfl) (by kernel_rfl) (by kernel_rfl) (fun _ _ _ h => h) (by rfl) ?hya9_10 hS ?resta9_10
  case hya9_10 => (intro wx hSx; obtain ⟨s1, s2⟩ := hSx; go_simp; (try with_reducible rfl))
  (try simp only [Act.put, List.getElem_toArray, List.getElem_cons_zero, List.getElem_cons_succ, List.setIfInBounds_toArray, List.set_cons_zero, List.set_cons_succ])
  refine wpAnyZ_one 10 rfl (by kernel_rfl) (fun K hK => ?_)
  go_simp
  refine hK _ _ (fun _ => hS) ?_
  clear hK K
  (try simp only [Act.put, List.getElem_toArray, List.getElem_cons_zero, List.getElem_cons_succ, List.setIfInBounds_toArray, List.set_cons_zero, List.set_cons_succ])
  refine wpAnyZ_one 11 rfl (by kernel_rfl) (fun K hK => ?_)
  go_simp
  refine hK _ _ (fun _ => hS) ?_
  clear hK K
  (try simp only [Act.put, List.getElem_toArray, List.getElem_cons_zero, List.getElem_cons_succ, List.setIfInBounds_toArray, List.set_cons_zero, List.set_cons_succ])
  refine wpAnyZ_one 12 rfl (by kernel_rfl) (fun K hK => ?_)
  go_simp
  refine hK _ _ (fun h => absurd rfl h) ?_
  clear hK K
  (try simp only [Act.put, List.getElem_toArray, List.getElem_cons_zero, List.getElem_cons_succ, List.setIfInBounds_toArray, List.set_cons_zero, List.set_cons_succ])
  refine wpAnyZ_done (by kernel_rfl) ?_ _
  rw [← hw9]
  clear hw9 hS f8'
  go_wp2_with (at_delete; refine wpList_delete_own _ rfl _ _ 76 3 rfl 77 keyL Tryz.underlying76 _ bo n D rfl hO9 _ _ rfl hkey ?_; intro w10 o10 ht10)
  try go_wp2
  go_end0
  have k10 : Kept [bo] w9 w10 := (Kept.refl _ w9).grown ht10.grown (fun k hk => .inl (by cases hk; simp))
  have kk : Kept [g, bo] w w10 := (HB.out.2.mono (T := [g, bo]) (by simp)).trans (k10.mono (T := [g, bo]) (by simp)) (fun x hx => .inl hx)
  have hp := HP.out.dropT hk e1 kk HT.out o10 (u := u + (kt - 33)) (HB.out.1.kept k10 (by simpa using hgb)) HOK.out.1
  rw [HOK.out.2] at hp
  refine ⟨by first | rfl | trivial, hp, Nx.same kk (fun y hy => ?_)⟩
  rcases List.mem_cons.1 hy with e | hy
  · exact ⟨.g, by rw [HP.out.vg, e]; rfl⟩
  · exact ⟨.bo, by rw [e1, show y = bo by simpa using hy]; rfl⟩
theorem PpP.idx {w : World} {V : Tag → Value} {g : Nat} {c : Cf} {S : St} (h : PpP w V g c S) {id : Int} {t : Tn} (hf : findO S.opn id = some t) : ∃ k : Nat, S.opn[k]? = some t := List.getElem?_of_mem (findO_some hf).1
set_option maxRecDepth 20000 in
set_option maxHeartbeats 3200000 in
theorem qAbort {V : Tag → Value} {g : Nat} {c : Cf} {S : St} (id : Int) (w : World) (h : PpP w V g c S) (hi : I64 id) : Calls Tryz.prog 36 #[.pointer (some ⟨g, 0, none⟩), .int .i64 id] w fun e w' => ∃ V' v, e = .returned v ∧ ErOk (endE S id) v ∧ PpP w' V' g c (aboS S id) ∧ Nx w w' V V' := by
  have HP := @hideH _ h
  have HF := @hideH _ (qFind id w h hi)
  clear h
  go_enter Tryz.func36, Tryz.ntmps36
  go_wp2_with fail
  refine HF.out.mono ?_
  clear HF
  rintro e wf ⟨rfl, ⟨hf, rfl⟩ | ⟨t, x, hf, hx, rfl⟩⟩
  · have HE := @hideH _ (And.intro (abo_none hf).1 (abo_none hf).2.1)
    clear hf
    go_wp2_with fail
    refine (qWrap _ _ _ _).mono ?_
    rintro e wv ⟨rfl, rfl⟩
    go_wp2
    go_ret
    rw [HE.out.1, HE.out.2]
    exact ⟨V, _, by first | rfl | trivial, .inr ⟨by decide, 1, by omega, by first | exact Er.wrap _ (Er.ref 160) | simpa using Er.wrap _ (Er.ref 160)⟩, HP.out, Nx.refl V (Kept.refl _ _)⟩
  · obtain ⟨k, hk⟩ := HP.out.idx hf
    have hid := (findO_some hf).2
    have HE := @hideH _ (abo_some HP.out.ok hk hf)
    have HQ := @hideH _ (qForget wf HP.out hk (by rw [hid]; exact hx))
    rw [hid] at HQ
    clear hf
    go_wp2_with fail
    refine HQ.out.mono ?_
    rintro e w2 ⟨rfl, hp, hn⟩
    have HN := @hideH _ (And.intro hp hn)
    clear hp hn HQ
    go_wp2
    go_ret
    rw [HE.out.1, HE.out.2.1]
    exact ⟨V, _, by first | rfl | trivial, .inl ⟨rfl, by first | rfl | trivial⟩, HN.out.1, HN.out.2⟩
end Go.Proofs.YtnjfahgmebmakaaGreatDoor

/-
  OWN WORK. The landed plain (layer 18): how its State lies behind a page that one holds, and behind a change; get.
-/
namespace Go.Proofs.YtnjfahgmebmakaaGreatDoor
open Go.RowKit Go.Maps
set_option linter.unusedVariables false
set_option linter.unusedSimpArgs false
theorem PpP.hold {w w' : World} {V : Tag → Value} {g : Nat} {c : Cf} {S : St} (h : PpP w V g c S) {k : Nat} {t t' : Tn} (hk : S.opn[k]? = some t) {p : Int} (hid : t'.id = t.id) (hpg : t'.pages = (heldT t p).pages) {x hd b n N1 : Nat} {D : DataW Unit} {vc : Value} {X : List Nat}
    (ex : V (.tx t.id) = .pointer (some ⟨x, 0, none⟩)) (ehd : V (.hd t.id) = .map (some hd)) (hb : (p ∈ t.pages ∧ V (.ow t.id p) = .map (some b)) ∨ (p ∉ t.pages ∧ w.heap.size ≤ b ∧ b < N1)) (hN : w.heap.size ≤ N1 ∧ N1 ≤ w'.heap.size)
    (kk : Kept X w w') {u : Int} (hbg : Blk w' g 80 [.int .i64 c.pages, .int .i64 c.slots, .int .i64 c.log, .int .i64 c.frames, .int .i64 c.table, .int .i64 c.keys, V .bp, V .bo, .int .i64 u, V .vd]) (hX : ∀ y ∈ X, w.heap.size ≤ y ∨ y = g ∨ blkOf (V (.tx t.id)) = some y ∨ blkOf (V (.hd t.id)) = some y ∨ blkOf (V (.ch t.id)) = some y ∨ blkOf (V (.ow t.id p)) = some y)
    (hvc : ∀ y, blkOf vc = some y → (N1 ≤ y ∧ y < w'.heap.size) ∨ blkOf (V (.ch t.id)) = some y) (hbx : Blk w' x 116 [.map (some hd), vc, .int .i64 t'.kept]) (hcs : Cs w' 0 vc t'.chs)
    (hT : Tel D (.int .i64 0) (fH V t)) (hD : Maps.IsMap D) (ho : w'.ownsMap Tryz.prog 3 mapElem hd n (D.put (.int .i64 p) (.lit (.int .i64 ((b : Int) + 1))))) (hv : Vm w' b (pgT c S t' p)) (hq : ∀ q ∈ t.pages, q ≠ p → pgT c S t' q = pgT c S t q)
    (hok : OkS c ⟨S.done, S.opn.set k t', u⟩) (hok2 : Ok2 c ⟨S.done, S.opn.set k t', u⟩) : ∃ V', PpP w' V' g c ⟨S.done, S.opn.set k t', u⟩ ∧ ∀ a y, blkOf (V' a) = some y → (∃ d, blkOf (V d) = some y) ∨ w.heap.size ≤ y := by
  have hm := List.mem_of_getElem? hk
  have hmem' : t' ∈ S.opn.set k t' := List.mem_set (List.getElem?_eq_some_iff.1 hk).1 _
  obtain ⟨V', hV'⟩ : ∃ V', V' = upd (upd V (.ow t.id p) (.map (some b))) (.ch t.id) vc := ⟨_, rfl⟩
  have hother : ∀ a, a ≠ .ow t.id p → a ≠ .ch t.id → V' a = V a := fun a h1 h2 => by rw [hV', upd_other h2, upd_other h1]
  have eow : V' (.ow t.id p) = .map (some b) := by rw [hV', upd_other (by simp), upd_same]
  have ech : V' (.ch t.id) = vc := by rw [hV', upd_same]
  have i1 : Inj N1 (upd V (.ow t.id p) (.map (some b))) := h.inj.upd hN.1 (fun y hy => by
    cases hy
    rcases hb with ⟨-, e⟩ | ⟨-, e⟩
    · exact .inr (by rw [e]; rfl)
    · exact .inl e)
  have hinj : Inj w'.heap.size V' := by
    rw [hV']
    refine i1.upd hN.2 (fun y hy => ?_)
    rcases hvc y hy with q | q
    · exact .inl q
    · exact .inr (by rw [upd_other (by simp)]; exact q)
  have hTx : TxP w' V' c S t' := by
    have e1 : V' (.tx t'.id) = V (.tx t.id) := by rw [hid]; exact hother _ (by simp) (by simp)
    have e2 : V' (.hd t'.id) = V (.hd t.id) := by rw [hid]; exact hother _ (by simp) (by simp)
    have mem' : ∀ q, q ∈ t'.pages ↔ q ∈ t.pages ∨ q = p := fun q => by rw [hpg]; exact mem_held
    refine ⟨⟨x, by rw [e1]; exact ex, by rw [e2, ehd, hid, ech]; exact hbx⟩, ⟨hd, by rw [e2]; exact ehd, Mp.of ho ((hT.put hD p (.int .i64 ((b : Int) + 1))).congr fun q => ?_) ?_⟩, by rw [hid, ech]; exact hcs, fun q hq' => ?_⟩
    · unfold fH
      by_cases e : q = p
      · rw [if_pos e, if_pos ((mem' q).2 (.inr e)), e, hid, eow]; rfl
      · rw [if_neg e, hid, hother (.ow t.id q) (by simp [e]) (by simp)]
        by_cases r : q ∈ t.pages
        · rw [if_pos r, if_pos ((mem' q).2 (.inl r))]
        · rw [if_neg r, if_neg (fun s => by rcases (mem' q).1 s with s | s; exact r s; exact e s)]
    · have ot := hok.tns t' hmem'
      refine ⟨ot.pgs.1, fun q => ?_, fun q hq' => ?_⟩
      · unfold fH
        split <;> simp_all
      · have := ot.pgs.2 q hq'; have := h.ok.may.1; exact ⟨by omega, by omega⟩
    · by_cases e : q = p
      · subst e
        exact ⟨b, by rw [hid]; exact eow, hv⟩
      · rcases (mem' q).1 hq' with r | r
        · obtain ⟨o, e3, h3⟩ := (h.txs t hm).own q r
          refine ⟨o, by rw [hid, hother (.ow t.id q) (by simp [e]) (by simp)]; exact e3, ?_⟩
          rw [hq q r e]
          refine h3.kept kk (fun hy => ?_)
          have e4 : blkOf (V (.ow t.id q)) = some o := by rw [e3]; rfl
          rcases hX o hy with s | s | s | s | s | s
          · have := h3.lt; omega
          · rw [s] at e4; have := h.inj.inj _ _ _ e4 (show blkOf (V .g) = some g by rw [h.vg]; rfl); cases this
          · have := h.inj.inj _ _ _ e4 s; cases this
          · have := h.inj.inj _ _ _ e4 s; cases this
          · have := h.inj.inj _ _ _ e4 s; cases this
          · have := h.inj.inj _ _ _ e4 s; simp at this; exact e this
        · exact absurd r e
  refine ⟨V', h.setT hk hid kk (fun y hy => ?_) (fun a ha => hother a (by intro e; subst e; simp [ofT] at ha) (by intro e; subst e; simp [ofT] at ha)) (hbg := hbg) (hother _ (by simp) (by simp)) hTx hinj hok hok2, fun a y ha => ?_⟩
  · rcases hX y hy with s | s | s | s | s | s
    · exact .inl s
    · exact .inr (.inl s)
    · exact .inr (.inr ⟨.tx t.id, by simp [ofT], s⟩)
    · exact .inr (.inr ⟨.hd t.id, by simp [ofT], s⟩)
    · exact .inr (.inr ⟨.ch t.id, by simp [ofT], s⟩)
    · exact .inr (.inr ⟨.ow t.id p, by simp [ofT], s⟩)
  · rw [hV'] at ha
    unfold upd at ha
    split at ha
    · rcases hvc y ha with q | q
      · exact .inr (by omega)
      · exact .inl ⟨_, q⟩
    · split at ha
      · cases ha
        rcases hb with ⟨-, e⟩ | ⟨-, e⟩
        · exact .inl ⟨.ow t.id p, by rw [e]; rfl⟩
        · exact .inr e.1
      · exact .inl ⟨a, ha⟩
theorem ask_busy {c : Cf} {S : St} {id key : Int} (h : askE c S id key = 0) : busy S.opn id (key % c.pages) = false := by
  unfold askE at h
  split at h
  · cases h
  · split at h
    · cases h
    · split at h
      · cases h
      · rename_i q; simpa using q
theorem pgT_len {c : Cf} {S : St} {k : Nat} {t : Tn} (hk : S.opn[k]? = some t) (p : Int) (hs : small S) : (pgT c S t p).length ≤ 3600000000000 := by
  have e1 : (pgT c S t p).length ≤ (foldE (foldL S.done) t.chs).length := List.length_filter_le _ _
  have e2 := foldE_len t.chs (foldL S.done)
  have e3 := foldL_len S.done []
  have e4 := chsN_at hk
  unfold small cnt at hs
  have e5 : (foldL S.done).length ≤ S.done.flatten.length := by unfold foldL; simpa using e3
  omega
theorem zeroMap (w : World) : (zeroValue 88).run Tryz.prog w = .ok (.map none) w := by
  go_simp
  try rfl
theorem zeroU64 (w : World) : (zeroValue 45).run Tryz.prog w = .ok (.int .u64 0) w := by
  go_simp
  try rfl
/-- what a map of values tells of a key -/
theorem Vm.look {w : World} {b : Nat} {l : List (Int × Int)} (h : Vm w b l) {key : Int} (hi : I64 key) : ∃ (n : Nat) (D : DataW Unit), w.ownsMap Tryz.prog 3 (plainElem Tryz.prog 45) b n D ∧ Maps.has D (.int .i64 key) = (pairO (lookE l key)).2 ∧ D.atKey (.int .i64 key) (.lit (.int .u64 0)) = .lit (.int .u64 (pairO (lookE l key)).1) ∧ Maps.size D = l.length := by
  obtain ⟨⟨D, hO, hT, hK⟩, hr⟩ := h
  refine ⟨_, D, hO, ?_, ?_, by rw [(size_ks hO hT hK).2, List.length_map]⟩
  · rw [hT.has key hi, fV_isSome]
    cases lookE l key <;> rfl
  · rw [hT.atk key hi]
    unfold fV
    cases lookE l key <;> rfl
set_option maxRecDepth 20000 in
set_option maxHeartbeats 3200000 in
theorem qGet {V : Tag → Value} {g : Nat} {c : Cf} {S : St} (id key : Int) (w : World) (h : PpP w V g c S) (hs : small S) (hi : I64 id) (hk : I64 key) : Calls Tryz.prog 42 #[.pointer (some ⟨g, 0, none⟩), .int .i64 id, .int .i64 key] w fun e w' => ∃ V' v, e = .returned (.tuple #[.int .u64 (getA c S id key).1, .bool (getA c S id key).2.1, v]) ∧ ErOk (getA c S id key).2.2 v ∧ PpP w' V' g c (getS c S id key) ∧ Nx w w' V V' := by
  have HP := @hideH _ h
  have HQ := @hideH _ (qAsk id key w h hi hk)
  have HS := @hideH _ hs
  have hkey := keyOf_int_mk (P := Tryz.prog) (k := 3) Tryz.underlying3 (wf_of_i64 hk)
  clear h hs
  go_enter Tryz.func42, Tryz.ntmps42
  go_wp2_with fail
  refine HQ.out.mono ?_
  clear HQ
  rintro e w1 ⟨k1, ⟨ha, rfl⟩ | ⟨ha, t, x, hf, hx, rfl⟩⟩
  · have HE := @hideH _ (And.intro ha (get_no ha))
    have HK := @hideH _ k1
    clear ha k1
    obtain ⟨E, hE⟩ : ∃ E, E = askE c S id key := ⟨_, rfl⟩
    rw [← hE] at HE
    have HEE := @hideH _ hE
    simp only [← hE]
    clear hE
    go_wp2_with fail
    refine (qWrap _ _ _ _).mono ?_
    rintro e wv ⟨rfl, rfl⟩
    go_wp2
    go_ret3
    rw [HE.out.2.1, HE.out.2.2]
    exact ⟨V, _, by first | rfl | trivial, .inr ⟨HE.out.1, 1, by omega, Er.wrap _ (Er.ref E)⟩, HP.out.then HK.out, Nx.refl V HK.out⟩
  · obtain ⟨kx, hkx⟩ := HP.out.idx hf
    obtain ⟨hm, hid⟩ := findO_some hf
    have hpr := ask_page HP.out.ok ha
    have P1 := HP.out.then k1
    obtain ⟨pg, hpg⟩ : ∃ pg, pg = key % c.pages := ⟨_, rfl⟩
    have HSN := @hideH _ (qSeen (x := x) pg w1 P1 hm (by rw [hid]; exact hx) (by rw [hpg]; exact hpr.2) (pgT_len hkx pg HS.out))
    have HG := @hideH _ (get_yes HP.out.ok ha hkx hf)
    have HB := @hideH _ (ask_busy ha)
    have HX := @hideH _ (And.intro hkx (And.intro hm (And.intro hid (And.intro hx (And.intro hpg (And.intro k1 (And.intro hpr hf)))))))
    have hpi : I64 pg := by have := HP.out.ok.may.1; exact ⟨by omega, by omega⟩
    have hkeyp := keyOf_int_mk (P := Tryz.prog) (k := 3) Tryz.underlying3 (wf_of_i64 hpi)
    rw [← hpg]
    clear ha hkx hm hid hx k1 hpr hf P1 hpg
    go_wp2_with fail
    refine HSN.out.mono ?_
    clear HSN
    rintro e w2 ⟨k2, b, rfl, hv, hbb⟩
    have k12 := HX.out.2.2.2.2.2.1.then k2
    have P2 := HP.out.then k12
    have T2 := P2.txs t HX.out.2.1
    obtain ⟨x', ex, hbx⟩ := T2.box
    obtain ⟨hd, ehd, D, hO, hT, hK⟩ := T2.hd
    have exx : V (.tx t.id) = .pointer (some ⟨x, 0, none⟩) := by rw [HX.out.2.2.1]; exact HX.out.2.2.2.1
    obtain rfl : x = x' := by rw [exx] at ex; simpa using ex
    rw [ehd] at hbx
    have c0 := hbx.cell (j := 0) rfl
    have hn : t.pages.length < maxLen := by have := (HP.out.ok.few HX.out.1).2.2; unfold maxLen; omega
    have hval := mapElem_some b
    have hne : b ≠ hd := fun e => by
      subst e
      rcases hbb with ⟨q1, q2⟩ | ⟨q1, q2⟩
      · have := HP.out.inj.inj (.ow t.id pg) (.hd t.id) b (by rw [q2]; rfl) (by rw [ehd]; rfl)
        cases this
      · have := (HP.out.then HX.out.2.2.2.2.2.1).inj.lt (.hd t.id) b (by rw [ehd]; rfl); omega
    have HA := @hideH _ (And.intro P2 (And.intro hbx (And.intro hv (And.intro hbb (And.intro k2 (And.intro hT (And.intro hK (And.intro ehd (And.intro T2 (And.intro k12 exx))))))))))
    have HO := @hideH _ hO
    obtain ⟨m, hmm⟩ : ∃ m, m = t.pages.length := ⟨_, rfl⟩
    have hO' : w2.ownsMap Tryz.prog 3 mapElem hd m D := by rw [hmm]; exact hO
    rw [← hmm] at hn
    clear P2 hbx hv hbb k2 hT hK T2 ex k12 ehd hO hmm
    go_upto_region 6 with (at_mapUpdate; refine wpList_mapUpdate_own _ rfl _ _ _ 114 rfl 3 88 keyL Tryz.underlying114 _ hd m D rfl hO' hn _ _ _ rfl rfl hkeyp _ [] hval ?_; intro w3 o3 hg3)
    have k3 : Kept [hd] w2 w3 := (Kept.refl _ w2).grown hg3 (fun k hk => .inl (by cases hk; simp))
    have v3 := HA.out.2.2.1.kept k3 (by simpa using hne)
    obtain ⟨n4, D4, hO4, h4, h5, -⟩ := v3.look hk
    have HR := @hideH _ (show pairO (lookE (pgT c S t pg) key) = seesT S t key by rw [HX.out.2.2.2.2.1]; exact look_pgT)
    rw [HR.out] at h4 h5
    obtain ⟨q, hq⟩ : ∃ q, q = seesT S t key := ⟨_, rfl⟩
    rw [← hq] at h4 h5
    have HQQ := @hideH _ hq
    have HK3 := @hideH _ (And.intro k3 (And.intro v3 (And.intro o3 hne)))
    clear k3 v3 o3 hg3 hne hq c0
    go_wp2_with (at_lookup; refine wpList_lookup_own_ok_int _ rfl _ _ 88 rfl 3 45 .u64 keyL Tryz.underlying88 Tryz.underlying45 (zeroU64 _) b n4 D4 rfl hO4 _ _ rfl hkey ?_; intro cc hcc hwc; (obtain rfl : q.1 = cc := (by rw [h5] at hcc; simpa using hcc)); rw [h4])
    try go_wp2
    go_ret3
    have b3 := HA.out.2.1.kept HK3.out.1 (by
      have : x ≠ hd := fun e => by
        have := HP.out.inj.inj (.tx t.id) (.hd t.id) x (by rw [HA.out.2.2.2.2.2.2.2.2.2.2]; rfl) (by rw [HA.out.2.2.2.2.2.2.2.1, e]; rfl)
        cases this
      simpa using this)
    have hk3 := HK3.out.1
    have hcs3 := HA.out.2.2.2.2.2.2.2.2.1.chs.kept hk3 (fun y hy hyX => by
      have e : y = hd := by simpa using hyX
      rw [e] at hy
      have := HA.out.1.inj.inj (.ch t.id) (.hd t.id) hd (by rw [Row.blkOf HA.out.2.2.2.2.2.2.2.2.1.chs]; exact hy) (by rw [HA.out.2.2.2.2.2.2.2.1]; rfl)
      cases this)
    have hok3 := HP.out.ok.hold HX.out.1 (p := pg) (by rw [HX.out.2.2.2.2.1]; exact HX.out.2.2.2.2.2.2.1.2)
    have hok23 := HP.out.ok2.hold HP.out.ok HX.out.1 (p := pg) (by rw [HX.out.2.2.1, HX.out.2.2.2.2.1]; exact HB.out) S.used
    have k1 := HX.out.2.2.2.2.2.1
    have k2 := HA.out.2.2.2.2.1
    have kk : Kept [hd] w1 w3 := (k2.mono (T := [hd]) (by simp)).trans hk3 (fun x hx => .inl hx)
    obtain ⟨V', p', n'⟩ := (HP.out.then k1).hold (t' := heldT t pg) (p := pg) (x := x) (hd := hd) (b := b) (N1 := w2.heap.size) (vc := V (.ch t.id)) HX.out.1 (heldT_id t pg).1 rfl HA.out.2.2.2.2.2.2.2.2.2.2 HA.out.2.2.2.2.2.2.2.1
      (by
        rcases HA.out.2.2.2.1 with q | ⟨q1, q2⟩
        · exact .inl q
        · exact .inr ⟨q1, q2, HA.out.2.2.1.lt⟩) ⟨k2.size, hk3.size⟩ kk (u := S.used) (hbg := HP.out.box.kept (k1.then k2) (by simp) |>.kept hk3 (by have : g ≠ hd := fun e => (by have := HP.out.inj.inj .g (.hd t.id) g (by rw [HP.out.vg]; rfl) (by rw [HA.out.2.2.2.2.2.2.2.1, e]; rfl); cases this); simpa using this)) (fun y hy => .inr (.inr (.inr (.inl (by have e : y = hd := (by simpa using hy); rw [HA.out.2.2.2.2.2.2.2.1, e]; rfl))))) (fun y hy => .inr hy)
      (by rw [(heldT_id t pg).2.1]; exact b3) (by rw [(heldT_id t pg).2.2.1]; exact hcs3) HA.out.2.2.2.2.2.1 HO.out.isMap HK3.out.2.2.1 (by rw [pgT_held]; exact HK3.out.2.1) (fun q _ _ => pgT_held c S t q pg) hok3 hok23
    rw [HG.out.1, HG.out.2, ← HQQ.out, ← HX.out.2.2.2.2.1]
    refine ⟨V', .nilIface, by first | rfl | simp, .inl ⟨rfl, rfl⟩, p', (Nx.refl V k1).trans ⟨n', [hd], kk, fun y hy => ⟨.hd t.id, by have e : y = hd := (by simpa using hy); rw [HA.out.2.2.2.2.2.2.2.1, e]; rfl⟩⟩⟩
end Go.Proofs.YtnjfahgmebmakaaGreatDoor

/-
  OWN WORK (by mkpp4.py). The landed plain (layer 18): update.
-/
namespace Go.Proofs.YtnjfahgmebmakaaGreatDoor
open Go.RowKit Go.Maps
set_option linter.unusedVariables false
set_option linter.unusedSimpArgs false
theorem snocC (l : List Chg) (x : Chg) : ccells (l ++ [x]) = ccells l ++ [.int .i64 x.key, .int .u64 x.val, .bool x.gone] := by rw [ccells_append]; rfl
theorem srcC {P : Program} (w : World) (t e : TypeId) (ht : P.underlying t = some (.slice e)) (x : Chg) : Src P 3 t (.slice (some ⟨w.heap.size, 0, none⟩) 1 1) 1 [.int .i64 x.key, .int .u64 x.val, .bool x.gone] (w.alloc (.cells #[.int .i64 x.key, .int .u64 x.val, .bool x.gone] e)) := by
  refine Src.ofSlice _ ht _ _ _ _ rfl (fun j u hj => ?_) (fun u hu => ?_)
  · rw [add_none rfl]
    have q := (Blk.new w e [.int .i64 x.key, .int .u64 x.val, .bool x.gone]).cell hj
    simpa using q
  · simp at hu
    rcases hu with rfl | rfl | rfl <;> rfl
set_option maxRecDepth 20000 in
set_option maxHeartbeats 6400000 in
theorem qUpdate {V : Tag → Value} {g : Nat} {c : Cf} {S : St} {k : Nat} {t : Tn} {x : Nat} (y : Chg) (n : Int) (w : World) (h : PpP w V g c S) (hk : S.opn[k]? = some t) (hx : V (.tx t.id) = .pointer (some ⟨x, 0, none⟩)) (hn : 1 ≤ n ∧ n ≤ 16) : Calls Tryz.prog 78 #[.pointer (some ⟨g, 0, none⟩), .pointer (some ⟨x, 0, none⟩), .agg #[.int .i64 y.key, .int .u64 y.val, .bool y.gone], .int .i64 n] w fun e w' => (fitsS c S (38 + 2 * n) (46 + n) = false ∧ (∃ s, e = .returned (.iface 169 (.agg #[.string s, .iface 119 (.int .i64 170)]))) ∧ Kept [] w w') ∨ (fitsS c S (38 + 2 * n) (46 + n) = true ∧ e = .returned .nilIface ∧ ∃ w1 vc, PpP w1 V g c ⟨S.done, S.opn, S.used + (38 + 2 * n)⟩ ∧ Kept [g] w w1 ∧ Kept (x :: (V (.ch t.id)).ownBlock.toList) w1 w' ∧ Blk w' x 116 [V (.hd t.id), vc, .int .i64 (t.kept + (46 + n))] ∧ Cs w' 0 vc (t.chs ++ [y]) ∧ (blkOf vc = blkOf (V (.ch t.id)) ∨ ∃ z, blkOf vc = some z ∧ w1.heap.size ≤ z ∧ z < w'.heap.size)) := by
  have hm := List.mem_of_getElem? hk
  obtain ⟨w0, hw0⟩ : ∃ wx, wx = w.alloc (.cells #[.int .i64 y.key, .int .u64 y.val, .bool y.gone] 50) := ⟨_, rfl⟩
  have k0 : Kept [] w w0 := by rw [hw0]; exact (Kept.refl [] w).alloc _
  have B0 : Blk w0 w.heap.size 50 [.int .i64 y.key, .int .u64 y.val, .bool y.gone] := by rw [hw0]; exact Blk.new w _ _
  have hv1 : IntKind.i64.wrap (2 * n) = 2 * n := wrap_i64_of (by omega) (by omega)
  have hv2 : IntKind.i64.wrap (38 + 2 * n) = 38 + 2 * n := wrap_i64_of (by omega) (by omega)
  have hv3 : IntKind.i64.wrap (46 + n) = 46 + n := wrap_i64_of (by omega) (by omega)
  have HQ := @hideH _ (qLog (38 + 2 * n) (46 + n) w0 (h.then k0) (by omega) (by omega))
  have HP := @hideH _ h
  have HK0 := @hideH _ (And.intro k0 B0)
  have HN := @hideH _ hn
  have HM := @hideH _ (And.intro hm hk)
  clear h k0 B0 hn hm hk
  go_enter Tryz.func78, Tryz.ntmps78
  go_upto_region 1 with fail
  rw [← hw0]
  clear hw0
  go_wp2_with fail
  refine HQ.out.mono ?_
  clear HQ
  rintro e w1 (⟨hfit, rfl, P1, k1⟩ | ⟨hfit, rfl, k1⟩)
  rotate_left
  · have HK := @hideH _ (And.intro hfit (HK0.out.1.then k1))
    clear k1 hfit
    go_wp2_with fail
    refine (qWrap _ _ _ _).mono ?_
    rintro e wv ⟨rfl, rfl⟩
    go_wp2
    go_ret
    exact .inl ⟨HK.out.1, ⟨_, by first | rfl | trivial⟩, HK.out.2⟩
  have T1 := P1.txs t HM.out.1
  obtain ⟨x', ex, hbx⟩ := T1.box
  obtain rfl : x = x' := by rw [hx] at ex; simpa using ex
  have hch := T1.chs
  have hfew := (HP.out.ok.few HM.out.2).2.1
  have hone := HP.out.ok.one HM.out.2
  have hkp := HP.out.ok.kept
  have hkv : t.kept = 99 + sumL t.lens := rfl
  obtain ⟨pc, cc, evc, hnc, hcm⟩ := hch.shape
  have hge : g < w.heap.size := HP.out.box.lt
  have B1 := HK0.out.2.kept k1 (by simp; omega)
  have hxl : x < w.heap.size := HP.out.inj.lt (.tx t.id) x (by rw [hx]; rfl)
  have hxB : x ≠ w.heap.size := by omega
  have hchlt : ∀ z, (V (.ch t.id)).ownBlock = some z → z < w.heap.size ∧ z ≠ x := fun z hz => by
    have e : blkOf (V (.ch t.id)) = some z := by rw [Row.blkOf hch]; exact hz
    refine ⟨HP.out.inj.lt (.ch t.id) z e, fun q => ?_⟩
    rw [q] at e
    have := HP.out.inj.inj _ _ _ e (show blkOf (V (.tx t.id)) = some x by rw [hx]; rfl)
    cases this
  rw [evc] at hbx hch hchlt
  obtain ⟨q, hq⟩ : ∃ q, q = t.chs.length := ⟨_, rfl⟩
  obtain ⟨kt, hkt⟩ : ∃ kt, kt = t.kept := ⟨_, rfl⟩
  rw [← hkt] at hkv hbx
  rw [← hq] at hbx hch hchlt
  have hqs : q ≤ 1400 := by rw [hq]; exact hfew
  have wk : IntKind.i64.wrap (kt + (46 + n)) = kt + (46 + n) := wrap_i64_of (by have := HN.out; omega) (by have := HN.out; omega)
  have c1 := hbx.cell (j := 1) rfl
  have c2 := hbx.cell (j := 2) rfl
  have y0 := B1.cell (j := 0) rfl
  have y1 := B1.cell (j := 1) rfl
  have y2 := B1.cell (j := 2) rfl
  have HQQ := @hideH _ (And.intro hq hqs)
  have HKT := @hideH _ hkt
  have HCS := @hideH _ hch
  have HBX := @hideH _ (And.intro hbx (And.intro B1 (And.intro hchlt (And.intro hxB hxl))))
  have HP1 := @hideH _ (And.intro P1 (And.intro ((HK0.out.1.mono (T := [g]) (by simp)).trans k1 (fun x hx => .inl hx)) (And.intro hfit k1.size)))
  have EV := @hideH _ evc
  obtain ⟨infC, hin1, hin2, hin3, hin4⟩ := info_parts3 (show (Tryz.prog.info? 50).map (fun i => (i.zero, i.size, i.bytes)) = some (some (.agg #[.int .i64 0, .int .u64 0, .bool false]), 3, 24) by kernel_rfl)
  have HIC := @hideH _ (And.intro hin1 (And.intro hin2 (And.intro hin3 hin4)))
  clear hin1 hin2 hin3 hin4
  clear P1 k1 T1 ex hch hfew hone hkp hkv hnc hcm B1 hbx hchlt hxB hxl hq hqs hkt evc hfit
  go_upto_region 4 with fail
  obtain ⟨w6, hw6⟩ : ∃ wx, wx = w1.drew := ⟨_, rfl⟩
  have k6 : Kept [] w1 w6 := by rw [hw6]; exact (Kept.refl [] w1).drew
  have hS : (fun w' => w'.cell? ⟨x, 1, none⟩ = some (.slice pc q cc) ∧ w'.cell? ⟨w.heap.size, 0, none⟩ = some (.int .i64 y.key) ∧ w'.cell? ⟨w.heap.size, 1, none⟩ = some (.int .u64 y.val) ∧ w'.cell? ⟨w.heap.size, 2, none⟩ = some (.bool y.gone)) w6 := ⟨k6.cell c1 (by simp), k6.cell y0 (by simp), k6.cell y1 (by simp), k6.cell y2 (by simp)⟩
  try dsimp only at hS
  obtain ⟨w7, hw7⟩ : ∃ wx, wx = w6.alloc (.cells #[.int .i64 y.key, .int .u64 y.val, .bool y.gone] 50) := ⟨_, rfl⟩
  have k7 : Kept [] w6 w7 := by rw [hw7]; exact (Kept.refl [] w6).alloc _
  have hS7 := (⟨k7.cell hS.1 (by simp), k7.cell hS.2.1 (by simp), k7.cell hS.2.2.1 (by simp), k7.cell hS.2.2.2 (by simp)⟩ : (fun w' => w'.cell? ⟨x, 1, none⟩ = some (.slice pc q cc) ∧ w'.cell? ⟨w.heap.size, 0, none⟩ = some (.int .i64 y.key) ∧ w'.cell? ⟨w.heap.size, 1, none⟩ = some (.int .u64 y.val) ∧ w'.cell? ⟨w.heap.size, 2, none⟩ = some (.bool y.gone)) w7)
  try dsimp only at hS7
  refine wp_region_late (fun w' => w'.cell? ⟨x, 1, none⟩ = some (.slice pc q cc) ∧ w'.cell? ⟨w.heap.size, 0, none⟩ = some (.int .i64 y.key) ∧ w'.cell? ⟨w.heap.size, 1, none⟩ = some (.int .u64 y.val) ∧ w'.cell? ⟨w.heap.size, 2, none⟩ = some (.bool y.gone)) 10 (by kernel_rfl) ?_
  rw [← hw6]
  clear hw6 c1 c2 y0 y1 y2
  refine wpAnyZ_take 0 (v := ?va0_1) rfl (by kernel_rfl) (by kernel_rfl) (by kernel_rfl) (by kernel_rfl) (fun _ _ _ h => h) (by rfl) ?hya0_1 hS ?resta0_1
  case hya0_1 => (intro wx hSx; obtain ⟨s1, s2, s3, s4⟩ := hSx; go_simp; (try with_reducible rfl))
  (try simp only [Act.put, List.getElem_toArray, List.getElem_cons_zero, List.getElem_cons_succ, List.setIfInBounds_toArray, List.set_cons_zero, List.set_cons_succ])
  refine wpAnyZ_take 1 (v := ?va1_2) rfl (by kernel_rfl) (by kernel_rfl) (by kernel_rfl) (by kernel_rfl) (fun _ _ _ h => h) (by rfl) ?hya1_2 hS ?resta1_2
  case hya1_2 => (intro wx hSx; obtain ⟨s1, s2, s3, s4⟩ := hSx; go_simp; (try with_reducible rfl))
  (try simp only [Act.put, List.getElem_toArray, List.getElem_cons_zero, List.getElem_cons_succ, List.setIfInBounds_toArray, List.set_cons_zero, List.set_cons_succ])
  refine wpAnyZ_take 2 (v := ?va2_3) rfl (by kernel_rfl) (by kernel_rfl) (by kernel_rfl) (by kernel_rfl) (fun _ _ _ h => h) (by rfl) ?hya2_3 hS ?resta2_3
  case hya2_3 => (intro wx hSx; obtain ⟨s1, s2, s3, s4⟩ := hSx; go_simp; (try with_reducible rfl))
  (try simp only [Act.put, List.getElem_toArray, List.getElem_cons_zero, List.getElem_cons_succ, List.setIfInBounds_toArray, List.set_cons_zero, List.set_cons_succ])
  refine wpAnyZ_take 3 (v := ?va3_4) rfl (by kernel_rfl) (by kernel_rfl) (by kernel_rfl) (by kernel_rfl) (fun _ _ _ h => h) (by rfl) ?hya3_4 hS ?resta3_4
  case hya3_4 => (intro wx hSx; obtain ⟨s1, s2, s3, s4⟩ := hSx; go_simp; (try with_reducible rfl))
  (try simp only [Act.put, List.getElem_toArray, List.getElem_cons_zero, List.getElem_cons_succ, List.setIfInBounds_toArray, List.set_cons_zero, List.set_cons_succ])
  refine wpAnyZ_take 4 (v := ?va4_5) rfl (by kernel_rfl) (by kernel_rfl) (by kernel_rfl) (by kernel_rfl) (fun _ _ _ h => h) (by rfl) ?hya4_5 hS ?resta4_5
  case hya4_5 => (intro wx hSx; obtain ⟨s1, s2, s3, s4⟩ := hSx; go_simp; (try with_reducible rfl))
  (try simp only [Act.put, List.getElem_toArray, List.getElem_cons_zero, List.getElem_cons_succ, List.setIfInBounds_toArray, List.set_cons_zero, List.set_cons_succ])
  refine wpAnyZ_take 5 (v := ?va5_6) rfl (by kernel_rfl) (by kernel_rfl) (by kernel_rfl) (by kernel_rfl) (fun _ _ _ h => h) (by rfl) ?hya5_6 hS ?resta5_6
  case hya5_6 => (intro wx hSx; obtain ⟨s1, s2, s3, s4⟩ := hSx; go_simp; (try with_reducible rfl))
  (try simp only [Act.put, List.getElem_toArray, List.getElem_cons_zero, List.getElem_cons_succ, List.setIfInBounds_toArray, List.set_cons_zero, List.set_cons_succ])
  refine wpAnyZ_one 6 rfl (by kernel_rfl) (fun K hK => ?_)
  go_simp
  refine hK _ _ (fun _ => by rw [← hw7]; exact hS7) ?_
  clear hK K
  (try simp only [Act.put, List.getElem_toArray, List.getElem_cons_zero, List.getElem_cons_succ, List.setIfInBounds_toArray, List.set_cons_zero, List.set_cons_succ])
  have hsrc := srcC (P := Tryz.prog) w6 48 50 Tryz.underlying48 y
  rw [← hw7] at hsrc
  rw [← hw7]
  clear hw7
  have k07 := k6.then k7
  have R7 := HCS.out.kept k07 (by simp)
  unfold Cs at R7
  rw [← HQQ.out.1] at R7
  refine wpAnyZ_one 7 rfl (by kernel_rfl) (fun K hK => ?_)
  refine step_append_row2 rfl (.tmp 25) (.tmp 27) 48 rfl 0 50 infC (.agg #[.int .i64 0, .int .u64 0, .bool false]) 3 24 Tryz.underlying48 HIC.out.1 HIC.out.2.1 HIC.out.2.2.1 HIC.out.2.2.2 rfl _ _ _ (by rfl) R7 _ 1 _ (by rfl) hsrc (by have e1 := HQQ.out.2; omega) (by have e1 := HQQ.out.2; unfold maxLen; omega) (by have e1 := HQQ.out.2; omega) (Nat.zero_le _) ?_
  intro v' w8 r8 k8 o8
  obtain ⟨p', c', hv', -⟩ := Row.shape r8
  subst hv'
  have hnot : ∀ z ∈ (Value.slice pc q cc).ownBlock.toList, z < w.heap.size ∧ z ≠ x := fun z hz => HBX.out.2.2.1 z (own_mem.1 hz)
  have b8x := ((HBX.out.1.kept k07 (by simp)).kept k8 (fun hm => (hnot x hm).2 rfl))
  have B8 := ((HBX.out.2.1.kept k07 (by simp)).kept k8 (fun hm => by have := (hnot _ hm).1; omega))
  have f8 := b8x.free 1
  have hS8 := (⟨b8x.cell (j := 1) rfl, B8.cell (j := 0) rfl, B8.cell (j := 1) rfl, B8.cell (j := 2) rfl⟩ : (fun w' => w'.cell? ⟨x, 1, none⟩ = some (.slice pc q cc) ∧ w'.cell? ⟨w.heap.size, 0, none⟩ = some (.int .i64 y.key) ∧ w'.cell? ⟨w.heap.size, 1, none⟩ = some (.int .u64 y.val) ∧ w'.cell? ⟨w.heap.size, 2, none⟩ = some (.bool y.gone)) w8)
  try dsimp only at hS8
  have HR8 := @hideH _ (And.intro r8 (And.intro k8 (And.intro o8 (And.intro k07 (And.intro b8x hnot)))))
  clear r8 k8 o8 hsrc R7 k07 hS7 k7 hS k6 b8x B8 hnot
  refine hK _ _ (fun _ => hS8) ?_
  clear hK K
  (try simp only [Act.put, List.getElem_toArray, List.getElem_cons_zero, List.getElem_cons_succ, List.setIfInBounds_toArray, List.set_cons_zero, List.set_cons_succ])
  refine wpAnyZ_one 8 rfl (by kernel_rfl) (fun K hK => ?_)
  go_simp
  refine hK _ _ (fun _ => hS8) ?_
  clear hK K
  (try simp only [Act.put, List.getElem_toArray, List.getElem_cons_zero, List.getElem_cons_succ, List.setIfInBounds_toArray, List.set_cons_zero, List.set_cons_succ])
  refine wpAnyZ_one 9 rfl (by kernel_rfl) (fun K hK => ?_)
  go_simp
  refine hK _ _ (fun _ => hS8) ?_
  clear hK K
  (try simp only [Act.put, List.getElem_toArray, List.getElem_cons_zero, List.getElem_cons_succ, List.setIfInBounds_toArray, List.set_cons_zero, List.set_cons_succ])
  refine wpAnyZ_one 10 rfl (by kernel_rfl) (fun K hK => ?_)
  go_simp
  refine hK _ _ (fun h => absurd rfl h) ?_
  clear hK K
  (try simp only [Act.put, List.getElem_toArray, List.getElem_cons_zero, List.getElem_cons_succ, List.setIfInBounds_toArray, List.set_cons_zero, List.set_cons_succ])
  refine wpAnyZ_done (by kernel_rfl) ?_ _
  obtain ⟨w9, hw9⟩ : ∃ wx, wx = w8.setCell ⟨x, 1, none⟩ (.slice p' (q + 1) c') := ⟨_, rfl⟩
  obtain ⟨b9, k9⟩ := HR8.out.2.2.2.2.1.set 1 (.slice p' (q + 1) c')
  rw [← hw9] at b9 k9
  rw [← hw9]
  clear hw9 hS8 f8
  have c29 := b9.cell (j := 2) (v := .int .i64 kt) rfl
  have f29 := b9.free 2
  obtain ⟨w10, hw10⟩ : ∃ wx, wx = w9.setCell ⟨x, 2, none⟩ (.int .i64 (kt + (46 + n))) := ⟨_, rfl⟩
  obtain ⟨b10, k10⟩ := b9.set 2 (.int .i64 (kt + (46 + n)))
  rw [← hw10] at b10 k10
  have HF := @hideH _ (And.intro b10 (And.intro k9 k10))
  clear b9 b10 k9 k10
  go_wp2
  rw [← hw10]
  try go_wp2
  go_ret
  have kx : Kept [x] w8 w10 := HF.out.2.1.trans HF.out.2.2 (fun z hz => .inl hz)
  have hnot := HR8.out.2.2.2.2.2
  have k18 : Kept (Value.slice pc q cc).ownBlock.toList w1 w8 := (HR8.out.2.2.2.1.mono (T := (Value.slice pc q cc).ownBlock.toList) (by simp)).trans HR8.out.2.1 (fun z hz => .inl hz)
  have kall : Kept (x :: (Value.slice pc q cc).ownBlock.toList) w1 w10 := (k18.mono (T := x :: (Value.slice pc q cc).ownBlock.toList) (fun z hz => List.mem_cons_of_mem _ hz)).trans kx (fun z hz => .inl (by simp at hz; simp [hz]))
  have ev : V (.ch t.id) = .slice pc q cc := by rw [EV.out, HQQ.out.1]
  refine .inr ⟨HP1.out.2.2.1, by first | rfl | trivial, w1, .slice p' (q + 1) c', HP1.out.1, HP1.out.2.1, by rw [ev]; exact kall, ?_, ?_, ?_⟩
  · rw [HKT.out] at HF; exact HF.out.1
  · have r := HR8.out.1
    have r2 : Row w10 0 3 (.slice p' (q + 1) c') (q + 1) (ccells t.chs ++ [.int .i64 y.key, .int .u64 y.val, .bool y.gone]) := r.kept kx (fun z hz hzx => by
      have ez : z = x := by simpa using hzx
      rcases HR8.out.2.2.1 with o | ⟨o, -⟩
      · rw [o] at hz
        exact (hnot z (own_mem.2 hz)).2 ez
      · rw [o] at hz
        have e2 : z = _ := (Option.some.inj hz).symm
        have := HR8.out.2.2.2.1.size
        have := HP1.out.2.2.2
        have := HBX.out.2.2.2.2
        have := HP1.out.2.1.size
        omega)
    unfold Cs
    rw [List.length_append, snocC, ← HQQ.out.1]
    exact r2
  · rw [ev]
    rcases HR8.out.2.2.1 with o | ⟨o, -⟩
    · refine .inl ?_
      rw [blkOf_slice rfl, blkOf_slice rfl]
      exact o
    · refine .inr ⟨_, by rw [blkOf_slice rfl]; exact o, ?_, ?_⟩
      · exact HR8.out.2.2.2.1.size
      · have h1 := HR8.out.1.lt _ o
        have := kx.size
        omega
end Go.Proofs.YtnjfahgmebmakaaGreatDoor

