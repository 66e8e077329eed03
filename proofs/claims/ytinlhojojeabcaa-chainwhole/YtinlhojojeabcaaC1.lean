import Derived.WalkKit
import Derived.WalkSpells
import Derived.WalkLawsBesides
import Derived.Laws.CopyOwn
import Derived.Laws.AppendOwnNone
import Derived.Laws.BytesArg
import Derived.Deep.AppendLies
import Derived.Test.YtinlhojojeabcaaRows
import Derived.ProofKit
import Derived.OpenShut
import Derived.JoinedCond
import Derived.SizedLaws
import Derived.Deep.Matrix
import Derived.Laws.Bits64
import Derived.Deep.Upon
import Derived.Deep.RegionHeld3
import Derived.Deep.QuietTactic
import Derived.BigQuiet
import Derived.Handy
import Derived.Deep.DeepCutAuto
import Derived.Shelf.Abstract
/-
  OWN WORK. Words for byte slices in memory, whatever the program: 'Bs w v l' (the value v is a slice of the bytes l in w), 'Kept S w w'' (what was there is as it was, but for the blocks of S).
-/
namespace Go.Proofs.Ytinlhojojeabcaa
open Go.RowKit
set_option linter.unusedVariables false

/-- the cells that hold these bytes -/
def u8s (l : List UInt8) : List Value := l.map fun x => Value.int .u8 (x.toNat : Int)
theorem u8s_length (l : List UInt8) : (u8s l).length = l.length := by simp [u8s]
theorem u8s_append (a b : List UInt8) : u8s (a ++ b) = u8s a ++ u8s b := by simp [u8s]
theorem u8s_one (l : List UInt8) (u : Value) : u ∈ u8s l → u.oneCell' = true := by
  intro h
  obtain ⟨x, _, rfl⟩ := List.mem_map.1 h
  rfl
theorem u8s_at {l : List UInt8} {j : Nat} {u : Value} (h : (u8s l)[j]? = some u) : ∃ x, l[j]? = some x ∧ u = .int .u8 (x.toNat : Int) := by
  simp only [u8s, List.getElem?_map, Option.map_eq_some_iff] at h
  obtain ⟨x, hx, rfl⟩ := h
  exact ⟨x, hx, rfl⟩

structure Kept (S : List Nat) (w w' : World) : Prop where
  os : w'.os = w.os
  tape : w'.tape = w.tape
  output : w'.output = w.output
  size : w.heap.size ≤ w'.heap.size
  block : ∀ k, k < w.heap.size → k ∉ S → w'.heap[k]? = w.heap[k]?

theorem Kept.refl (S : List Nat) (w : World) : Kept S w w := ⟨rfl, rfl, rfl, Nat.le_refl _, fun _ _ _ => rfl⟩
theorem Kept.trans {S T : List Nat} {a b c : World} (h : Kept S a b) (k : Kept T b c) (hT : ∀ x ∈ T, x ∈ S ∨ a.heap.size ≤ x) : Kept S a c :=
  ⟨k.os.trans h.os, k.tape.trans h.tape, k.output.trans h.output, Nat.le_trans h.size k.size, fun x hx hn =>
    (k.block x (Nat.lt_of_lt_of_le hx h.size) (fun hm => by rcases hT x hm with h' | h'; exact hn h'; omega)).trans (h.block x hx hn)⟩
theorem Kept.then {S : List Nat} {a b c : World} (h : Kept S a b) (k : Kept [] b c) : Kept S a c := h.trans k (by simp)
theorem Kept.mono {S T : List Nat} {a b : World} (h : Kept S a b) (hT : ∀ x ∈ S, x ∈ T) : Kept T a b :=
  ⟨h.os, h.tape, h.output, h.size, fun x hx hn => h.block x hx fun hm => hn (hT x hm)⟩
theorem Kept.alloc {S : List Nat} {a w : World} (h : Kept S a w) (o : Obj) : Kept S a (w.alloc o) :=
  h.trans (T := []) ⟨rfl, rfl, rfl, by simp, fun x hx _ => Below.heap_alloc w o x hx⟩ (by simp)
theorem Kept.drew {S : List Nat} {a w : World} (h : Kept S a w) : Kept S a w.drew := ⟨h.os, h.tape, h.output, h.size, h.block⟩
theorem Kept.below {w w' : World} (h : Kept [] w w') : Below w.heap.size w w' := ⟨h.os, h.tape, h.output, h.size, fun x hx => h.block x hx (by simp)⟩
theorem Kept.ofBelow {w w' : World} (h : Below w.heap.size w w') : Kept [] w w' := ⟨h.os, h.tape, h.output, h.size, fun x hx _ => h.block x hx⟩
theorem Kept.ofGrown {w w' : World} {r : Option Nat} {S : List Nat} (h : w.grownBy w' r) (hr : ∀ k, r = some k → k < w.heap.size → k ∈ S) : Kept S w w' :=
  ⟨h.os, h.tape, h.output, h.size, fun x hx hn => h.block x hx fun e => hn (hr x e.symm hx)⟩
/-- a row of the call's own grew -/
theorem Kept.grown {S : List Nat} {a w w' : World} {r : Option Nat} (h : Kept S a w) (hg : w.grownBy w' r) (hr : ∀ k, r = some k → k ∈ S ∨ a.heap.size ≤ k) : Kept S a w' :=
  h.trans (T := r.toList) (Kept.ofGrown hg (by intro k e _; subst e; simp)) (by intro x hx; exact hr x (by simpa using hx))
theorem Kept.setCell {S : List Nat} {a w : World} (h : Kept S a w) {p : Addr} (hp : p.block ∈ S ∨ a.heap.size ≤ p.block) (u : Value) : Kept S a (w.setCell p u) :=
  h.trans (T := [p.block]) ⟨rfl, rfl, rfl, by simp, fun x hx hn => Below.heap_setCell w p u x (by simpa using hn)⟩ (by intro x hx; simp at hx; subst hx; exact hp)

theorem lt_of_cell {w : World} {a : Addr} {v : Value} (h : w.cell? a = some v) : a.block < w.heap.size := by
  rcases Nat.lt_or_ge a.block w.heap.size with hl | hl
  · exact hl
  · simp [World.cell?, Array.getElem?_eq_none hl] at h
theorem spot_of_cell {w : World} {a : Addr} {v : Value} (h : w.cell? a = some v) : a.spot = none := by
  unfold World.cell? at h
  split at h
  · split at h
    · cases h
    · rename_i hs; simpa using hs
  · cases h
theorem Kept.cell {S : List Nat} {w w' : World} (h : Kept S w w') {a : Addr} {v : Value} (hc : w.cell? a = some v) (hn : a.block ∉ S) : w'.cell? a = some v := by
  rw [World.cell?_of_block (h.block a.block (lt_of_cell hc) hn)]; exact hc
theorem add_block (a : Addr) (i : Nat) : (a.add i).block = a.block := by unfold Addr.add; split <;> rfl
theorem add_none {a : Addr} (h : a.spot = none) (i : Nat) : a.add i = ⟨a.block, a.off + i, none⟩ := by
  obtain ⟨b, o, s⟩ := a
  simp only at h; subst h
  unfold Addr.add; split <;> simp_all

theorem add_add (a : Addr) (k i : Nat) : (a.add k).add i = a.add (k + i) := by
  obtain ⟨b, o, s⟩ := a
  by_cases hk : k = 0
  · subst hk; simp [Addr.add]
  · by_cases hi : i = 0
    · subst hi; simp [Addr.add]
    · simp [Addr.add, hk, hi, Nat.add_assoc]

/-- THE VALUE v IS A SLICE OF THE BYTES l IN w. -/
def Bs (w : World) (v : Value) (l : List UInt8) : Prop :=
  ∃ (p : Option Addr) (c : Nat), v = .slice p l.length c ∧ l.length ≤ c ∧ c ≤ maxLen ∧ (p = none → c = 0) ∧
    ∀ a, p = some a → ∀ (i : Nat) x, l[i]? = some x → w.cell? (a.add i) = some (.int .u8 (x.toNat : Int))

/-- of one byte or more: where it lies -/
theorem Bs.pos {w : World} {v : Value} {l : List UInt8} (h : Bs w v l) (hl : 0 < l.length) :
    ∃ b o c, v = .slice (some ⟨b, o, none⟩) l.length c ∧ l.length ≤ c ∧ c ≤ maxLen ∧ b < w.heap.size ∧ ∀ (i : Nat) x, l[i]? = some x → w.cell? ⟨b, o + i, none⟩ = some (.int .u8 (x.toNat : Int)) := by
  obtain ⟨p, c, rfl, h1, h2, h3, h4⟩ := h
  cases p with
  | none => have := h3 rfl; omega
  | some a =>
    have hc := h4 a rfl 0 l[0] (List.getElem?_eq_getElem hl)
    have hs := spot_of_cell hc
    have hs' : a.spot = none := by
      unfold Addr.add at hs
      split at hs <;> simp_all
    have hb := lt_of_cell hc
    rw [add_block] at hb
    refine ⟨a.block, a.off, c, by obtain ⟨b, o, s⟩ := a; simp_all, h1, h2, hb, fun i x hx => ?_⟩
    rw [← add_none hs' i]
    exact h4 a rfl i x hx

theorem Bs.nil (w : World) : Bs w (.slice none 0 0) [] := ⟨none, 0, rfl, Nat.le_refl _, by simp [maxLen], fun _ => rfl, fun a h => (by cases h)⟩
theorem Bs.mk {w : World} {b o c : Nat} {l : List UInt8} (h1 : l.length ≤ c) (h2 : c ≤ maxLen) (h : ∀ (i : Nat) x, l[i]? = some x → w.cell? ⟨b, o + i, none⟩ = some (.int .u8 (x.toNat : Int))) : Bs w (.slice (some ⟨b, o, none⟩) l.length c) l :=
  ⟨_, c, rfl, h1, h2, fun e => (by cases e), fun a e i x hx => (by cases e; rw [add_none rfl]; exact h i x hx)⟩
/-- carried to a world in which its cells are as they were -/
theorem Bs.carry {w w' : World} {v : Value} {l : List UInt8} (h : Bs w v l) (hc : ∀ (a : Addr) (x : UInt8), w.cell? a = some (.int .u8 (x.toNat : Int)) → v.ownBlock = some a.block → w'.cell? a = some (.int .u8 (x.toNat : Int))) : Bs w' v l := by
  obtain ⟨p, c, rfl, h1, h2, h3, h4⟩ := h
  exact ⟨p, c, rfl, h1, h2, h3, fun a e i x hx => hc _ x (h4 a e i x hx) (by subst e; simp [Value.ownBlock, add_block])⟩
theorem Bs.kept {w w' : World} {v : Value} {l : List UInt8} (h : Bs w v l) (k : Kept [] w w') : Bs w' v l := h.carry fun a x hx _ => k.cell hx (by simp)
/-- block k holds one slice and nothing else: a box that no byte lies in -/
def Box (w : World) (k : Nat) : Prop := ∃ p n c t m, w.heap[k]? = some (.cells #[.slice p n c] t m)
theorem Bs.keptBox {w w' : World} {v : Value} {l : List UInt8} {S : List Nat} (h : Bs w v l) (k : Kept S w w') (hS : ∀ x ∈ S, Box w x ∨ w.heap.size ≤ x) : Bs w' v l := h.carry fun a x hx _ => k.cell hx fun hm => by
  rcases hS _ hm with ⟨p, n, c, t, m, hb⟩ | hb
  · simp only [World.cell?, hb] at hx
    split at hx
    · cases hx
    · rcases ha : a.off with _ | j
      · simp [ha] at hx
      · simp [ha] at hx
  · have := lt_of_cell hx; omega
/-- behind 'kept but for v's own elder rows': its own block is not among those let go -/
theorem Bs.keptOwn {w w' : World} {v : Value} {l : List UInt8} {S : List Nat} (h : Bs w v l) (k : Kept S w w') (hS : ∀ x, v.ownBlock = some x → x ∉ S) : Bs w' v l := h.carry fun a x hx ho => k.cell hx (hS _ ho)

/-- an owned row of bytes is a slice of them -/
theorem Bs.ofOwn {w : World} {base e : Nat} {v : Value} {n : Nat} {l : List UInt8} (h : w.ownsRow base e 1 v n (u8s l)) : Bs w v l := by
  have hn : n = l.length := by have := h.1; rw [u8s_length] at this; omega
  subst hn
  rcases h.2 with ⟨rfl, h0⟩ | ⟨g, cap, cur, rfl, _, hg, h1, h2, h3, h4⟩
  · have : l = [] := List.eq_nil_of_length_eq_zero h0
    subst this
    exact Bs.nil w
  · refine Bs.mk h1 h2 fun i x hx => ?_
    have hc := h.cells (g := g) rfl i (.int .u8 (x.toNat : Int)) (by simp [u8s, hx])
    rw [add_none rfl] at hc
    exact hc
theorem own_ge {w : World} {base e size : Nat} {v : Value} {n : Nat} {xs : List Value} (h : w.ownsRow base e size v n xs) (k : Nat) (hk : v.ownBlock = some k) : base ≤ k := (h.lt k hk).1

/-- 'string(b)' -/
theorem Bs.convert {P : Program} {w : World} {v : Value} {l : List UInt8} (h : Bs w v l) {src dst e : TypeId} (hs : P.underlying src = some (.slice e)) (he : P.underlying e = some (.int .u8)) (hd : P.underlying dst = some .string) :
    (convert src dst v).run P w = .ok (.string ⟨l.toArray⟩) w := by
  obtain ⟨p, c, rfl, h1, h2, h3, h4⟩ := h
  cases p with
  | none =>
    have hc := h3 rfl
    have : l = [] := List.eq_nil_of_length_eq_zero (by omega)
    subst this
    rw [run_convert_bytes_nil w src e hs he _ _ dst hd]
    rfl
  | some a =>
    have hl : (loadCells a l.length).run P w = .ok ((l.map fun x => (x.toNat : Int)).map (Value.int .u8)).toArray w := by
      have := run_loadCells_list (P := P) w a ((l.map fun x => (x.toNat : Int)).map (Value.int .u8)) (fun j v hj => by
        simp only [List.getElem?_map, Option.map_eq_some_iff] at hj
        obtain ⟨_, ⟨x, hx, rfl⟩, rfl⟩ := hj
        exact h4 a rfl j x hx)
      simpa using this
    rw [run_convert_bytes_string w src dst e _ _ c hs he hd, run_bytesToString w _ _ c _ hl, foldl_push_bytes]
    simp [ByteArray.empty, ByteArray.emptyWithCapacity, List.map_map]
    congr 1
    rw [show (List.map ((fun n => UInt8.ofNat n.toNat) ∘ fun x : UInt8 => (x.toNat : Int)) l) = l from by
      conv => rhs; rw [← List.map_id l]
      exact List.map_congr_left (fun x _ => by simp)]
    rfl

/-- 'b[:k]' and 'b[k:]' -/
theorem Bs.cut {P : Program} {w : World} {p : Option Addr} {c : Nat} {l : List UInt8} (h : Bs w (.slice p l.length c) l) {k : Nat} (hk : k ≤ l.length) :
    Bs w (.slice p k c) (l.take k) ∧ Bs w (.slice (if c = k then p else p.map (·.add k)) (l.length - k) (c - k)) (l.drop k) := by
  obtain ⟨p', c', e, h1, h2, h3, h4⟩ := h
  cases e
  refine ⟨⟨p, c, by simp [Nat.min_eq_left hk], by simp; omega, h2, h3, fun a e i x hx => h4 a e i x ?_⟩, ⟨(if c = k then p else p.map (·.add k)), c - k, by rw [List.length_drop], by simp; omega, by omega, ?_, ?_⟩⟩
  · rw [List.getElem?_take] at hx; split at hx
    · exact hx
    · cases hx
  · intro e
    by_cases hc : c = k
    · omega
    · rw [if_neg hc] at e
      have := h3 (by simpa using e)
      omega
  · intro a e i x hx
    have hi : i < l.length - k := by simpa using (List.getElem?_eq_some_iff.1 hx).1
    by_cases hc : c = k
    · omega
    · rw [if_neg hc] at e
      obtain ⟨a', rfl, rfl⟩ := Option.map_eq_some_iff.1 e
      rw [List.getElem?_drop] at hx
      have := h4 a' rfl (k + i) x hx
      have e2 : (a'.add k).add i = a'.add (k + i) := add_add a' k i
      rw [e2]; exact this

/-- an index into a constant text, where its run is known -/
theorem wpList_index_str {P : Program} {w : World} {ops : Array Oper} {rest : List Oper} {o : Oper} {a : Act} {Q : Exit → Act → World → Prop} (hgd : o.guard = none) (t : TypeId) (S : ByteArray) (x : Operand)
    (ho : o.op = .index t (.const (.string S)) x) (k : IntKind) (i : Int) (n : Int) (hx : a.eval x = .int k i) (hr : ∀ w, (Instr.index t (.string S) (.int k i)).run P w = .ok (.int .u8 n) w)
    (h : wpList P ops Q rest (a.put o.dst (.int .u8 n)) w) : wpList P ops Q (o :: rest) a w := by
  refine wpList_plain hgd fun K hK => ?_
  unfold Oper.wp
  have e : a.eval (.const (.string S)) = .string S := rfl
  simp [execOp, ho, hx, hr, e, Result.andThen]
  exact hK _ _ h
end Go.Proofs.Ytinlhojojeabcaa

/-
  OWN WORK. append, copy, make and the cuts of byte slices as laws for the walk, whatever the program.
-/
namespace Go.Proofs.Ytinlhojojeabcaa
open Go.RowKit
set_option linter.unusedVariables false

/-- 'append(out, b...)': out the call's own row of bytes, b any slice of bytes (nil too). -/
theorem wpList_append_bs {P : Program} {w : World} {ops : Array Oper} {rest : List Oper} {o : Oper} {a : Act} {Q : Exit → Act → World → Prop} (hgd : o.guard = none) (s x : Operand) (t : TypeId)
    (ho : o.op = .call { callee := .builtin .append, args := #[s, x], argTypes := #[t, t] }) (base : Nat) (e : TypeId) (hu : P.underlying t = some (.slice e))
    (hinf : (P.info? e).map (fun i => (i.zero, i.size, i.bytes)) = some (some (.int .u8 0), 1, 1))
    (v : Value) (n : Nat) (xs : List Value) (hs : a.eval s = v) (hown : w.ownsRow base e 1 v n xs) (sv : Value) (l : List UInt8) (hx : a.eval x = sv) (hb : Bs w sv l)
    (hroom : n + l.length ≤ 140737488355328) (hbase : base ≤ w.heap.size)
    (h : ∀ v' w', w'.ownsRow base e 1 v' (n + l.length) (xs ++ u8s l) → w.grownBy w' v.ownBlock → (v'.ownBlock = v.ownBlock ∨ v'.ownBlock = some w.heap.size) → wpList P ops Q rest (a.put o.dst v') w') :
    wpList P ops Q (o :: rest) a w := by
  obtain ⟨i, hi, hz, hsz, hby⟩ := info_parts hinf
  obtain ⟨p, c, rfl, h1, h2, h3, h4⟩ := hb
  cases p with
  | none =>
    have hc := h3 rfl
    subst hc
    obtain rfl : l = [] := List.eq_nil_of_length_eq_zero (by omega)
    refine wpList_append_own_none hgd s x t ho base e i 1 hu hi v n xs hs hown hx ?_
    exact h v w (by simpa [u8s] using hown) (World.grownBy.refl _ _) (.inl rfl)
  | some ad =>
    refine wpList_plain hgd fun K hK => ?_
    obtain ⟨v', w', hr, k1, k2, _, k4⟩ := run_append_own_at (P := P) w base t o.type e i (.int .u8 0) 1 1 hu hi hz hsz hby rfl (by decide) v n xs hown ad l.length c (u8s l) (by simp [u8s])
      (fun j u hj => by obtain ⟨y, hy, rfl⟩ := u8s_at hj; exact h4 ad rfl j y hy) (u8s_one l) (by unfold maxLen; omega) (by omega) hbase
    unfold Oper.wp execOp
    simp only [ho, resolve, invoke, builtin, Sem.run_bind, Sem.run_pure, Result.andThen_ok, List.map_toArray, List.map_cons, List.map_nil, hs, hx, hr]
    exact hK _ _ (h v' w' k1 k2 k4)

/-- the same at a step of a region that draws its order -/
theorem step_append_bs {P : Program} {w : World} {ops : Array Oper} {o : Oper} {a : Act} {K : Act → World → Prop} {Q : Exit → Act → World → Prop} {E : Prop} (hgd : o.guard = none) (s x : Operand) (t : TypeId)
    (ho : o.op = .call { callee := .builtin .append, args := #[s, x], argTypes := #[t, t] }) (base : Nat) (e : TypeId) (hu : P.underlying t = some (.slice e))
    (hinf : (P.info? e).map (fun i => (i.zero, i.size, i.bytes)) = some (some (.int .u8 0), 1, 1))
    (v : Value) (n : Nat) (xs : List Value) (hs : a.eval s = v) (hown : w.ownsRow base e 1 v n xs) (sv : Value) (l : List UInt8) (hx : a.eval x = sv) (hb : Bs w sv l)
    (hroom : n + l.length ≤ 140737488355328) (hbase : base ≤ w.heap.size)
    (h : ∀ v' w', w'.ownsRow base e 1 v' (n + l.length) (xs ++ u8s l) → w.grownBy w' v.ownBlock → (v'.ownBlock = v.ownBlock ∨ v'.ownBlock = some w.heap.size) → K (a.put o.dst v') w') :
    if Region.wanted o (yielded ops a.tmps) = true then Oper.wp P o a w K Q else E := by
  have hw : Region.wanted o (yielded ops a.tmps) = true := by simp [Region.wanted, hgd]
  rw [if_pos hw]
  obtain ⟨i, hi, hz, hsz, hby⟩ := info_parts hinf
  obtain ⟨p, c, rfl, h1, h2, h3, h4⟩ := hb
  cases p with
  | none =>
    have hc := h3 rfl
    subst hc
    obtain rfl : l = [] := List.eq_nil_of_length_eq_zero (by omega)
    have hrun := run_append_owned_none (P := P) (w := w) base t o.type e i 1 hu hi v n xs hown
    have hx' : a.eval x = .slice none 0 0 := hx
    unfold Oper.wp execOp
    simp only [ho, resolve, invoke, builtin, Sem.run_bind, Sem.run_pure, Result.andThen_ok, List.map_toArray, List.map_cons, List.map_nil, hs, hx', hrun]
    exact h v w (by simpa [u8s] using hown) (World.grownBy.refl _ _) (.inl rfl)
  | some ad =>
    obtain ⟨v', w', hr, k1, k2, _, k4⟩ := run_append_own_at (P := P) w base t o.type e i (.int .u8 0) 1 1 hu hi hz hsz hby rfl (by decide) v n xs hown ad l.length c (u8s l) (by simp [u8s])
      (fun j u hj => by obtain ⟨y, hy, rfl⟩ := u8s_at hj; exact h4 ad rfl j y hy) (u8s_one l) (by unfold maxLen; omega) (by omega) hbase
    unfold Oper.wp execOp
    simp only [ho, resolve, invoke, builtin, Sem.run_bind, Sem.run_pure, Result.andThen_ok, List.map_toArray, List.map_cons, List.map_nil, hs, hx, hr]
    exact h v' w' k1 k2 k4
/-- 'copy(out, b)': out the call's own row, as long as b. -/
theorem wpList_copy_bs {P : Program} {w : World} {ops : Array Oper} {rest : List Oper} {o : Oper} {a : Act} {Q : Exit → Act → World → Prop} (hgd : o.guard = none) (d s : Operand) (t : TypeId)
    (ho : o.op = .call { callee := .builtin .copy, args := #[d, s], argTypes := #[t, t] }) (base : Nat) (e : TypeId) (hu : P.underlying t = some (.slice e))
    (hsz : (P.info? e).map (·.size) = some 1)
    (v : Value) (n : Nat) (xs : List Value) (hd : a.eval d = v) (hown : w.ownsRow base e 1 v n xs) (sv : Value) (l : List UInt8) (hx : a.eval s = sv) (hb : Bs w sv l) (hn : l.length = n)
    (h : ∀ w', w'.ownsRow base e 1 v n (u8s l) → w.grownBy w' v.ownBlock → wpList P ops Q rest (a.put o.dst (goInt n)) w') : wpList P ops Q (o :: rest) a w := by
  subst hn
  obtain ⟨p, c, rfl, h1, h2, h3, h4⟩ := hb
  by_cases h0 : l.length = 0
  · obtain rfl : l = [] := List.eq_nil_of_length_eq_zero h0
    have hxs : xs = [] := List.eq_nil_of_length_eq_zero (by simpa using hown.1)
    subst hxs
    obtain ⟨dp, dc, rfl⟩ : ∃ dp dc, v = .slice dp 0 dc := by
      rcases hown.2 with ⟨rfl, _⟩ | ⟨g, cap, cur, rfl, _⟩
      · exact ⟨_, _, rfl⟩
      · exact ⟨_, _, rfl⟩
    refine wpList_copy_nothing hgd d s t t ho e hu hsz dp p 0 dc 0 c hd hx rfl ?_
    exact h w hown (World.grownBy.refl _ _)
  · cases p with
    | none => have := h3 rfl; omega
    | some ad =>
      rcases hown.2 with ⟨rfl, hz⟩ | ⟨g, cap, cur, rfl, hbg, hg, hnc, hcm, hcs, htk⟩
      · omega
      · refine wpList_copy_own hgd d s t t ho e hu hsz g 0 l.length cap ad l.length c hd hx cur e hg (u8s l) (by simp [u8s]) (fun j u hj => by obtain ⟨y, hy, rfl⟩ := u8s_at hj; exact h4 ad rfl j y hy) (by rw [u8s_length]; omega) (u8s_one l) ?_
        rw [u8s_length]
        have hgl : g < w.heap.size := (Array.getElem?_eq_some_iff.1 hg).1
        refine h _ ⟨by simp [u8s], .inr ⟨g, cap, _, rfl, hbg, setRow_heap w g cur _ e (0, 0) hg, hnc, hcm, ?_, ?_⟩⟩ ⟨rfl, rfl, rfl, by simp [World.setRow], fun k hk hne => setRow_other w g k _ (by intro e2; subst e2; exact hne rfl)⟩
        · simp [u8s_length]; omega
        · simp
          rw [List.take_append_of_le_length (by rw [u8s_length]; omega)]
          exact List.take_of_length_le (by rw [u8s_length]; omega)

/-- 'make([]byte, n, c)' -/
theorem run_make_bs {P : Program} (w : World) (t e : TypeId) (hu : P.underlying t = some (.slice e)) (hinf : (P.info? e).map (fun i => (i.zero, i.size, i.bytes)) = some (some (.int .u8 0), 1, 1))
    (n c : Nat) (hnc : n ≤ c) (hc : c ≤ 281474976710656) :
    (Instr.makeSlice t (.int .i64 (n : Int)) (.int .i64 (c : Int))).run P w = .ok (.slice (some ⟨w.heap.size, 0, none⟩) n c) (w.alloc (.cells (madeCells #[.int .u8 0] c) e)) := by
  obtain ⟨i, hi, hz, hsz, hby⟩ := info_parts hinf
  have h := run_make (P := P) w t e i (.int .u8 0) hu hi hz .i64 .i64 (n : Int) (c : Int) (by omega) (by omega) (by rw [hby]; omega) (by omega)
  rw [h, hsz]
  simp [Value.cells]
theorem own_made (w : World) (e base n c : Nat) (hb : base ≤ w.heap.size) (hnc : n ≤ c) (hc : c ≤ maxLen) :
    (w.alloc (.cells (madeCells #[.int .u8 0] c) e)).ownsRow base e 1 (.slice (some ⟨w.heap.size, 0, none⟩) n c) n (u8s (List.replicate n 0)) := by
  refine ⟨by simp [u8s], .inr ⟨w.heap.size, c, _, rfl, hb, heap_alloc_new w _, hnc, hc, by simp [size_madeCells], ?_⟩⟩
  rw [toList_madeCells_one]
  simp [u8s, Nat.min_eq_left hnc]
/-- one byte in a block of its own, as 'append(out, x)' lays it -/
theorem Bs.one (w : World) (e : TypeId) (n : Int) (y : UInt8) (hn : n = (y.toNat : Int)) : Bs (w.alloc (.cells #[.int .u8 n] e)) (.slice (some ⟨w.heap.size, 0, none⟩) 1 1) [y] := by
  subst hn
  exact Bs.mk (l := [y]) (by simp) (by simp [maxLen]) fun i x hx => by
    rcases i with _ | i
    · simp at hx; subst hx
      have := World.news_of_block (heap_alloc_new w (.cells #[.int .u8 (y.toNat : Int)] e)) 0 (.int .u8 (y.toNat : Int)) (by simp)
      rwa [add_none rfl] at this
    · simp at hx
/-- a literal's bytes in a block of their own -/
theorem Bs.lit (w : World) (e : TypeId) (l : List UInt8) (cs : Array Value) (hcs : cs = (u8s l).toArray) (hl : l.length ≤ maxLen) : Bs (w.alloc (.cells cs e)) (.slice (some ⟨w.heap.size, 0, none⟩) l.length l.length) l := by
  subst hcs
  exact Bs.mk (Nat.le_refl _) hl fun i x hx => by
    have := World.news_of_block (heap_alloc_new w (.cells (u8s l).toArray e)) i (.int .u8 (x.toNat : Int)) (by simp [u8s, hx])
    rwa [add_none rfl] at this
theorem Bs.litAt (w : World) (e : TypeId) (l : List UInt8) (cs : Array Value) (hcs : cs = (u8s l).toArray) (hl : l.length ≤ maxLen) (H : Nat) (hH : w.heap.size = H) : Bs (w.alloc (.cells cs e)) (.slice (some ⟨H, 0, none⟩) l.length l.length) l := by
  subst hH
  exact Bs.lit w e l cs hcs hl
theorem own_of_lit (w : World) (e base : Nat) (l : List UInt8) (hb : base ≤ w.heap.size) (hl : l.length ≤ maxLen) : (w.alloc (.cells (u8s l).toArray e)).ownsRow base e 1 (.slice (some ⟨w.heap.size, 0, none⟩) l.length l.length) l.length (u8s l) :=
  ⟨by simp [u8s], .inr ⟨w.heap.size, l.length, _, rfl, hb, heap_alloc_new w _, Nat.le_refl _, hl, by simp [u8s], by simp only [Nat.mul_one]; exact List.take_of_length_le (by simp [u8s])⟩⟩
end Go.Proofs.Ytinlhojojeabcaa

/-
  OWN WORK. The cuts 'b[:k]', 'b[k:]' of a slice of bytes, run; a reader's box.
-/
namespace Go.Proofs.Ytinlhojojeabcaa
open Go.RowKit
set_option linter.unusedVariables false

theorem run_cut_to {P : Program} (w : World) (t e : TypeId) (hu : P.underlying t = some (.slice e)) (hsz : (P.info? e).map (·.size) = some 1) (p : Option Addr) (n c k : Nat) (hk : k ≤ c) :
    (Instr.slice t (.slice p n c) none (some (.int .i64 (k : Int))) none).run P w = .ok (.slice p k c) w := by
  obtain ⟨i, hi, hs⟩ := Option.map_eq_some_iff.1 hsz
  have e0 : Option.map (fun x : Addr => x.add 0) p = p := by cases p <;> simp [Addr.add]
  simp [Instr.slice, run_underlying hu, Instr.sliceBounds, run_sliceBound, sizeOf, typeInfo, hi, e0, (by omega : (k : Int) ≤ (c : Int))]
theorem run_cut_from {P : Program} (w : World) (t e : TypeId) (hu : P.underlying t = some (.slice e)) (hsz : (P.info? e).map (·.size) = some 1) (p : Option Addr) (n c k : Nat) (hk : k ≤ n) :
    (Instr.slice t (.slice p n c) (some (.int .i64 (k : Int))) none none).run P w = .ok (.slice (if c = k then p else p.map (·.add k)) (n - k) (c - k)) w := by
  obtain ⟨i, hi, hs⟩ := Option.map_eq_some_iff.1 hsz
  simp [Instr.slice, run_underlying hu, Instr.sliceBounds, run_sliceBound, sizeOf, typeInfo, hi, hs, (by omega : (k : Int) ≤ (n : Int))]

theorem run_cut_mid {P : Program} (w : World) (t e : TypeId) (hu : P.underlying t = some (.slice e)) (hsz : (P.info? e).map (·.size) = some 1) (p : Option Addr) (n c k m : Nat) (hm : k + m ≤ c) :
    (Instr.slice t (.slice p n c) (some (.int .i64 (k : Int))) (some (.int .i64 ((k : Int) + (m : Int)))) none).run P w = .ok (.slice (if c = k then p else p.map (·.add k)) m (c - k)) w := by
  obtain ⟨i, hi, hs⟩ := Option.map_eq_some_iff.1 hsz
  have e1 : ((k : Int) + (m : Int)).toNat = k + m := by omega
  simp [Instr.slice, run_underlying hu, Instr.sliceBounds, run_sliceBound, sizeOf, typeInfo, hi, hs, e1, (by omega : (k : Int) + (m : Int) ≤ (c : Int)), (by omega : 0 ≤ (k : Int) + (m : Int))]
  rw [run_sliceBound (P := P) w .i64 (k : Int) (k + m) .sliceB (by omega) (by omega)]
  simp [Result.andThen]
theorem Bs.heap {w w' : World} {v : Value} {l : List UInt8} (hw : w'.heap = w.heap) (h : Bs w v l) : Bs w' v l := h.carry fun a x hx _ => by rw [World.cell?_of_block (w := w) (by rw [hw])]; exact hx
/-- 'b[k:k+m]' -/
theorem Bs.mid {P : Program} (t e : TypeId) (hu : P.underlying t = some (.slice e)) (hsz : (P.info? e).map (·.size) = some 1) {w : World} {p : Option Addr} {n c : Nat} {l : List UInt8} (h : Bs w (.slice p n c) l) (k m : Nat) (hk : k + m ≤ n) :
    ∃ p2, (∀ u, (Instr.slice t (.slice p n c) (some (.int .i64 (k : Int))) (some (.int .i64 ((k : Int) + (m : Int)))) none).run P u = .ok (.slice p2 m (c - k)) u) ∧ Bs w (.slice p2 m (c - k)) ((l.drop k).take m) := by
  obtain ⟨p', c', e', h1, h2, -⟩ := id h
  cases e'
  have hc := (h.cut (P := P) (k := k) (by omega)).2
  have hd := (Bs.cut (P := P) (c := c - k) (l := l.drop k) (by simpa using hc) (k := m) (by simp; omega)).1
  exact ⟨_, fun u => run_cut_mid u t e hu hsz p _ c k m (by omega), hd⟩
/-- both cuts of a slice of bytes, with what they hold -/
theorem Bs.cuts {P : Program} (t e : TypeId) (hu : P.underlying t = some (.slice e)) (hsz : (P.info? e).map (·.size) = some 1) {w : World} {p : Option Addr} {n c : Nat} {l : List UInt8} (h : Bs w (.slice p n c) l) (k : Nat) (hk : k ≤ n) :
    ∃ p2, (∀ u, (Instr.slice t (.slice p n c) none (some (.int .i64 (k : Int))) none).run P u = .ok (.slice p k c) u) ∧
      (∀ u, (Instr.slice t (.slice p n c) (some (.int .i64 (k : Int))) none none).run P u = .ok (.slice p2 (n - k) (c - k)) u) ∧ Bs w (.slice p k c) (l.take k) ∧ Bs w (.slice p2 (n - k) (c - k)) (l.drop k) := by
  obtain ⟨p', c', e', h1, h2, -⟩ := id h
  cases e'
  have hc := h.cut (P := P) hk
  exact ⟨_, fun u => run_cut_to u t e hu hsz p _ c k (by omega), fun u => run_cut_from u t e hu hsz p _ c k hk, hc.1, hc.2⟩

/-- A READER: block g holds one slice, of the bytes l that are left. -/
def Rd (t : TypeId) (w : World) (g : Nat) (l : List UInt8) : Prop :=
  ∃ p n c, w.heap[g]? = some (.cells #[.slice p n c] t (0, 0)) ∧ Bs w (.slice p n c) l
theorem Rd.box {t : TypeId} {w : World} {g : Nat} {l : List UInt8} (h : Rd t w g l) : Box w g := by
  obtain ⟨p, n, c, h1, _⟩ := h
  exact ⟨p, n, c, t, _, h1⟩
theorem Rd.lt {t : TypeId} {w : World} {g : Nat} {l : List UInt8} (h : Rd t w g l) : g < w.heap.size := by
  obtain ⟨p, n, c, h1, _⟩ := h
  exact (Array.getElem?_eq_some_iff.1 h1).1
/-- a reader is as it was where neither it nor a byte was touched -/
theorem Rd.kept {t : TypeId} {w w' : World} {g : Nat} {l : List UInt8} {S : List Nat} (h : Rd t w g l) (k : Kept S w w') (hS : ∀ x ∈ S, x ≠ g ∧ (Box w x ∨ w.heap.size ≤ x)) : Rd t w' g l := by
  have hl := h.lt
  obtain ⟨p, n, c, h1, h2⟩ := h
  exact ⟨p, n, c, (k.block g hl (fun hm => (hS g hm).1 rfl)).trans h1, h2.keptBox k fun x hx => (hS x hx).2⟩
theorem Box.kept {w w' : World} {x : Nat} {S : List Nat} (h : Box w x) (k : Kept S w w') (hn : x ∉ S) : Box w' x := by
  obtain ⟨p, n, c, t, m, hb⟩ := h
  exact ⟨p, n, c, t, m, (k.block x (Array.getElem?_eq_some_iff.1 hb).1 hn).trans hb⟩
theorem Rd.fresh {t : TypeId} {w : World} {p : Option Addr} {n c : Nat} {l : List UInt8} (h : Bs w (.slice p n c) l) : Rd t (w.alloc (.cells #[.slice p n c] t)) w.heap.size l :=
  ⟨p, n, c, heap_alloc_new w _, h.kept ((Kept.refl [] w).alloc _)⟩
theorem Rd.cell {t : TypeId} {w : World} {g : Nat} {p : Option Addr} {n c : Nat} (h : w.heap[g]? = some (.cells #[.slice p n c] t (0, 0))) : w.cell? ⟨g, 0, none⟩ = some (.slice p n c) ∧ w.frozen? ⟨g, 0, none⟩ = false :=
  ⟨cell_of_one h, free_of_one h⟩
/-- the reader's box is written: the new slice in it -/
theorem Rd.set {t : TypeId} {w : World} {g : Nat} {p p' : Option Addr} {n c n' c' : Nat} {l' : List UInt8} (h : w.heap[g]? = some (.cells #[.slice p n c] t (0, 0))) (hb : Bs w (.slice p' n' c') l') :
    Rd t (w.setCell ⟨g, 0, none⟩ (.slice p' n' c')) g l' ∧ Kept [g] w (w.setCell ⟨g, 0, none⟩ (.slice p' n' c')) := by
  have hk : Kept [g] w (w.setCell ⟨g, 0, none⟩ (.slice p' n' c')) := (Kept.refl [g] w).setCell (.inl (by simp)) _
  refine ⟨⟨p', n', c', one_setCell h, hb.keptBox hk fun x hx => .inl ?_⟩, hk⟩
  simp at hx; subst hx
  exact ⟨p, n, c, t, _, h⟩
theorem own_mono {w : World} {b b' e size : Nat} {v : Value} {n : Nat} {xs : List Value} (h : w.ownsRow b e size v n xs) (hb : b' ≤ b) : w.ownsRow b' e size v n xs := by
  refine ⟨h.1, ?_⟩
  rcases h.2 with h | ⟨g, cap, cur, h1, h2, h3⟩
  · exact .inl h
  · exact .inr ⟨g, cap, cur, h1, Nat.le_trans hb h2, h3⟩
end Go.Proofs.Ytinlhojojeabcaa

/-
  OWN WORK. A slice of slices of bytes; rows of the call's own.
-/
namespace Go.Proofs.Ytinlhojojeabcaa
open Go.RowKit
set_option linter.unusedVariables false

theorem Kept.drewN' {S : List Nat} {a w : World} (h : Kept S a w) (n : Nat) : Kept S a (w.drewN n) := ⟨h.os, h.tape, h.output, h.size, h.block⟩
/-- THE VALUE v IS A SLICE OF SLICES OF THESE BYTES IN w. -/
def Bss (w : World) (v : Value) (ls : List (List UInt8)) : Prop :=
  ∃ (p : Option Addr) (c : Nat), v = .slice p ls.length c ∧ ls.length ≤ c ∧ c ≤ maxLen ∧ (p = none → c = 0) ∧
    ∀ a, p = some a → ∀ (i : Nat) l, ls[i]? = some l → ∃ q d, w.cell? (a.add i) = some (.slice q l.length d) ∧ Bs w (.slice q l.length d) l
theorem Bss.pos {w : World} {v : Value} {ls : List (List UInt8)} (h : Bss w v ls) (hl : 0 < ls.length) :
    ∃ b o c, v = .slice (some ⟨b, o, none⟩) ls.length c ∧ ls.length ≤ c ∧ c ≤ maxLen ∧ b < w.heap.size ∧
      ∀ (i : Nat) l, ls[i]? = some l → ∃ q d, w.cell? ⟨b, o + i, none⟩ = some (.slice q l.length d) ∧ Bs w (.slice q l.length d) l := by
  obtain ⟨p, c, rfl, h1, h2, h3, h4⟩ := h
  cases p with
  | none => have := h3 rfl; omega
  | some a =>
    obtain ⟨q, d, hc, _⟩ := h4 a rfl 0 ls[0] (List.getElem?_eq_getElem hl)
    have hs := spot_of_cell hc
    have hs' : a.spot = none := by
      unfold Addr.add at hs
      split at hs <;> simp_all
    have hb := lt_of_cell hc
    rw [add_block] at hb
    refine ⟨a.block, a.off, c, by obtain ⟨b, o, s⟩ := a; simp_all, h1, h2, hb, fun i x hx => ?_⟩
    rw [← add_none hs' i]
    exact h4 a rfl i x hx
theorem Bss.kept {w w' : World} {v : Value} {ls : List (List UInt8)} (h : Bss w v ls) (k : Kept [] w w') : Bss w' v ls := by
  obtain ⟨p, c, rfl, h1, h2, h3, h4⟩ := h
  refine ⟨p, c, rfl, h1, h2, h3, fun a e i l hl => ?_⟩
  obtain ⟨q, d, hc, hb⟩ := h4 a e i l hl
  exact ⟨q, d, k.cell hc (by simp), hb.kept k⟩
/-- a literal's slices in a block of their own -/
theorem Bss.lit (w : World) (e : TypeId) (vs : List Value) (ls : List (List UInt8)) (hl : vs.length = ls.length) (hm : ls.length ≤ maxLen) (hB : ∀ (i : Nat) v l, vs[i]? = some v → ls[i]? = some l → Bs w v l) (H : Nat) (hH : w.heap.size = H) :
    Bss (w.alloc (.cells vs.toArray e)) (.slice (some ⟨H, 0, none⟩) ls.length ls.length) ls := by
  subst hH
  refine ⟨_, ls.length, rfl, Nat.le_refl _, hm, fun e => (by cases e), fun a ha i l hi => ?_⟩
  cases ha
  have hv : i < vs.length := by rw [hl]; exact (List.getElem?_eq_some_iff.1 hi).1
  have hb := hB i vs[i] l (List.getElem?_eq_getElem hv) hi
  obtain ⟨q, d, hq, -⟩ := id hb
  refine ⟨q, d, ?_, ?_⟩
  · have := World.news_of_block (heap_alloc_new w (.cells vs.toArray e)) i vs[i] (by simp)
    rw [← hq]
    exact this
  · rw [← hq]
    exact hb.kept ((Kept.refl [] w).alloc _)
/-- the rows one behind the other -/
def flat (ls : List (List UInt8)) : List UInt8 := ls.flatten
theorem flat_nil : flat [] = [] := rfl
theorem flat_take (ls : List (List UInt8)) (k : Nat) (l : List UInt8) (h : ls[k]? = some l) : flat (ls.take (k + 1)) = flat (ls.take k) ++ l := by
  obtain ⟨hk, rfl⟩ := List.getElem?_eq_some_iff.1 h
  unfold flat
  rw [List.take_succ_eq_append_getElem hk, List.flatten_append]
  simp
theorem flat_le (ls : List (List UInt8)) (k : Nat) : (flat (ls.take k)).length ≤ (flat ls).length := by
  unfold flat
  have : ls.flatten = (ls.take k).flatten ++ (ls.drop k).flatten := by rw [← List.flatten_append, List.take_append_drop]
  rw [this, List.length_append]; omega

theorem own_shape2 {w : World} {base e size : Nat} {v : Value} {n : Nat} {xs : List Value} (h : w.ownsRow base e size v n xs) : ∃ p c, v = .slice p n c := by
  rcases h.2 with ⟨rfl, rfl⟩ | ⟨g, cap, cur, rfl, _⟩
  · exact ⟨_, _, rfl⟩
  · exact ⟨_, _, rfl⟩
theorem Bss.lit1 (w : World) (e : TypeId) (a : Value) (la : List UInt8) (ha : Bs w a la) (H : Nat) (hH : w.heap.size = H) : Bss (w.alloc (.cells #[a] e)) (.slice (some ⟨H, 0, none⟩) 1 1) [la] :=
  Bss.lit w e [a] [la] rfl (by simp [maxLen]) (by
    intro i v l h1 h2
    match i, h1, h2 with
    | 0, h1, h2 => simp at h1 h2; subst h1; subst h2; exact ha
    | i + 1, h1, h2 => simp at h1) H hH
theorem Bss.lit2 (w : World) (e : TypeId) (a b : Value) (la lb : List UInt8) (ha : Bs w a la) (hb : Bs w b lb) (H : Nat) (hH : w.heap.size = H) : Bss (w.alloc (.cells #[a, b] e)) (.slice (some ⟨H, 0, none⟩) 2 2) [la, lb] :=
  Bss.lit w e [a, b] [la, lb] rfl (by simp [maxLen]) (by
    intro i v l h1 h2
    match i, h1, h2 with
    | 0, h1, h2 => simp at h1 h2; subst h1; subst h2; exact ha
    | 1, h1, h2 => simp at h1 h2; subst h1; subst h2; exact hb
    | i + 2, h1, h2 => simp at h1) H hH
theorem Bss.lit3 (w : World) (e : TypeId) (a b c : Value) (la lb lc : List UInt8) (ha : Bs w a la) (hb : Bs w b lb) (hc : Bs w c lc) (H : Nat) (hH : w.heap.size = H) : Bss (w.alloc (.cells #[a, b, c] e)) (.slice (some ⟨H, 0, none⟩) 3 3) [la, lb, lc] :=
  Bss.lit w e [a, b, c] [la, lb, lc] rfl (by simp [maxLen]) (by
    intro i v l h1 h2
    match i, h1, h2 with
    | 0, h1, h2 => simp at h1 h2; subst h1; subst h2; exact ha
    | 1, h1, h2 => simp at h1 h2; subst h1; subst h2; exact hb
    | 2, h1, h2 => simp at h1 h2; subst h1; subst h2; exact hc
    | i + 3, h1, h2 => simp at h1) H hH
/-- rows made behind a literal's block -/
theorem own_late {w w' : World} {o : Obj} {e n : Nat} {v : Value} {xs : List Value} (h : w'.ownsRow (w.alloc o).heap.size e 1 v n xs) : w'.ownsRow w.heap.size e 1 v n xs := by
  refine ⟨h.1, ?_⟩
  rcases h.2 with h1 | ⟨g, cap, cur, h1, h2, h3⟩
  · exact .inl h1
  · exact .inr ⟨g, cap, cur, h1, Nat.le_trans (by simp) h2, h3⟩

end Go.Proofs.Ytinlhojojeabcaa

/-
  OWN WORK. What a reading of an argument says in the words of 'Bs' and 'Bss', and what the bound gives of it.
-/
namespace Go.Proofs.Ytinlhojojeabcaa
open Go.ChangeShapes Go.WideShapes Go.ChangeAt Go.RowKit Go.Deep
set_option linter.unusedVariables false

theorem own : ownKnob Try.prog.godebug = none := by kernel_rfl
theorem laidOut : laidOutB Try.prog = true := by kernel_rfl

theorem bulk_one {H : Type} (d : DataW H) : 1 ≤ Rows.uptoBulk d := by
  cases d with
  | lit l => cases l <;> simp [Rows.uptoBulk]
  | nil => simp [Rows.uptoBulk]
  | ptr d => simp [Rows.uptoBulk]
  | slice elems spare => simp [Rows.uptoBulk]
  | agg parts => simp [Rows.uptoBulk]
  | iface t d => simp [Rows.uptoBulk]
  | map entries => simp [Rows.uptoBulk]
  | held h => simp [Rows.uptoBulk]
theorem bulk_length {H : Type} (l : List (DataW H)) : l.length ≤ Rows.uptoBulkAll l := by
  induction l with
  | nil => simp [Rows.uptoBulkAll]
  | cons x r ih => have := bulk_one x; simp only [Rows.uptoBulkAll, List.length_cons]; omega
theorem bulk_append {H : Type} (l r : List (DataW H)) : Rows.uptoBulkAll (l ++ r) = Rows.uptoBulkAll l + Rows.uptoBulkAll r := by
  induction l with
  | nil => simp [Rows.uptoBulkAll]
  | cons x l ih => simp only [List.cons_append, Rows.uptoBulkAll, ih]; omega

/-- the bytes that these numbers are -/
def bytesOfInts (zs : List Int) : List UInt8 := zs.map fun n => UInt8.ofNat n.toNat
theorem bytes_length (zs : List Int) : (bytesOfInts zs).length = zs.length := by simp [bytesOfInts]
theorem byte_wf {n : Int} (h : (Lit.int .u8 n).wf = true) : ((UInt8.ofNat n.toNat).toNat : Int) = n := by
  have hx : 0 ≤ n ∧ n ≤ 255 := by simpa [Lit.wf, IntKind.min, IntKind.max, IntKind.signed, IntKind.bits] using h
  rw [UInt8.toNat_ofNat']
  omega
theorem bs_cells {w : World} {ao : Option Addr} {len cap : Nat} {zs : List Int} (hl : len ≤ cap) (hm : cap ≤ maxLen) (hz : zs.length = cap) (hn : ao = none → cap = 0)
    (hc : ∀ a, ao = some a → ∀ i, i < cap → w.cell? (a.add i) = some (.int .u8 (zs.getD i 0))) (hw : ∀ n ∈ zs, (Lit.int .u8 n).wf = true) : Bs w (.slice ao len cap) (bytesOfInts (zs.take len)) := by
  have hlen : (bytesOfInts (zs.take len)).length = len := by rw [bytes_length, List.length_take]; omega
  refine ⟨ao, cap, by rw [hlen], by omega, hm, hn, fun a ha i x hx => ?_⟩
  have hi : i < len := by rw [← hlen]; exact (List.getElem?_eq_some_iff.1 hx).1
  rw [hc a ha i (by omega)]
  have e : x = UInt8.ofNat (zs.getD i 0).toNat := by
    simp only [bytesOfInts, List.getElem?_map, List.getElem?_take, hi, if_true] at hx
    obtain ⟨y, hy, rfl⟩ := Option.map_eq_some_iff.1 hx
    simp [List.getD, hy]
  rw [e, byte_wf (hw _ ?_)]
  rw [List.getD, List.getElem?_eq_getElem (by omega)]
  exact List.getElem_mem _

theorem bs_open {H : Type} {enc : TypeId × Value → H} {W : World} {t e : TypeId} {ao : Option Addr} {len cap : Nat} {d : DataW H} {p : List MemPlace} (ht : Try.prog.underlying t = some (.slice e)) (he : Try.prog.underlying e = some (.int .u8)) (hc : Try.prog.cellsOf e = 1)
    (h : DataW.Trod enc Try.prog W 0 (fun _ => true) true t (.slice ao len cap) d p) : ∃ l : List UInt8, l.length = len ∧ Bs W (.slice ao len cap) l ∧ l.length + 1 ≤ Rows.uptoBulk d ∧ (d = .nil ∧ len = 0 ∨ ∃ el sp, d = .slice el sp ∧ el.length = len) := by
  obtain ⟨fuel, hf⟩ := h
  rcases open_ints ht he hc hf with ⟨hcs, hx⟩ | ⟨x, n, c, zs, hcs, _, hl, hm, hz, hx, hcell, hwz⟩
  · simp [Value.cells] at hcs
    obtain ⟨rfl, rfl, rfl⟩ := hcs
    obtain ⟨rfl, rfl⟩ := Prod.mk.inj hx
    exact ⟨[], rfl, Bs.nil W, by simp [Rows.uptoBulk], .inl ⟨rfl, rfl⟩⟩
  · simp [Value.cells] at hcs
    obtain ⟨rfl, rfl, rfl⟩ := hcs
    obtain ⟨rfl, rfl⟩ := Prod.mk.inj hx
    have hz' : zs.length = cap := by simpa using hz
    have hlen : (bytesOfInts (zs.take len)).length = len := by rw [bytes_length, List.length_take]; omega
    refine ⟨bytesOfInts (zs.take len), hlen, bs_cells hl hm hz' (fun e => by cases e) (fun a ha i hi => by cases ha; exact hcell i (by omega)) hwz, ?_, .inr ⟨_, _, rfl, by simp [lits]; omega⟩⟩
    rw [hlen]
    have h1 := bulk_length (lits (H := H) .u8 (zs.take len))
    simp only [Rows.uptoBulk]
    simp only [lits, List.length_map, List.length_take] at h1 ⊢
    omega

/-- the form's own reach, of a slice of bytes -/
theorem sized_len {H : Type} {ts : List TypeId} {ds : List (DataW H)} {j : Nat} {t e : TypeId} {d : DataW H} {len : Nat} (hsz : (DataW.weightsEach Try.prog ts ds).all (· ≤ reachBytes) = true) (ht : ts[j]? = some t) (hd : ds[j]? = some d)
    (hu : Try.prog.underlying t = some (.slice e)) (hb : Try.prog.bytesOf e = 1) (h : d = .nil ∧ len = 0 ∨ ∃ el sp, d = .slice el sp ∧ el.length = len) : len ≤ 140737488351232 := by
  rcases h with ⟨_, rfl⟩ | ⟨el, sp, rfl, rfl⟩
  · omega
  · have := sized_slice hsz ht hd hu
    rw [hb] at this
    simp only [reachBytes] at this
    omega

theorem bss_open {H : Type} {enc : TypeId × Value → H} {W : World} {t e q : TypeId} {ao : Option Addr} {len cap : Nat} {d : DataW H} {p : List MemPlace} (ht : Try.prog.underlying t = some (.slice e)) (he : Try.prog.underlying e = some (.slice q)) (hq : Try.prog.underlying q = some (.int .u8))
    (ce : Try.prog.cellsOf e = 1) (cq : Try.prog.cellsOf q = 1) (h : DataW.Trod enc Try.prog W 0 (fun _ => true) true t (.slice ao len cap) d p) : ∃ ls : List (List UInt8), Bss W (.slice ao len cap) ls ∧ (flat ls).length + ls.length + 1 ≤ Rows.uptoBulk d := by
  obtain ⟨fuel, hf⟩ := h
  rcases open_int_rows ht he hq ce cq hf with ⟨hcs, hx⟩ | ⟨a, n, c, A, L, C, Z, hcs, _, hl, hm, hx, hr⟩
  · simp [Value.cells] at hcs
    obtain ⟨rfl, rfl, rfl⟩ := hcs
    obtain ⟨rfl, rfl⟩ := Prod.mk.inj hx
    exact ⟨[], ⟨none, 0, rfl, Nat.le_refl _, by simp [maxLen], fun _ => rfl, fun a e => (by cases e)⟩, by simp [Rows.uptoBulk, flat]⟩
  · simp [Value.cells] at hcs
    obtain ⟨rfl, rfl, rfl⟩ := hcs
    obtain ⟨rfl, rfl⟩ := Prod.mk.inj hx
    have hlr : ∀ r, r < cap → (bytesOfInts ((Z r).take (L r))).length = L r := fun r h => by
      obtain ⟨_, h1, _, h3, _⟩ := hr r h
      rw [bytes_length, List.length_take]; omega
    refine ⟨(List.range len).map fun r => bytesOfInts ((Z r).take (L r)), ⟨some a, cap, by simp, by simpa using hl, hm, fun e => (by cases e), fun a' e i l hi => ?_⟩, ?_⟩
    · cases e
      simp only [List.getElem?_map] at hi
      obtain ⟨r, hr1, rfl⟩ := Option.map_eq_some_iff.1 hi
      obtain ⟨hr2, rfl⟩ := List.getElem?_eq_some_iff.1 hr1
      have hr3 : i < len := by simpa using hr2
      simp only [List.getElem_range]
      obtain ⟨k1, k2, k3, k4, k5, k6, k7⟩ := hr i (by omega)
      rw [hlr i (by omega)]
      exact ⟨A i, C i, k1, bs_cells k2 k3 k4 k6 (fun a' ha j hj => (k7 a' ha).2 j hj) k5⟩
    · have key : ∀ (m : Nat), m ≤ len → (flat ((List.range m).map fun r => bytesOfInts ((Z r).take (L r)))).length + m ≤ Rows.uptoBulkAll ((List.range m).map fun r => intRow (H := H) .u8 (A r) (L r) (Z r)) := by
        intro m
        induction m with
        | zero => intro _; simp [flat, Rows.uptoBulkAll]
        | succ m ih =>
          intro hm'
          have := ih (by omega)
          rw [List.range_succ, List.map_append, List.map_append, bulk_append]
          have e1 : (flat (((List.range m).map fun r => bytesOfInts ((Z r).take (L r))) ++ [m].map fun r => bytesOfInts ((Z r).take (L r)))).length = (flat ((List.range m).map fun r => bytesOfInts ((Z r).take (L r)))).length + L m := by
            unfold flat
            rw [List.flatten_append, List.length_append]
            simp only [List.map_cons, List.map_nil, List.flatten_cons, List.flatten_nil, List.append_nil]
            rw [hlr m (by omega)]
          rw [e1]
          have e2 : L m + 1 ≤ Rows.uptoBulkAll ([m].map fun r => intRow (H := H) .u8 (A r) (L r) (Z r)) := by
            obtain ⟨k1, k2, k3, k4, k5, k6, k7⟩ := hr m (by omega)
            simp only [List.map_cons, List.map_nil, Rows.uptoBulkAll]
            cases ha : A m with
            | none => have := k6 ha; simp [intRow, Rows.uptoBulk]; omega
            | some y =>
              have h1 := bulk_length (lits (H := H) .u8 ((Z m).take (L m)))
              simp only [intRow, Rows.uptoBulk]
              simp only [lits, List.length_map, List.length_take] at h1 ⊢
              omega
          omega
      have := key len (Nat.le_refl _)
      simp only [Rows.uptoBulk, List.length_map, List.length_range]
      omega
end Go.Proofs.Ytinlhojojeabcaa

/-
  OWN WORK. Locks (layer 15) in plain words: of each of sixteen pages its birth (0: none).
-/
namespace Go.Proofs.Ytinlhojojeabcaa
set_option linter.unusedVariables false

def isP (p : Int) : Prop := 0 ≤ p ∧ p < 16
instance (p : Int) : Decidable (isP p) := inferInstanceAs (Decidable (0 ≤ p ∧ p < 16))
/-- who holds it -/
def whoL (hs : List Int) (p : Int) : Int := if isP p then hs.getD p.toNat 0 else 0
def isBirth (b : Int) : Prop := 1 ≤ b ∧ b ≤ 1152921504606846976
instance (b : Int) : Decidable (isBirth b) := inferInstanceAs (Decidable (1 ≤ b ∧ b ≤ 1152921504606846976))
def takeE (hs : List Int) (p b : Int) : Int := if ¬ isP p then 61 else if ¬ isBirth b then 30 else if whoL hs p ≠ 0 ∧ whoL hs p ≠ b then 150 else 0
def takeH (hs : List Int) (p b : Int) : List Int := if takeE hs p b = 0 then hs.set p.toNat b else hs
def giveB (hs : List Int) (p : Int) : Bool := decide (whoL hs p ≠ 0)
def giveH (hs : List Int) (p : Int) : List Int := if whoL hs p ≠ 0 then hs.set p.toNat 0 else hs
/-- the pages of b among the first n -/
def heldN (hs : List Int) (b : Int) : Nat → List Int
  | 0 => []
  | n + 1 => if b ≠ 0 ∧ hs.getD n 0 = b then heldN hs b n ++ [(n : Int)] else heldN hs b n
def heldL (hs : List Int) (b : Int) : List Int := heldN hs b 16
def dropH (hs : List Int) (b : Int) : List Int := hs.map fun x => if x = b then 0 else x
/-- sixteen pages, each free or held by a birth -/
structure OkH (hs : List Int) : Prop where
  len : hs.length = 16
  all : ∀ x ∈ hs, x = 0 ∨ isBirth x
theorem okH_new : OkH (List.replicate 16 0) := ⟨by simp, fun x hx => .inl (by simpa using List.eq_of_mem_replicate hx)⟩
theorem OkH.take {hs : List Int} (h : OkH hs) (p b : Int) : OkH (takeH hs p b) := by
  unfold takeH
  split
  · rename_i e
    refine ⟨by rw [List.length_set]; exact h.len, fun x hx => ?_⟩
    rcases List.mem_or_eq_of_mem_set hx with q | q
    · exact h.all x q
    · subst q
      refine .inr ?_
      unfold takeE at e
      split at e
      · exact absurd e (by decide)
      · split at e
        · exact absurd e (by decide)
        · rename_i q; exact Decidable.not_not.1 q
  · exact h
theorem OkH.give {hs : List Int} (h : OkH hs) (p : Int) : OkH (giveH hs p) := by
  unfold giveH
  split
  · refine ⟨by rw [List.length_set]; exact h.len, fun x hx => ?_⟩
    rcases List.mem_or_eq_of_mem_set hx with q | q
    · exact h.all x q
    · exact .inl q
  · exact h
theorem OkH.drop {hs : List Int} (h : OkH hs) (b : Int) : OkH (dropH hs b) := by
  refine ⟨by rw [dropH, List.length_map]; exact h.len, fun x hx => ?_⟩
  obtain ⟨y, hy, rfl⟩ := List.mem_map.1 hx
  split
  · exact .inl rfl
  · exact h.all y hy
theorem heldN_length (hs : List Int) (b : Int) : ∀ n, (heldN hs b n).length ≤ n
  | 0 => by simp [heldN]
  | n + 1 => by
    have := heldN_length hs b n
    unfold heldN
    split
    · simp; omega
    · omega
theorem heldN_mem (hs : List Int) (b : Int) : ∀ n x, x ∈ heldN hs b n ↔ ∃ k : Nat, k < n ∧ x = (k : Int) ∧ b ≠ 0 ∧ hs.getD k 0 = b
  | 0, x => by simp [heldN]
  | n + 1, x => by
    have ih := heldN_mem hs b n x
    unfold heldN
    split
    · rename_i q
      rw [List.mem_append, ih]
      constructor
      · rintro (⟨k, h1, h2⟩ | h)
        · exact ⟨k, by omega, h2⟩
        · exact ⟨n, by omega, by simpa using h, q⟩
      · rintro ⟨k, h1, rfl, h3⟩
        by_cases e : k = n
        · subst e; exact .inr (by simp)
        · exact .inl ⟨k, by omega, rfl, h3⟩
    · rename_i q
      rw [ih]
      constructor
      · rintro ⟨k, h1, h2⟩; exact ⟨k, by omega, h2⟩
      · rintro ⟨k, h1, h2, h3⟩
        by_cases e : k = n
        · subst e; exact absurd h3 q
        · exact ⟨k, by omega, h2, h3⟩
/-- the first j of those that are let go -/
def goneTo (hs : List Int) (l : List Int) : Nat → List Int
  | 0 => hs
  | j + 1 => (goneTo hs l j).set (l.getD j 0).toNat 0
theorem goneTo_length (hs l : List Int) : ∀ j, (goneTo hs l j).length = hs.length
  | 0 => rfl
  | j + 1 => by rw [goneTo, List.length_set]; exact goneTo_length hs l j
theorem goneTo_get (hs l : List Int) (k : Nat) : ∀ j, j ≤ l.length → (goneTo hs l j).getD k 0 = if (∃ i, i < j ∧ (l.getD i 0).toNat = k) then 0 else hs.getD k 0
  | 0, _ => by simp [goneTo]
  | j + 1, hj => by
    have ih := goneTo_get hs l k j (by omega)
    rw [goneTo, List.getD_eq_getElem?_getD, List.getElem?_set]
    by_cases e : (l.getD j 0).toNat = k
    · have hx : ∃ i, i < j + 1 ∧ (l.getD i 0).toNat = k := ⟨j, by omega, e⟩
      rw [if_pos e, if_pos hx]
      split <;> simp
    · rw [if_neg e, ← List.getD_eq_getElem?_getD, ih]
      have : (∃ i, i < j + 1 ∧ (l.getD i 0).toNat = k) ↔ (∃ i, i < j ∧ (l.getD i 0).toNat = k) := by
        constructor
        · rintro ⟨i, h1, h2⟩
          by_cases c : i = j
          · subst c; exact absurd h2 e
          · exact ⟨i, by omega, h2⟩
        · rintro ⟨i, h1, h2⟩; exact ⟨i, by omega, h2⟩
      simp only [this]
theorem goneTo_all {hs : List Int} (h : hs.length = 16) (b : Int) : goneTo hs (heldL hs b) (heldL hs b).length = dropH hs b := by
  apply List.ext_getElem (by rw [goneTo_length, dropH, List.length_map])
  intro k h1 h2
  have q := goneTo_get hs (heldL hs b) k _ (Nat.le_refl _)
  rw [goneTo_length] at h1
  have e1 : (goneTo hs (heldL hs b) (heldL hs b).length)[k] = (goneTo hs (heldL hs b) (heldL hs b).length).getD k 0 := by rw [List.getD_eq_getElem?_getD, List.getElem?_eq_getElem (by rw [goneTo_length]; exact h1)]; rfl
  have e2 : hs.getD k 0 = hs[k] := by rw [List.getD_eq_getElem?_getD, List.getElem?_eq_getElem h1]; rfl
  rw [e1, q]
  simp only [dropH, List.getElem_map]
  rw [← e2]
  by_cases c : hs.getD k 0 = b
  · rw [if_pos c]
    by_cases hb : b = 0
    · rw [c, hb]; simp
    · have hm : (k : Int) ∈ heldL hs b := (heldN_mem hs b 16 k).2 ⟨k, by omega, rfl, hb, c⟩
      obtain ⟨i, hi, e⟩ := List.getElem_of_mem hm
      rw [if_pos ⟨i, hi, by rw [List.getD_eq_getElem?_getD, List.getElem?_eq_getElem hi, e]; simp⟩]
  · rw [if_neg c, if_neg]
    rintro ⟨i, hi, e⟩
    have hm : (heldL hs b)[i] ∈ heldN hs b 16 := List.getElem_mem hi
    obtain ⟨m, h3, h4, h5, h6⟩ := (heldN_mem hs b 16 _).1 hm
    rw [List.getD_eq_getElem?_getD, List.getElem?_eq_getElem hi] at e
    simp only [Option.getD_some] at e
    rw [h4] at e
    simp at e
    subst e
    exact c h6
theorem isP_nat {p : Int} (h : isP p) : ∃ k : Nat, k < 16 ∧ p = (k : Int) := ⟨p.toNat, by have := h.1; have := h.2; omega, by have := h.1; omega⟩
theorem isP_of {k : Nat} (h : k < 16) : isP (k : Int) := ⟨by omega, by omega⟩
theorem whoL_nat (hs : List Int) {k : Nat} (h : k < 16) : whoL hs (k : Int) = hs.getD k 0 := by unfold whoL; rw [if_pos (isP_of h)]; rfl
theorem whoL_out (hs : List Int) {p : Int} (h : ¬ isP p) : whoL hs p = 0 := if_neg h
theorem take_place (hs : List Int) {p : Int} (b : Int) (h : ¬ isP p) : takeE hs p b = 61 ∧ takeH hs p b = hs := by
  have e : takeE hs p b = 61 := if_pos h
  exact ⟨e, by unfold takeH; rw [e]; rfl⟩
theorem take_range (hs : List Int) {p b : Int} (h : isP p) (hb : ¬ isBirth b) : takeE hs p b = 30 ∧ takeH hs p b = hs := by
  have e : takeE hs p b = 30 := by unfold takeE; rw [if_neg (by simpa using h), if_pos hb]
  exact ⟨e, by unfold takeH; rw [e]; rfl⟩
theorem take_busy (hs : List Int) {k : Nat} {b : Int} (h : k < 16) (hb : isBirth b) (h1 : hs.getD k 0 ≠ 0) (h2 : hs.getD k 0 ≠ b) : takeE hs (k : Int) b = 150 ∧ takeH hs (k : Int) b = hs := by
  have e : takeE hs (k : Int) b = 150 := by unfold takeE; rw [if_neg (by simpa using isP_of h), if_neg (by simpa using hb), whoL_nat hs h, if_pos ⟨h1, h2⟩]
  exact ⟨e, by unfold takeH; rw [e]; rfl⟩
theorem take_ok (hs : List Int) {k : Nat} {b : Int} (h : k < 16) (hb : isBirth b) (h1 : hs.getD k 0 = 0 ∨ hs.getD k 0 = b) : takeE hs (k : Int) b = 0 ∧ takeH hs (k : Int) b = hs.set k b := by
  have e : takeE hs (k : Int) b = 0 := by
    unfold takeE
    rw [if_neg (by simpa using isP_of h), if_neg (by simpa using hb), whoL_nat hs h, if_neg]
    rintro ⟨c1, c2⟩
    rcases h1 with q | q
    · exact c1 q
    · exact c2 q
  exact ⟨e, by unfold takeH; rw [e]; rfl⟩
theorem give_no (hs : List Int) {p : Int} (h : whoL hs p = 0) : giveB hs p = false ∧ giveH hs p = hs := ⟨by simp [giveB, h], by simp [giveH, h]⟩
theorem give_yes (hs : List Int) {k : Nat} (h : k < 16) (h1 : hs.getD k 0 ≠ 0) : giveB hs (k : Int) = true ∧ giveH hs (k : Int) = hs.set k 0 := by
  have e : whoL hs (k : Int) ≠ 0 := by rw [whoL_nat hs h]; exact h1
  exact ⟨by simp [giveB, e], by simp [giveH, e]⟩
end Go.Proofs.Ytinlhojojeabcaa

/-
  OWN WORK. Plain arithmetic: numbers as bytes, the lowest first.
-/
namespace Go.Proofs.Ytinlhojojeabcaa
set_option linter.unusedVariables false

/-- the number that these bytes are -/
def low : List UInt8 → Nat
  | [] => 0
  | x :: r => x.toNat + 256 * low r
/-- n bytes of a number, the lowest first -/
def lay (n v : Nat) : List UInt8 := (List.range n).map fun i => UInt8.ofNat (v / 256 ^ i)

theorem low_lt (l : List UInt8) : low l < 256 ^ l.length := by
  induction l with
  | nil => simp [low]
  | cons x r ih =>
    have := x.toNat_lt
    simp only [low, List.length_cons, Nat.pow_succ]
    omega
theorem low_append (a b : List UInt8) : low (a ++ b) = low a + 256 ^ a.length * low b := by
  induction a with
  | nil => simp [low]
  | cons x r ih =>
    simp only [List.cons_append, low, ih, List.length_cons, Nat.pow_succ, Nat.mul_add]
    rw [Nat.mul_comm (256 ^ r.length) 256, Nat.mul_assoc]
    omega
theorem low_take (l : List UInt8) (k : Nat) (h : k < l.length) : low (l.take (k + 1)) = low (l.take k) + l[k].toNat * 256 ^ k := by
  rw [List.take_succ_eq_append_getElem h, low_append]
  have : (l.take k).length = k := by simp; omega
  rw [this]
  simp [low, Nat.mul_comm]
theorem low_take_lt (l : List UInt8) (k : Nat) (h : k ≤ l.length) : low (l.take k) < 256 ^ k := by
  have := low_lt (l.take k)
  rwa [show (l.take k).length = k by simp; omega] at this
theorem pow256 (k : Nat) : 256 ^ k = 2 ^ (8 * k) := by rw [Nat.pow_mul]
theorem low_lt64 (l : List UInt8) (h : l.length ≤ 8) : low l < 18446744073709551616 := by
  have h1 := low_lt l
  have h2 : 256 ^ l.length ≤ 256 ^ 8 := Nat.pow_le_pow_right (by omega) h
  have h3 : 256 ^ 8 = 18446744073709551616 := by decide
  omega

theorem bits_or_u64_nat (a b : Nat) (ha : a < 18446744073709551616) (hb : b < 18446744073709551616) :
    bits .or .u64 (a : Int) (b : Int) = ((a ||| b : Nat) : Int) := by
  have hx : a ||| b < 2 ^ 64 := Nat.or_lt_two_pow (by omega) (by omega)
  have h1 : (BitVec.ofInt 64 (a : Int)).toNat = a := by
    rw [BitVec.ofInt_natCast, BitVec.toNat_ofNat]; exact Nat.mod_eq_of_lt (by omega)
  have h2 : (BitVec.ofInt 64 (b : Int)).toNat = b := by
    rw [BitVec.ofInt_natCast, BitVec.toNat_ofNat]; exact Nat.mod_eq_of_lt (by omega)
  show IntKind.u64.wrap ((BitVec.ofInt 64 (a : Int) ||| BitVec.ofInt 64 (b : Int)).toNat : Int) = _
  rw [BitVec.toNat_or, h1, h2, IntKind.wrap_u64]
  omega
theorem bits_and_u64_nat (a b : Nat) (ha : a < 18446744073709551616) (hb : b < 18446744073709551616) :
    bits .and .u64 (a : Int) (b : Int) = ((a &&& b : Nat) : Int) := by
  have hx : a &&& b < 2 ^ 64 := Nat.and_lt_two_pow _ (by omega)
  have h1 : (BitVec.ofInt 64 (a : Int)).toNat = a := by
    rw [BitVec.ofInt_natCast, BitVec.toNat_ofNat]; exact Nat.mod_eq_of_lt (by omega)
  have h2 : (BitVec.ofInt 64 (b : Int)).toNat = b := by
    rw [BitVec.ofInt_natCast, BitVec.toNat_ofNat]; exact Nat.mod_eq_of_lt (by omega)
  show IntKind.u64.wrap ((BitVec.ofInt 64 (a : Int) &&& BitVec.ofInt 64 (b : Int)).toNat : Int) = _
  rw [BitVec.toNat_and, h1, h2, IntKind.wrap_u64]
  omega

/-- one byte more, from above: 'v |= uint64(x) << (8 * i)' -/
theorem or_byte (a k : Nat) (x : UInt8) (h : a < 256 ^ k) (hk : k < 8) :
    bits .or .u64 (a : Int) (IntKind.u64.wrap (IntKind.u64.wrap (x.toNat : Int) * 2 ^ (8 * k))) = ((a + x.toNat * 256 ^ k : Nat) : Int) := by
  have hx := x.toNat_lt
  have h1 : IntKind.u64.wrap (x.toNat : Int) = (x.toNat : Int) := by rw [IntKind.wrap_u64]; omega
  have hp : 256 ^ (k + 1) ≤ 256 ^ 8 := Nat.pow_le_pow_right (by omega) (by omega)
  have h8 : 256 ^ 8 = 18446744073709551616 := by decide
  have hpk : 0 < 256 ^ k := Nat.pow_pos (by omega)
  have hm : x.toNat * 256 ^ k ≤ 255 * 256 ^ k := Nat.mul_le_mul_right _ (by omega)
  have hs : 256 ^ (k + 1) = 256 ^ k * 256 := Nat.pow_succ ..
  have h2 : IntKind.u64.wrap ((x.toNat : Int) * 2 ^ (8 * k)) = ((x.toNat * 256 ^ k : Nat) : Int) := by
    have e : ((x.toNat : Int) * 2 ^ (8 * k)) = ((x.toNat * 256 ^ k : Nat) : Int) := by rw [pow256]; simp
    rw [e, IntKind.wrap_u64]
    omega
  rw [h1, h2, bits_or_u64_nat _ _ (by omega) (by omega)]
  have := Nat.two_pow_add_eq_or_of_lt (i := 8 * k) (b := a) (by rw [← pow256]; exact h) x.toNat
  rw [Nat.or_comm, Nat.mul_comm, pow256, ← this, Nat.add_comm]
theorem low_or (l : List UInt8) (k : Nat) (h : k < l.length) (h8 : l.length ≤ 8) :
    bits .or .u64 (low (l.take k) : Int) (IntKind.u64.wrap (IntKind.u64.wrap (l[k].toNat : Int) * 2 ^ (8 * k))) = (low (l.take (k + 1)) : Int) := by
  rw [or_byte _ _ _ (low_take_lt l k (by omega)) (by omega), low_take l k h]

theorem lay_length (n v : Nat) : (lay n v).length = n := by simp [lay]
theorem lay_succ (n v : Nat) : lay (n + 1) v = lay n v ++ [UInt8.ofNat (v / 256 ^ n)] := by simp [lay, List.range_succ]
theorem lay_zero (v : Nat) : lay 0 v = [] := rfl
theorem low_lay (n v : Nat) : low (lay n v) = v % 256 ^ n := by
  induction n with
  | zero => simp [lay, low, Nat.mod_one]
  | succ n ih =>
    rw [lay_succ, low_append, ih, lay_length]
    simp only [low, Nat.mul_zero, Nat.add_zero, UInt8.toNat_ofNat']
    have e : v % 256 ^ (n + 1) = v % 256 ^ n + 256 ^ n * (v / 256 ^ n % 256) := by rw [Nat.pow_succ, Nat.mod_mul]
    rw [e]
theorem lay_cons (n v : Nat) : lay (n + 1) v = UInt8.ofNat v :: lay n (v / 256) := by
  simp only [lay, List.range_succ_eq_map, List.map_cons, List.map_map]
  simp only [Nat.pow_zero, Nat.div_one]
  congr 1
  apply List.map_congr_left
  intro i _
  simp only [Function.comp]
  rw [Nat.div_div_eq_div_mul, Nat.pow_succ, Nat.mul_comm]
theorem byte_of (x k : Nat) : (x : Int) / 2 ^ (8 * k) % 256 = ((UInt8.ofNat (x / 256 ^ k)).toNat : Int) := by
  rw [UInt8.toNat_ofNat', pow256]
  have : ((2 : Int) ^ (8 * k)) = ((2 ^ (8 * k) : Nat) : Int) := by simp
  rw [this]
  generalize 2 ^ (8 * k) = m
  rw [← Int.natCast_ediv]
  show ((x / m : Nat) : Int) % ((256 : Nat) : Int) = _
  rw [← Int.natCast_emod]
theorem wrap_u8 {x : Nat} (h : x < 256 ^ 1) : IntKind.u8.wrap (x : Int) = (x : Int) := by
  simp only [IntKind.wrap, IntKind.bits, IntKind.signed]
  have : 256 ^ 1 = 256 := by decide
  simp
  omega
theorem wrap_u16 {x : Nat} (h : x < 256 ^ 2) : IntKind.u16.wrap (x : Int) = (x : Int) := by
  simp only [IntKind.wrap, IntKind.bits, IntKind.signed]
  have : 256 ^ 2 = 65536 := by decide
  simp
  omega
theorem wrap_u32 {x : Nat} (h : x < 256 ^ 4) : IntKind.u32.wrap (x : Int) = (x : Int) := by
  simp only [IntKind.wrap, IntKind.bits, IntKind.signed]
  have : 256 ^ 4 = 4294967296 := by decide
  simp
  omega
theorem byte_mod (z : Nat) : (z : Int) % 256 = ((UInt8.ofNat z).toNat : Int) := by
  rw [UInt8.toNat_ofNat']
  omega
theorem low_drop (l : List UInt8) (j : Nat) (h : j < l.length) : low (l.drop j) = l[j].toNat + 256 * low (l.drop (j + 1)) := by
  rw [List.drop_eq_getElem_cons h, low]
theorem get_step (z : Nat) (x : UInt8) (h : x.toNat + 256 * z < 18446744073709551616) :
    IntKind.u64.wrap (IntKind.u64.wrap ((z : Int) * 256) + IntKind.u64.wrap (x.toNat : Int)) = ((x.toNat + 256 * z : Nat) : Int) := by
  rw [IntKind.wrap_u64, IntKind.wrap_u64, IntKind.wrap_u64]
  omega
theorem div_step (z : Nat) (h : z < 18446744073709551616) : IntKind.u64.wrap ((z : Int) / 256) = ((z / 256 : Nat) : Int) := by
  rw [IntKind.wrap_u64]
  omega
theorem get_bound (l : List UInt8) (n j : Nat) (hl : n ≤ l.length) (hj : j < n) (h8 : n ≤ 8) : low ((l.take n).drop j) = l[j].toNat + 256 * low ((l.take n).drop (j + 1)) ∧ low ((l.take n).drop j) < 18446744073709551616 := by
  have hlen : (l.take n).length = n := by simp; omega
  refine ⟨?_, low_lt64 _ (by simp; omega)⟩
  rw [low_drop _ j (by omega)]
  simp
/-- 'v & (1<<(8*width) - 1)' -/
theorem and_mask (x n : Nat) (hx : x < 18446744073709551616) (h8 : n ≤ 8) : bits .and .u64 (x : Int) ((256 ^ n - 1 : Nat) : Int) = ((x % 256 ^ n : Nat) : Int) := by
  have h2 : 256 ^ n ≤ 256 ^ 8 := Nat.pow_le_pow_right (by omega) h8
  have h3 : 256 ^ 8 = 18446744073709551616 := by decide
  have h4 : 0 < 256 ^ n := Nat.pow_pos (by decide)
  rw [bits_and_u64_nat _ _ hx (by omega), pow256, Nat.and_two_pow_sub_one_eq_mod]
theorem low_lay_lt (n m : Nat) (h : m < 256 ^ n) : low (lay n m) = m := by rw [low_lay, Nat.mod_eq_of_lt h]
theorem low_lay_take (n m : Nat) (h : m < 256 ^ n) : low ((lay n m).take n) = m := by
  rw [List.take_of_length_le (by rw [lay_length]; omega)]
  exact low_lay_lt n m h
theorem take_left {α : Type} (a b : List α) : (a ++ b).take a.length = a := by simp
theorem drop_left {α : Type} (a b : List α) : (a ++ b).drop a.length = b := by simp
end Go.Proofs.Ytinlhojojeabcaa

/-
  OWN WORK. copy into a part of an owned row; a byte list laid over another.
-/
namespace Go.Proofs.Ytinlhojojeabcaa
open Go.RowKit
set_option linter.unusedVariables false

/-- r laid over L from the place off on -/
def over (L : List UInt8) (off : Nat) (r : List UInt8) : List UInt8 := L.take off ++ (r ++ L.drop (off + r.length))
theorem over_length (L : List UInt8) (off : Nat) (r : List UInt8) (h : off + r.length ≤ L.length) : (over L off r).length = L.length := by simp [over]; omega
theorem over_nil (L : List UInt8) (off : Nat) : over L off [] = L := by simp [over]
theorem over_at (L : List UInt8) (off : Nat) (r : List UInt8) (h : off + r.length ≤ L.length) (i : Nat) : (over L off r)[i]? = if off ≤ i ∧ i < off + r.length then r[i - off]? else L[i]? := by
  unfold over
  by_cases h1 : i < off
  · rw [List.getElem?_append_left (by simp; omega), List.getElem?_take, if_pos h1, if_neg (by omega)]
  · rw [List.getElem?_append_right (by simp; omega)]
    have e : (L.take off).length = off := by simp; omega
    rw [e]
    by_cases h2 : i < off + r.length
    · rw [List.getElem?_append_left (by omega), if_pos ⟨by omega, h2⟩]
    · rw [List.getElem?_append_right (by omega), List.getElem?_drop, if_neg (by omega)]
      congr 1; omega
/-- 'copy(out[off:..], b)': out the call's own row; what is cut is at least as long as b. -/
theorem wpList_copy_part {P : Program} {w : World} {ops : Array Oper} {rest : List Oper} {o : Oper} {a : Act} {Q : Exit → Act → World → Prop} (hgd : o.guard = none) (d s : Operand) (t : TypeId)
    (ho : o.op = .call { callee := .builtin .copy, args := #[d, s], argTypes := #[t, t] }) (base : Nat) (e : TypeId) (hu : P.underlying t = some (.slice e))
    (hsz : (P.info? e).map (·.size) = some 1)
    (v : Value) (n : Nat) (L : List UInt8) (hown : w.ownsRow base e 1 v n (u8s L)) (off : Nat) (dp : Option Addr) (dLen dCap : Nat) (hd : a.eval d = .slice dp dLen dCap)
    (hdp : 0 < dLen → ∃ g, v.ownBlock = some g ∧ dp = some ⟨g, off, none⟩) (sv : Value) (r : List UInt8) (hx : a.eval s = sv) (hb : Bs w sv r) (hr : r.length ≤ dLen) (hfit : off + dLen ≤ n)
    (h : ∀ w', w'.ownsRow base e 1 v n (u8s (over L off r)) → w.grownBy w' v.ownBlock → wpList P ops Q rest (a.put o.dst (goInt r.length)) w') : wpList P ops Q (o :: rest) a w := by
  obtain ⟨p, c, rfl, h1, h2, h3, h4⟩ := hb
  by_cases h0 : r.length = 0
  · obtain rfl : r = [] := List.eq_nil_of_length_eq_zero h0
    refine wpList_copy_nothing hgd d s t t ho e hu hsz dp p dLen dCap 0 c hd hx (by simp) ?_
    exact h w (by rw [over_nil]; exact hown) (World.grownBy.refl _ _)
  · obtain ⟨g, hgv, rfl⟩ := hdp (by omega)
    cases p with
    | none => have := h3 rfl; omega
    | some ad =>
      have hn : n = L.length := by have := hown.1; rw [u8s_length] at this; omega
      subst hn
      rcases hown.2 with ⟨rfl, hz⟩ | ⟨g', cap, cur, rfl, hbg, hg, hnc, hcm, hcs, htk⟩
      · simp [Value.ownBlock] at hgv
      · have e1 : g' = g := by simpa [Value.ownBlock] using hgv
        subst e1
        refine wpList_copy_own hgd d s t t ho e hu hsz g' off dLen dCap ad r.length c hd hx cur e hg (u8s r) (by rw [u8s_length]; simp [Nat.min_def]; omega) (fun j u hj => by obtain ⟨y, hy, rfl⟩ := u8s_at hj; exact h4 ad rfl j y hy) (by rw [u8s_length]; omega) (u8s_one r) ?_
        rw [u8s_length]
        have hgl : g' < w.heap.size := (Array.getElem?_eq_some_iff.1 hg).1
        refine h _ ⟨by rw [u8s_length, over_length _ _ _ (by omega)]; omega, .inr ⟨g', cap, _, rfl, hbg, setRow_heap w g' cur _ e (0, 0) hg, hnc, hcm, ?_, ?_⟩⟩ ⟨rfl, rfl, rfl, by simp [World.setRow], fun k hk hne => setRow_other w g' k _ (by intro e2; subst e2; exact hne rfl)⟩
        · simp [u8s_length]; omega
        · simp only [Nat.mul_one] at htk ⊢
          have hT : cur.toList.take L.length = u8s L := htk
          have hsz' : cur.toList.length = cap := by simp [hcs]
          apply List.ext_getElem?
          intro j
          have hcur : ∀ j, j < L.length → cur.toList[j]? = (u8s L)[j]? := fun j hj => by rw [← hT, List.getElem?_take, if_pos hj]
          by_cases hj : j < L.length
          · rw [List.getElem?_take, if_pos hj]
            have e3 : (u8s (over L off r))[j]? = if off ≤ j ∧ j < off + r.length then (u8s r)[j - off]? else (u8s L)[j]? := by
              simp only [u8s, List.getElem?_map, over_at L off r (by omega) j]
              split <;> rfl
            rw [e3]
            by_cases c1 : j < off
            · rw [List.getElem?_append_left (by simp; omega), List.getElem?_take, if_pos c1, if_neg (by omega), hcur j hj]
            · rw [List.getElem?_append_right (by simp; omega)]
              have e4 : (cur.toList.take off).length = off := by simp; omega
              rw [e4]
              by_cases c2 : j < off + r.length
              · rw [List.getElem?_append_left (by rw [u8s_length]; omega), if_pos ⟨by omega, c2⟩]
              · rw [List.getElem?_append_right (by rw [u8s_length]; omega), List.getElem?_drop, if_neg (by omega), u8s_length, ← hcur j hj]
                congr 1; omega
          · rw [List.getElem?_eq_none (by simp; omega), List.getElem?_eq_none (by rw [u8s_length, over_length _ _ _ (by omega)]; omega)]
end Go.Proofs.Ytinlhojojeabcaa

/-
  OWN WORK. Rows of the call's own whose elements have several cells, told by their cells: also a front of one, with no spare.
-/
namespace Go.Proofs.Ytinlhojojeabcaa
open Go.RowKit
set_option linter.unusedVariables false

/-- v: n elements of sz cells each, the cells cs, in a block of the call's own (at base or behind), from its beginning on -/
def Row (w : World) (base sz : Nat) (v : Value) (n : Nat) (cs : List Value) : Prop :=
  cs.length = n * sz ∧ (∀ u ∈ cs, u.oneCell' = true) ∧ ∃ p c, v = .slice p n c ∧ n ≤ c ∧ c ≤ maxLen ∧ ((p = none ∧ c = 0) ∨ ∃ g, p = some ⟨g, 0, none⟩ ∧ base ≤ g ∧ g < w.heap.size ∧
    (∀ (j : Nat) u, cs[j]? = some u → w.cell? ⟨g, j, none⟩ = some u) ∧ ∀ j, j < c * sz → (w.cell? ⟨g, j, none⟩).isSome = true ∧ w.frozen? ⟨g, j, none⟩ = false)
theorem Row.nil (w : World) (base sz : Nat) : Row w base sz (.slice none 0 0) 0 [] := ⟨by simp, by simp, none, 0, rfl, Nat.le_refl _, by simp [maxLen], .inl ⟨rfl, rfl⟩⟩
theorem frozen_of_block {w w' : World} {a : Addr} (h : w'.heap[a.block]? = w.heap[a.block]?) : w'.frozen? a = w.frozen? a := World.frozen?_of_block h
theorem Row.kept {w w' : World} {base sz : Nat} {v : Value} {n : Nat} {cs : List Value} {S : List Nat} (h : Row w base sz v n cs) (k : Kept S w w') (hS : ∀ x, v.ownBlock = some x → x ∉ S) : Row w' base sz v n cs := by
  obtain ⟨h1, h2, p, c, rfl, h3, h4, h5⟩ := h
  refine ⟨h1, h2, p, c, rfl, h3, h4, ?_⟩
  rcases h5 with h5 | ⟨g, rfl, h6, h7, h8, h9⟩
  · exact .inl h5
  · have e := k.block g h7 (hS g rfl)
    exact .inr ⟨g, rfl, h6, Nat.lt_of_lt_of_le h7 k.size, fun j u hj => (World.cell?_of_block (a := ⟨g, j, none⟩) e).trans (h8 j u hj), fun j hj => ⟨by rw [World.cell?_of_block (a := ⟨g, j, none⟩) e]; exact (h9 j hj).1, (frozen_of_block (a := ⟨g, j, none⟩) e).trans (h9 j hj).2⟩⟩
theorem Row.shape {w : World} {base sz : Nat} {v : Value} {n : Nat} {cs : List Value} (h : Row w base sz v n cs) : ∃ p c, v = .slice p n c ∧ n ≤ c ∧ c ≤ maxLen := by
  obtain ⟨-, -, p, c, rfl, h3, h4, -⟩ := h
  exact ⟨p, c, rfl, h3, h4⟩
theorem Row.pos {w : World} {base sz : Nat} {p : Option Addr} {n c : Nat} {cs : List Value} (h : Row w base sz (.slice p n c) n cs) (hn : 0 < n) :
    ∃ g, p = some ⟨g, 0, none⟩ ∧ base ≤ g ∧ g < w.heap.size ∧ (∀ (j : Nat) u, cs[j]? = some u → w.cell? ⟨g, j, none⟩ = some u) ∧ ∀ j, j < c * sz → (w.cell? ⟨g, j, none⟩).isSome = true ∧ w.frozen? ⟨g, j, none⟩ = false := by
  obtain ⟨h1, h2, p', c', e, h3, h4, h5⟩ := h
  cases e
  rcases h5 with ⟨-, h5⟩ | h5
  · omega
  · exact h5
theorem Row.lt {w : World} {base sz : Nat} {v : Value} {n : Nat} {cs : List Value} (h : Row w base sz v n cs) (x : Nat) (hx : v.ownBlock = some x) : base ≤ x ∧ x < w.heap.size := by
  obtain ⟨h1, h2, p, c, rfl, h3, h4, h5⟩ := h
  rcases h5 with ⟨rfl, -⟩ | ⟨g, rfl, h6, h7, -⟩
  · simp [Value.ownBlock] at hx
  · simp [Value.ownBlock] at hx
    subst hx
    exact ⟨h6, h7⟩
theorem Row.mono {w : World} {base base' sz : Nat} {v : Value} {n : Nat} {cs : List Value} (h : Row w base sz v n cs) (hb : base' ≤ base) : Row w base' sz v n cs := by
  obtain ⟨h1, h2, p, c, rfl, h3, h4, h5⟩ := h
  refine ⟨h1, h2, p, c, rfl, h3, h4, ?_⟩
  rcases h5 with h5 | ⟨g, rfl, h6, h7, h8⟩
  · exact .inl h5
  · exact .inr ⟨g, rfl, Nat.le_trans hb h6, h7, h8⟩
/-- a cell of one is set -/
theorem Row.set {w : World} {base sz g n c : Nat} {cs : List Value} (h : Row w base sz (.slice (some ⟨g, 0, none⟩) n c) n cs) (j : Nat) (hj : j < n * sz) (u : Value) (hu : u.oneCell' = true) :
    Row (w.setCell ⟨g, j, none⟩ u) base sz (.slice (some ⟨g, 0, none⟩) n c) n (cs.set j u) ∧ Kept [g] w (w.setCell ⟨g, j, none⟩ u) := by
  have hk : Kept [g] w (w.setCell ⟨g, j, none⟩ u) := (Kept.refl [g] w).setCell (.inl (by simp)) u
  obtain ⟨h1, h2, p', c', e, h3, h4, h5⟩ := h
  cases e
  refine ⟨⟨by rw [List.length_set]; exact h1, fun x hx => ?_, _, _, rfl, h3, h4, ?_⟩, hk⟩
  · rcases List.mem_or_eq_of_mem_set hx with hx | hx
    · exact h2 x hx
    · rw [hx]; exact hu
  · rcases h5 with ⟨h5, -⟩ | ⟨g', e, h6, h7, h8, h9⟩
    · cases h5
    · cases e
      obtain ⟨old, hold⟩ : ∃ old, cs[j]? = some old := ⟨_, List.getElem?_eq_getElem (by omega)⟩
      have hc := h8 j old hold
      refine .inr ⟨g, rfl, h6, Nat.lt_of_lt_of_le h7 hk.size, fun k x hx => ?_, fun k hk' => ⟨?_, by rw [World.frozen?_setCell]; exact (h9 k hk').2⟩⟩
      · rw [List.getElem?_set] at hx
        by_cases e : j = k
        · subst e
          rw [if_pos rfl, if_pos (by omega)] at hx
          cases hx
          exact World.cell?_setCell_same _ _ _ hc
        · rw [if_neg e] at hx
          rw [World.cell?_setCell_other _ _ _ _ (by first | (simp; done) | (simp; omega))]
          exact h8 k x hx
      · by_cases e : j = k
        · subst e
          rw [World.cell?_setCell_same _ _ _ hc]; rfl
        · rw [World.cell?_setCell_other _ _ _ _ (by first | (simp; done) | (simp; omega))]
          exact (h9 k hk').1
/-- a front of one, with no spare -/
theorem Row.front {w : World} {base sz : Nat} {p : Option Addr} {n c : Nat} {cs : List Value} (h : Row w base sz (.slice p n c) n cs) (i : Nat) (hi : i ≤ n) (hn : 0 < n) : Row w base sz (.slice p i i) i (cs.take (i * sz)) := by
  obtain ⟨g, rfl, h6, h7, h8, h9⟩ := h.pos hn
  obtain ⟨h1, h2, p', c', e, h3, h4, h5⟩ := h
  cases e
  have hm : i * sz ≤ n * sz := Nat.mul_le_mul_right _ hi
  have hm2 : i * sz ≤ c * sz := Nat.mul_le_mul_right _ (by omega)
  refine ⟨by rw [List.length_take]; omega, fun u hu => h2 u (List.mem_of_mem_take hu), _, i, rfl, Nat.le_refl _, by omega, .inr ⟨g, rfl, h6, h7, fun j u hj => ?_, fun j hj => h9 j (by omega)⟩⟩
  rw [List.getElem?_take] at hj
  split at hj
  · exact h8 j u hj
  · cases hj
theorem kept_setCells (g : Nat) : ∀ (vs : List Value) (o : Nat) (w : World), Kept [g] w (w.setCells g o vs)
  | [], _, w => Kept.refl _ _
  | v :: r, o, w => ((Kept.refl [g] w).setCell (p := ⟨g, o, none⟩) (.inl (by simp)) v).trans (kept_setCells g r (o + 1) _) (by intro x hx; exact .inl hx)
/-- 'append(l, x...)' -/
theorem run_append_row {P : Program} (w : World) (base : Nat) (t ty e : TypeId) (i : TypeInfo) (z : Value) (sz bytes : Nat) (ht : P.underlying t = some (.slice e)) (hi : P.info? e = some i) (hz : i.zero = some z) (hsize : i.size = sz) (hby : i.bytes = bytes) (hzs : z.cells.size = sz)
    (v : Value) (n : Nat) (cs : List Value) (h : Row w base sz v n cs) (x : Value) (m : Nat) (news : List Value) (hs : Src P sz t x m news w) (h63 : n + m ≤ 9223372036854775807) (hmx : n + m ≤ maxLen) (hbytes : (n + m) * bytes ≤ 140737488355328) (hbase : base ≤ w.heap.size) :
    ∃ v' w', (Builtin.append_ #[t, t] ty #[v, x]).run P w = .ok v' w' ∧ Row w' base sz v' (n + m) (cs ++ news) ∧ Kept v.ownBlock.toList w w' ∧ (v'.ownBlock = v.ownBlock ∨ v'.ownBlock = some w.heap.size) := by
  subst hsize
  subst hby
  have hnl := hs.newsLen
  have hall : ∀ u ∈ cs ++ news, u.oneCell' = true := by
    intro u hu
    rcases List.mem_append.1 hu with hu | hu
    · exact h.2.1 u hu
    · exact hs.one u hu
  have hlen : (cs ++ news).length = (n + m) * i.size := by rw [List.length_append, h.1, hnl, Nat.add_mul]
  obtain ⟨p, c, rfl, h3, h4⟩ := h.shape
  by_cases hfit : n + m ≤ c
  · cases p with
    | none =>
      obtain ⟨h1, h2, p', c', e', -, -, h5⟩ := id h
      cases e'
      rcases h5 with ⟨-, rfl⟩ | ⟨g, e, -⟩
      · obtain rfl : n = 0 := by omega
        obtain rfl : m = 0 := by omega
        obtain rfl : news = [] := List.eq_nil_of_length_eq_zero (by simpa using hnl)
        exact ⟨_, _, run_append_nothing (P := P) w t t ty e i ht hi none 0 0 (Nat.le_refl _) x hs, by simpa using h, Kept.refl _ _, .inl rfl⟩
      · cases e
    | some a =>
      obtain ⟨h1, h2, p', c', e', -, -, h5⟩ := id h
      cases e'
      rcases h5 with ⟨e, -⟩ | ⟨g, e, h6, h7, h8, h9⟩
      · cases e
      · cases e
        have hm : n * i.size + m * i.size ≤ c * i.size := by rw [← Nat.add_mul]; exact Nat.mul_le_mul_right _ hfit
        have hthere : ∀ j, j < news.length → (w.cell? ⟨g, 0 + n * i.size + j, none⟩).isSome = true := fun j hj => (h9 _ (by omega)).1
        have hrun := run_append_room_src (P := P) w t t ty e i ht hi g 0 n c x m news hs hfit hthere (fun j hj => (h9 _ (by omega)).2)
        have hk := kept_setCells g news (0 + n * i.size) w
        refine ⟨_, _, hrun, ⟨hlen, hall, _, _, rfl, hfit, h4, .inr ⟨g, rfl, h6, Nat.lt_of_lt_of_le h7 hk.size, fun j u hj => ?_, fun j hj => ⟨?_, by rw [World.frozen?_setCells]; exact (h9 j hj).2⟩⟩⟩, by simpa [Value.ownBlock] using hk, .inl rfl⟩
        · by_cases hjc : j < cs.length
          · rw [List.getElem?_append_left hjc] at hj
            rw [World.cell?_setCells_out g news _ w _ (fun _ _ => .inl (by simp; omega))]
            exact h8 j u hj
          · rw [List.getElem?_append_right (by omega)] at hj
            obtain ⟨hlt, rfl⟩ := List.getElem?_eq_some_iff.1 hj
            have := World.cell?_setCells_in g news (0 + n * i.size) w hthere (j - cs.length) hlt
            rw [show 0 + n * i.size + (j - cs.length) = j by omega] at this
            exact this
        · by_cases hjin : 0 + n * i.size ≤ j ∧ j < 0 + n * i.size + news.length
          · have := World.cell?_setCells_in g news (0 + n * i.size) w hthere (j - (0 + n * i.size)) (by omega)
            rw [show 0 + n * i.size + (j - (0 + n * i.size)) = j by omega] at this
            rw [this]; rfl
          · rw [World.cell?_setCells_out g news _ w _ (fun _ _ => by simp; omega)]
            exact (h9 j hj).1
  · have hold : (Builtin.firstCells i.size n (.slice p n c)).run P w.drew = .ok cs.toArray w.drew := by
      obtain ⟨h1, h2, p', c', e', -, -, h5⟩ := id h
      cases e'
      rcases h5 with ⟨rfl, rfl⟩ | ⟨g, rfl, h6, h7, h8, h9⟩
      · obtain rfl : n = 0 := by omega
        obtain rfl : cs = [] := List.eq_nil_of_length_eq_zero (by simpa using h1)
        exact run_firstCells_none w.drew i.size 0 0 0
      · exact run_firstCells_some w.drew i.size n ⟨g, 0, none⟩ n c cs h1 (fun j u hj => by rw [add_none rfl]; simpa using h8 j u hj)
    have hg : c < n + m := by omega
    have hrun := run_append_grow_src (P := P) w t t ty e i z ht hi hz p n c cs hold x m news hs hg (by omega) (growslice_fits hg hbytes)
    have hge := grownCap_ge w (n + m) c e
    have hcm := grownCap_le_maxLen w (n + m) c e hmx
    have hsz : ((cs ++ news).toArray ++ Builtin.zeroCells z.cells (grownCap w (n + m) c e - (n + m))).size = grownCap w (n + m) c e * i.size := by
      rw [Array.size_append, List.size_toArray, hlen, size_zeroCells, hzs, ← Nat.add_mul]
      congr 1
      omega
    have hk : Kept [] w (w.drew.alloc (.cells ((cs ++ news).toArray ++ Builtin.zeroCells z.cells (grownCap w (n + m) c e - (n + m))) e)) := ((Kept.refl [] w).drew).alloc _
    refine ⟨_, _, hrun, ⟨hlen, hall, _, _, rfl, hge, hcm, .inr ⟨w.heap.size, rfl, hbase, by simp, fun j u hj => ?_, fun j hj => ⟨?_, World.frozen?_alloc_new w.drew _ _ j⟩⟩⟩, hk.mono (by simp), .inr rfl⟩
    · have e1 : (w.drew.alloc (.cells ((cs ++ news).toArray ++ Builtin.zeroCells z.cells (grownCap w (n + m) c e - (n + m))) e)).cell? ⟨w.heap.size, j, none⟩ = _ := World.cell?_alloc_new w.drew _ _ j
      have hjl := (List.getElem?_eq_some_iff.1 hj).1
      rw [e1, Array.getElem?_append_left (by simpa using hjl), List.getElem?_toArray, hj]
    · have e1 : (w.drew.alloc (.cells ((cs ++ news).toArray ++ Builtin.zeroCells z.cells (grownCap w (n + m) c e - (n + m))) e)).cell? ⟨w.heap.size, j, none⟩ = _ := World.cell?_alloc_new w.drew _ _ j
      rw [e1, Array.getElem?_eq_getElem (by rw [hsz]; exact hj)]
      rfl
theorem info_parts3 {P : Program} {e : TypeId} {z : Value} {sz by' : Nat} (h : (P.info? e).map (fun i => (i.zero, i.size, i.bytes)) = some (some z, sz, by')) : ∃ i, P.info? e = some i ∧ i.zero = some z ∧ i.size = sz ∧ i.bytes = by' := by
  obtain ⟨i, hi, h'⟩ := Option.map_eq_some_iff.1 h
  simp only [Prod.mk.injEq] at h'
  exact ⟨i, hi, h'.1, h'.2.1, h'.2.2⟩
/-- what is cut off a row behind its k-th element is a source -/
theorem Row.rest {P : Program} {w w' : World} {base sz g n c : Nat} {cs : List Value} {t e : TypeId} (ht : P.underlying t = some (.slice e)) (h : Row w base sz (.slice (some ⟨g, 0, none⟩) n c) n cs) (hc : ∀ (j : Nat) u, cs[j]? = some u → w'.cell? ⟨g, j, none⟩ = some u) (k : Nat) (hk : k ≤ n) (sa : Option Addr)
    (hsa : sa = if c = k then some ⟨g, 0, none⟩ else Option.map (fun x : Addr => x.add (k * sz)) (some ⟨g, 0, none⟩)) : Src P sz t (.slice sa (n - k) (c - k)) (n - k) (cs.drop (k * sz)) w' := by
  obtain ⟨h1, h2, p', c', e', h3, h4, h5⟩ := h
  cases e'
  have hl : (cs.drop (k * sz)).length = (n - k) * sz := by rw [List.length_drop, h1, Nat.sub_mul]
  have hone : ∀ u ∈ cs.drop (k * sz), u.oneCell' = true := fun u hu => h2 u (List.mem_of_mem_drop hu)
  by_cases e : c = k
  · rw [if_pos e] at hsa
    subst hsa
    have h0 : cs.drop (k * sz) = [] := List.eq_nil_of_length_eq_zero (by rw [hl, show n - k = 0 by omega]; simp)
    exact Src.ofSlice w' ht _ _ _ _ hl (fun j u hj => by rw [h0] at hj; simp at hj) hone
  · rw [if_neg e] at hsa
    subst hsa
    refine Src.ofSlice w' ht _ _ _ _ hl (fun j u hj => ?_) hone
    rw [Go.Proofs.Ytinlhojojeabcaa.add_add, add_none (a := ⟨g, 0, none⟩) rfl]
    rw [List.getElem?_drop] at hj
    simpa using hc _ u hj
/-- the same in a walk, and at a step of a region that draws its order -/
theorem wpList_append_row {P : Program} {w : World} {ops : Array Oper} {rest : List Oper} {o : Oper} {a : Act} {Q : Exit → Act → World → Prop} (hgd : o.guard = none) (s x : Operand) (t : TypeId)
    (ho : o.op = .call { callee := .builtin .append, args := #[s, x], argTypes := #[t, t] }) (base : Nat) (e : TypeId) (i : TypeInfo) (z : Value) (sz bytes : Nat) (ht : P.underlying t = some (.slice e)) (hi : P.info? e = some i) (hz : i.zero = some z) (hsize : i.size = sz) (hby : i.bytes = bytes) (hzs : z.cells.size = sz)
    (v : Value) (n : Nat) (cs : List Value) (hv : a.eval s = v) (h : Row w base sz v n cs) (xv : Value) (m : Nat) (news : List Value) (hx : a.eval x = xv) (hs : Src P sz t xv m news w) (h63 : n + m ≤ 9223372036854775807) (hmx : n + m ≤ maxLen) (hbytes : (n + m) * bytes ≤ 140737488355328) (hbase : base ≤ w.heap.size)
    (hgo : ∀ v' w', Row w' base sz v' (n + m) (cs ++ news) → Kept v.ownBlock.toList w w' → (v'.ownBlock = v.ownBlock ∨ v'.ownBlock = some w.heap.size) → wpList P ops Q rest (a.put o.dst v') w') : wpList P ops Q (o :: rest) a w := by
  refine wpList_plain hgd fun K hK => ?_
  obtain ⟨v', w', hr, k1, k2, k3⟩ := run_append_row (P := P) w base t o.type e i z sz bytes ht hi hz hsize hby hzs v n cs h xv m news hs h63 hmx hbytes hbase
  unfold Oper.wp execOp
  simp only [ho, resolve, invoke, builtin, Sem.run_bind, Sem.run_pure, Result.andThen_ok, List.map_toArray, List.map_cons, List.map_nil, hv, hx, hr]
  exact hK _ _ (hgo v' w' k1 k2 k3)
theorem step_append_row {P : Program} {w : World} {ops : Array Oper} {o : Oper} {a : Act} {K : Act → World → Prop} {Q : Exit → Act → World → Prop} {E : Prop} (hgd : o.guard = none) (s x : Operand) (t : TypeId)
    (ho : o.op = .call { callee := .builtin .append, args := #[s, x], argTypes := #[t, t] }) (base : Nat) (e : TypeId) (i : TypeInfo) (z : Value) (sz bytes : Nat) (ht : P.underlying t = some (.slice e)) (hi : P.info? e = some i) (hz : i.zero = some z) (hsize : i.size = sz) (hby : i.bytes = bytes) (hzs : z.cells.size = sz)
    (v : Value) (n : Nat) (cs : List Value) (hv : a.eval s = v) (h : Row w base sz v n cs) (xv : Value) (m : Nat) (news : List Value) (hx : a.eval x = xv) (hs : Src P sz t xv m news w) (h63 : n + m ≤ 9223372036854775807) (hmx : n + m ≤ maxLen) (hbytes : (n + m) * bytes ≤ 140737488355328) (hbase : base ≤ w.heap.size)
    (hgo : ∀ v' w', Row w' base sz v' (n + m) (cs ++ news) → Kept v.ownBlock.toList w w' → (v'.ownBlock = v.ownBlock ∨ v'.ownBlock = some w.heap.size) → K (a.put o.dst v') w') :
    if Region.wanted o (yielded ops a.tmps) = true then Oper.wp P o a w K Q else E := by
  have hw : Region.wanted o (yielded ops a.tmps) = true := by simp [Region.wanted, hgd]
  rw [if_pos hw]
  obtain ⟨v', w', hr, k1, k2, k3⟩ := run_append_row (P := P) w base t o.type e i z sz bytes ht hi hz hsize hby hzs v n cs h xv m news hs h63 hmx hbytes hbase
  unfold Oper.wp execOp
  simp only [ho, resolve, invoke, builtin, Sem.run_bind, Sem.run_pure, Result.andThen_ok, List.map_toArray, List.map_cons, List.map_nil, hv, hx, hr]
  exact hgo v' w' k1 k2 k3
/-- 'l[k:]' and 'l[:k:k]', of elements of several cells -/
theorem run_cut_from_sz {P : Program} (w : World) (t e : TypeId) (sz : Nat) (hu : P.underlying t = some (.slice e)) (hsz : (P.info? e).map (·.size) = some sz) (p : Option Addr) (n c k : Nat) (hk : k ≤ n) :
    (Instr.slice t (.slice p n c) (some (.int .i64 (k : Int))) none none).run P w = .ok (.slice (if c = k then p else p.map (·.add (k * sz))) (n - k) (c - k)) w := by
  obtain ⟨i, hi, hs⟩ := Option.map_eq_some_iff.1 hsz
  simp [Instr.slice, run_underlying hu, Instr.sliceBounds, run_sliceBound, sizeOf, typeInfo, hi, hs, (by omega : (k : Int) ≤ (n : Int))]
theorem run_cut_tight {P : Program} (w : World) (t e : TypeId) (sz : Nat) (hu : P.underlying t = some (.slice e)) (hsz : (P.info? e).map (·.size) = some sz) (p : Option Addr) (n c k : Nat) (hk : k ≤ c) :
    (Instr.slice t (.slice p n c) none (some (.int .i64 (k : Int))) (some (.int .i64 (k : Int)))).run P w = .ok (.slice p k k) w := by
  obtain ⟨i, hi, hs⟩ := Option.map_eq_some_iff.1 hsz
  simp [Instr.slice, run_underlying hu, Instr.sliceBounds, run_sliceBound, sizeOf, typeInfo, hi, (by omega : (k : Int) ≤ (c : Int))]
  intro _
  cases p with
  | none => rfl
  | some a =>
    obtain ⟨b, o, s⟩ := a
    cases s <;> simp [Addr.add]
end Go.Proofs.Ytinlhojojeabcaa

/-
  OWN WORK. 'append' of elements of several cells, as in Rows3, that says besides: on a new block the old one stays as it was.
-/
namespace Go.Proofs.Ytinlhojojeabcaa
open Go.RowKit
/-- 'append(l, x...)' -/
theorem run_append_row2 {P : Program} (w : World) (base : Nat) (t ty e : TypeId) (i : TypeInfo) (z : Value) (sz bytes : Nat) (ht : P.underlying t = some (.slice e)) (hi : P.info? e = some i) (hz : i.zero = some z) (hsize : i.size = sz) (hby : i.bytes = bytes) (hzs : z.cells.size = sz)
    (v : Value) (n : Nat) (cs : List Value) (h : Row w base sz v n cs) (x : Value) (m : Nat) (news : List Value) (hs : Src P sz t x m news w) (h63 : n + m ≤ 9223372036854775807) (hmx : n + m ≤ maxLen) (hbytes : (n + m) * bytes ≤ 140737488355328) (hbase : base ≤ w.heap.size) :
    ∃ v' w', (Builtin.append_ #[t, t] ty #[v, x]).run P w = .ok v' w' ∧ Row w' base sz v' (n + m) (cs ++ news) ∧ Kept v.ownBlock.toList w w' ∧ (v'.ownBlock = v.ownBlock ∨ (v'.ownBlock = some w.heap.size ∧ Kept [] w w')) := by
  subst hsize
  subst hby
  have hnl := hs.newsLen
  have hall : ∀ u ∈ cs ++ news, u.oneCell' = true := by
    intro u hu
    rcases List.mem_append.1 hu with hu | hu
    · exact h.2.1 u hu
    · exact hs.one u hu
  have hlen : (cs ++ news).length = (n + m) * i.size := by rw [List.length_append, h.1, hnl, Nat.add_mul]
  obtain ⟨p, c, rfl, h3, h4⟩ := h.shape
  by_cases hfit : n + m ≤ c
  · cases p with
    | none =>
      obtain ⟨h1, h2, p', c', e', -, -, h5⟩ := id h
      cases e'
      rcases h5 with ⟨-, rfl⟩ | ⟨g, e, -⟩
      · obtain rfl : n = 0 := by omega
        obtain rfl : m = 0 := by omega
        obtain rfl : news = [] := List.eq_nil_of_length_eq_zero (by simpa using hnl)
        exact ⟨_, _, run_append_nothing (P := P) w t t ty e i ht hi none 0 0 (Nat.le_refl _) x hs, by simpa using h, Kept.refl _ _, .inl rfl⟩
      · cases e
    | some a =>
      obtain ⟨h1, h2, p', c', e', -, -, h5⟩ := id h
      cases e'
      rcases h5 with ⟨e, -⟩ | ⟨g, e, h6, h7, h8, h9⟩
      · cases e
      · cases e
        have hm : n * i.size + m * i.size ≤ c * i.size := by rw [← Nat.add_mul]; exact Nat.mul_le_mul_right _ hfit
        have hthere : ∀ j, j < news.length → (w.cell? ⟨g, 0 + n * i.size + j, none⟩).isSome = true := fun j hj => (h9 _ (by omega)).1
        have hrun := run_append_room_src (P := P) w t t ty e i ht hi g 0 n c x m news hs hfit hthere (fun j hj => (h9 _ (by omega)).2)
        have hk := kept_setCells g news (0 + n * i.size) w
        refine ⟨_, _, hrun, ⟨hlen, hall, _, _, rfl, hfit, h4, .inr ⟨g, rfl, h6, Nat.lt_of_lt_of_le h7 hk.size, fun j u hj => ?_, fun j hj => ⟨?_, by rw [World.frozen?_setCells]; exact (h9 j hj).2⟩⟩⟩, by simpa [Value.ownBlock] using hk, .inl rfl⟩
        · by_cases hjc : j < cs.length
          · rw [List.getElem?_append_left hjc] at hj
            rw [World.cell?_setCells_out g news _ w _ (fun _ _ => .inl (by simp; omega))]
            exact h8 j u hj
          · rw [List.getElem?_append_right (by omega)] at hj
            obtain ⟨hlt, rfl⟩ := List.getElem?_eq_some_iff.1 hj
            have := World.cell?_setCells_in g news (0 + n * i.size) w hthere (j - cs.length) hlt
            rw [show 0 + n * i.size + (j - cs.length) = j by omega] at this
            exact this
        · by_cases hjin : 0 + n * i.size ≤ j ∧ j < 0 + n * i.size + news.length
          · have := World.cell?_setCells_in g news (0 + n * i.size) w hthere (j - (0 + n * i.size)) (by omega)
            rw [show 0 + n * i.size + (j - (0 + n * i.size)) = j by omega] at this
            rw [this]; rfl
          · rw [World.cell?_setCells_out g news _ w _ (fun _ _ => by simp; omega)]
            exact (h9 j hj).1
  · have hold : (Builtin.firstCells i.size n (.slice p n c)).run P w.drew = .ok cs.toArray w.drew := by
      obtain ⟨h1, h2, p', c', e', -, -, h5⟩ := id h
      cases e'
      rcases h5 with ⟨rfl, rfl⟩ | ⟨g, rfl, h6, h7, h8, h9⟩
      · obtain rfl : n = 0 := by omega
        obtain rfl : cs = [] := List.eq_nil_of_length_eq_zero (by simpa using h1)
        exact run_firstCells_none w.drew i.size 0 0 0
      · exact run_firstCells_some w.drew i.size n ⟨g, 0, none⟩ n c cs h1 (fun j u hj => by rw [add_none rfl]; simpa using h8 j u hj)
    have hg : c < n + m := by omega
    have hrun := run_append_grow_src (P := P) w t t ty e i z ht hi hz p n c cs hold x m news hs hg (by omega) (growslice_fits hg hbytes)
    have hge := grownCap_ge w (n + m) c e
    have hcm := grownCap_le_maxLen w (n + m) c e hmx
    have hsz : ((cs ++ news).toArray ++ Builtin.zeroCells z.cells (grownCap w (n + m) c e - (n + m))).size = grownCap w (n + m) c e * i.size := by
      rw [Array.size_append, List.size_toArray, hlen, size_zeroCells, hzs, ← Nat.add_mul]
      congr 1
      omega
    have hk : Kept [] w (w.drew.alloc (.cells ((cs ++ news).toArray ++ Builtin.zeroCells z.cells (grownCap w (n + m) c e - (n + m))) e)) := ((Kept.refl [] w).drew).alloc _
    refine ⟨_, _, hrun, ⟨hlen, hall, _, _, rfl, hge, hcm, .inr ⟨w.heap.size, rfl, hbase, by simp, fun j u hj => ?_, fun j hj => ⟨?_, World.frozen?_alloc_new w.drew _ _ j⟩⟩⟩, hk.mono (by simp), .inr ⟨rfl, hk⟩⟩
    · have e1 : (w.drew.alloc (.cells ((cs ++ news).toArray ++ Builtin.zeroCells z.cells (grownCap w (n + m) c e - (n + m))) e)).cell? ⟨w.heap.size, j, none⟩ = _ := World.cell?_alloc_new w.drew _ _ j
      have hjl := (List.getElem?_eq_some_iff.1 hj).1
      rw [e1, Array.getElem?_append_left (by simpa using hjl), List.getElem?_toArray, hj]
    · have e1 : (w.drew.alloc (.cells ((cs ++ news).toArray ++ Builtin.zeroCells z.cells (grownCap w (n + m) c e - (n + m))) e)).cell? ⟨w.heap.size, j, none⟩ = _ := World.cell?_alloc_new w.drew _ _ j
      rw [e1, Array.getElem?_eq_getElem (by rw [hsz]; exact hj)]
      rfl
theorem wpList_append_row2 {P : Program} {w : World} {ops : Array Oper} {rest : List Oper} {o : Oper} {a : Act} {Q : Exit → Act → World → Prop} (hgd : o.guard = none) (s x : Operand) (t : TypeId)
    (ho : o.op = .call { callee := .builtin .append, args := #[s, x], argTypes := #[t, t] }) (base : Nat) (e : TypeId) (i : TypeInfo) (z : Value) (sz bytes : Nat) (ht : P.underlying t = some (.slice e)) (hi : P.info? e = some i) (hz : i.zero = some z) (hsize : i.size = sz) (hby : i.bytes = bytes) (hzs : z.cells.size = sz)
    (v : Value) (n : Nat) (cs : List Value) (hv : a.eval s = v) (h : Row w base sz v n cs) (xv : Value) (m : Nat) (news : List Value) (hx : a.eval x = xv) (hs : Src P sz t xv m news w) (h63 : n + m ≤ 9223372036854775807) (hmx : n + m ≤ maxLen) (hbytes : (n + m) * bytes ≤ 140737488355328) (hbase : base ≤ w.heap.size)
    (hgo : ∀ v' w', Row w' base sz v' (n + m) (cs ++ news) → Kept v.ownBlock.toList w w' → (v'.ownBlock = v.ownBlock ∨ (v'.ownBlock = some w.heap.size ∧ Kept [] w w')) → wpList P ops Q rest (a.put o.dst v') w') : wpList P ops Q (o :: rest) a w := by
  refine wpList_plain hgd fun K hK => ?_
  obtain ⟨v', w', hr, k1, k2, k3⟩ := run_append_row2 (P := P) w base t o.type e i z sz bytes ht hi hz hsize hby hzs v n cs h xv m news hs h63 hmx hbytes hbase
  unfold Oper.wp execOp
  simp only [ho, resolve, invoke, builtin, Sem.run_bind, Sem.run_pure, Result.andThen_ok, List.map_toArray, List.map_cons, List.map_nil, hv, hx, hr]
  exact hK _ _ (hgo v' w' k1 k2 k3)
theorem step_append_row2 {P : Program} {w : World} {ops : Array Oper} {o : Oper} {a : Act} {K : Act → World → Prop} {Q : Exit → Act → World → Prop} {E : Prop} (hgd : o.guard = none) (s x : Operand) (t : TypeId)
    (ho : o.op = .call { callee := .builtin .append, args := #[s, x], argTypes := #[t, t] }) (base : Nat) (e : TypeId) (i : TypeInfo) (z : Value) (sz bytes : Nat) (ht : P.underlying t = some (.slice e)) (hi : P.info? e = some i) (hz : i.zero = some z) (hsize : i.size = sz) (hby : i.bytes = bytes) (hzs : z.cells.size = sz)
    (v : Value) (n : Nat) (cs : List Value) (hv : a.eval s = v) (h : Row w base sz v n cs) (xv : Value) (m : Nat) (news : List Value) (hx : a.eval x = xv) (hs : Src P sz t xv m news w) (h63 : n + m ≤ 9223372036854775807) (hmx : n + m ≤ maxLen) (hbytes : (n + m) * bytes ≤ 140737488355328) (hbase : base ≤ w.heap.size)
    (hgo : ∀ v' w', Row w' base sz v' (n + m) (cs ++ news) → Kept v.ownBlock.toList w w' → (v'.ownBlock = v.ownBlock ∨ (v'.ownBlock = some w.heap.size ∧ Kept [] w w')) → K (a.put o.dst v') w') :
    if Region.wanted o (yielded ops a.tmps) = true then Oper.wp P o a w K Q else E := by
  have hw : Region.wanted o (yielded ops a.tmps) = true := by simp [Region.wanted, hgd]
  rw [if_pos hw]
  obtain ⟨v', w', hr, k1, k2, k3⟩ := run_append_row2 (P := P) w base t o.type e i z sz bytes ht hi hz hsize hby hzs v n cs h xv m news hs h63 hmx hbytes hbase
  unfold Oper.wp execOp
  simp only [ho, resolve, invoke, builtin, Sem.run_bind, Sem.run_pure, Result.andThen_ok, List.map_toArray, List.map_cons, List.map_nil, hv, hx, hr]
  exact hgo v' w' k1 k2 k3
end Go.Proofs.Ytinlhojojeabcaa

/-
  OWN WORK. A region that draws its order and ends with a store into a cell that it read: the reads may be taken first, and the store need keep nothing.
-/
namespace Go.Proofs.Ytinlhojojeabcaa
open Go.RowKit
set_option linter.unusedVariables false

section
variable {P : Program} {ops : Array Oper} {Q : Exit → Act → World → Prop} {md : Region.Mode} {S : World → Prop} {z : Nat}

/-- whatever order is picked: S holds behind every operation but number z -/
def wpAnyZ (P : Program) (md : Region.Mode) (ops : Array Oper) (Q : Exit → Act → World → Prop) (S : World → Prop) (z : Nat) : Nat → Array Bool → Act → World → Prop
  | 0, listed, a, w => Region.ready md ops listed = [] ∧ Q .normal a w
  | n + 1, listed, a, w =>
    (Region.ready md ops listed = [] → Q .normal a w) ∧
      ∀ i ∈ Region.ready md ops listed, wpOp P ops Q i (fun a' w' => (i ≠ z → S w') ∧ wpAnyZ P md ops Q S z n (listed.setIfInBounds i true) a' w') a w
theorem wpAnyZ_any : ∀ (n : Nat) (listed : Array Bool) (a : Act) (w : World), wpAnyZ P md ops Q S z n listed a w → wpAny P md ops Q n listed a w
  | 0, _, _, _, h => h
  | n + 1, _, _, _, h => ⟨h.1, fun i hi => wpOp_mono (fun a' w' h' => wpAnyZ_any n _ a' w' h'.2) (h.2 i hi)⟩
/-- number z waits for number i -/
def waits (md : Region.Mode) (ops : Array Oper) (z i : Nat) : Bool := match ops[z]? with
  | some o => o.after.any fun e => Region.binds md e && e.on == i
  | none => true
theorem waits_ready {i : Nat} {listed : Array Bool} (h : waits md ops z i = true) (hi : listed.getD i false = false) : z ∉ Region.ready md ops listed := fun hm => by
  obtain ⟨-, o, ho, hall⟩ := mem_ready.1 hm
  unfold waits at h
  rw [ho] at h
  obtain ⟨k, hk, he⟩ := Array.any_eq_true.1 h
  simp at he
  have := hall (o.after[k]) (Array.getElem_mem hk) he.1
  rw [he.2, hi] at this
  cases this
theorem wpAnyZ_first {i : Nat} {oi : Oper} {v : Value} (hi : ops[i]? = some oi) (hsel : ∀ (j : Nat) (o : Oper) cs b, ops[j]? = some o → o.op ≠ .select cs b)
    (hQ : ∀ c a w, Q (.panic c) (a.put oi.dst v) w → Q (.panic c) a w) (hz : waits md ops z i = true) :
    ∀ (n : Nat) (listed : Array Bool) (a : Act) (w : World),
      (∀ j oj, ops[j]? = some oj → j ≠ i → listed.getD j true = false → (∀ e ∈ oj.after, Region.binds md e = true → e.on ≠ i) → oi.apart ops oj = true) →
      i ∈ Region.ready md ops listed → YieldsIf P ops S oi v a → S w →
      wpAnyZ P md ops Q S z n (listed.setIfInBounds i true) (a.put oi.dst v) w → wpAnyZ P md ops Q S z (n + 1) listed a w := by
  intro n
  induction n with
  | zero =>
    intro listed a w _ hr hy hS H
    refine ⟨fun h => (by rw [h] at hr; cases hr), fun j hj => ?_⟩
    by_cases e : j = i
    · subst e; exact hy.wpOp hi hS ⟨fun _ => hS, H⟩
    · have := ready_mono hj e
      rw [H.1] at this
      cases this
  | succ n ih =>
    intro listed a w hfree hr hy hS H
    have hun := (mem_ready.1 hr).1
    have hunf : listed.getD i false = false := by
      rcases Nat.lt_or_ge i listed.size with c | c
      · simp [c] at hun ⊢; exact hun
      · simp [c]
    refine ⟨fun h => (by rw [h] at hr; cases hr), fun j hj => ?_⟩
    by_cases e : j = i
    · subst e; exact hy.wpOp hi hS ⟨fun _ => hS, H⟩
    · have hjz : j ≠ z := fun c => waits_ready hz hunf (c ▸ hj)
      obtain ⟨hju, oj, hoj, hall⟩ := mem_ready.1 hj
      have hno : ∀ e ∈ oj.after, Region.binds md e = true → e.on ≠ i := fun e he hb c => by
        have := hall e he hb
        rw [c, hunf] at this
        cases this
      have h2 := wpOp_putIf hoj (hfree j oj hoj e hju hno) (fun cs b => hsel i oi cs b hi) (fun cs b => hsel j oj cs b hoj) hQ hy (H.2 j (ready_mono hj e))
      have hfree2 : ∀ k ok, ops[k]? = some ok → k ≠ i → (listed.setIfInBounds j true).getD k true = false → (∀ e ∈ ok.after, Region.binds md e = true → e.on ≠ i) → oi.apart ops ok = true := fun k ok hk hki hkj hnk => by
        by_cases c : j = k
        · subst c; exact hfree j ok hk hki hju hnk
        · exact hfree k ok hk hki (by rwa [getD_set_ne true c] at hkj) hnk
      refine wpOp_mono (fun a' w' h3 => ⟨h3.2.1, ih (listed.setIfInBounds j true) a' w' hfree2 (ready_mono hr (Ne.symm e)) h3.1 (h3.2.1 hjz) ?_⟩) h2
      rw [Array.setIfInBounds_comm _ _ e]
      exact h3.2.2
/-- take number i first -/
theorem wpAnyZ_take (i : Nat) {oi : Oper} {v : Value} {n : Nat} {listed : Array Bool} {a : Act} {w : World} (hi : ops[i]? = some oi)
    (hs : Region.noSelect ops = true) (hz : waits md ops z i = true) (hf : Region.free md ops listed i = true) (hr : (Region.ready md ops listed).contains i = true)
    (hQ : ∀ c a w, Q (.panic c) (a.put oi.dst v) w → Q (.panic c) a w) (hw : Region.wanted oi (yielded ops a.tmps) = true) (hy : ∀ w, S w → (execOp a.eval oi).run P w = .ok (.value v) w) (hS : S w)
    (h : wpAnyZ P md ops Q S z n (listed.setIfInBounds i true) (a.put oi.dst v) w) : wpAnyZ P md ops Q S z (n + 1) listed a w :=
  wpAnyZ_first hi (Region.noSelect_spec hs) hQ hz n listed a w (Region.free_spec hi hf) (by simpa using hr) (.inl ⟨hw, hy⟩) hS h
/-- only number i may come up -/
theorem wpAnyZ_one (i : Nat) {oi : Oper} {n : Nat} {listed : Array Bool} {a : Act} {w : World} (hi : ops[i]? = some oi) (hr : Region.ready md ops listed = [i])
    (h : ∀ K : Act → World → Prop, (∀ a' w', (i ≠ z → S w') → wpAnyZ P md ops Q S z n (listed.setIfInBounds i true) a' w' → K a' w') → if Region.wanted oi (yielded ops a.tmps) = true then Oper.wp P oi a w K Q else K (a.put oi.dst undef) w) : wpAnyZ P md ops Q S z (n + 1) listed a w := by
  refine ⟨fun c => absurd (hr.symm.trans c) (by simp), fun j hj => ?_⟩
  rw [hr] at hj
  simp at hj
  subst hj
  exact wpOp_step hi fun K hK => h K fun a' w' h1 h2 => hK a' w' ⟨h1, h2⟩
theorem wpAnyZ_done {listed : Array Bool} {a : Act} {w : World} (hr : Region.ready md ops listed = []) (h : Q .normal a w) : ∀ n, wpAnyZ P md ops Q S z n listed a w
  | 0 => ⟨hr, h⟩
  | _ + 1 => ⟨fun _ => h, by rw [hr]; simp⟩
theorem wp_region_late (S : World → Prop) (z : Nat) {id : Nat} {a : Act} {w : World} (hm : P.follows .mixedOrders = true)
    (h : wpAnyZ P .any ops Q S z ops.size (Array.replicate ops.size false) a w.drew) : (Code.region id ops true).wp P Q a w :=
  wp_region_any hm (wpAnyZ_any _ _ _ _ h)
end
end Go.Proofs.Ytinlhojojeabcaa

/-
  OWN WORK. Locks (layer 15): how they lie in memory.
-/
namespace Go.Proofs.Ytinlhojojeabcaa
open Go.RowKit
set_option linter.unusedVariables false

theorem hideH {p : Prop} (h : p) : Hid p := h
theorem wrap_i64_of {x : Int} (h1 : -9223372036854775808 ≤ x) (h2 : x < 9223372036854775808) : IntKind.i64.wrap x = x := by rw [IntKind.wrap_i64]; omega
/-- block g holds just these cells -/
def Blk (w : World) (g : Nat) (t : TypeId) (cs : List Value) : Prop := w.heap[g]? = some (.cells cs.toArray t (0, 0))
theorem Blk.new (w : World) (t : TypeId) (cs : List Value) : Blk (w.alloc (.cells cs.toArray t)) w.heap.size t cs := heap_alloc_new w _
theorem Blk.lt {w : World} {g : Nat} {t : TypeId} {cs : List Value} (h : Blk w g t cs) : g < w.heap.size := (Array.getElem?_eq_some_iff.1 h).1
theorem Blk.cell {w : World} {g : Nat} {t : TypeId} {cs : List Value} (h : Blk w g t cs) {j : Nat} {v : Value} (hj : cs[j]? = some v) : w.cell? ⟨g, j, none⟩ = some v := by
  have h' : w.heap[g]? = some (.cells cs.toArray t (0, 0)) := h
  simp [World.cell?, h', hj]
theorem Blk.free {w : World} {g : Nat} {t : TypeId} {cs : List Value} (h : Blk w g t cs) (j : Nat) : w.frozen? ⟨g, j, none⟩ = false := by
  have h' : w.heap[g]? = some (.cells cs.toArray t (0, 0)) := h
  simp [World.frozen?, h']
theorem Blk.kept {w w' : World} {g : Nat} {t : TypeId} {cs : List Value} {S : List Nat} (h : Blk w g t cs) (k : Kept S w w') (hS : g ∉ S) : Blk w' g t cs := (k.block g h.lt hS).trans h
theorem Blk.set {w : World} {g : Nat} {t : TypeId} {cs : List Value} (h : Blk w g t cs) (j : Nat) (v : Value) : Blk (w.setCell ⟨g, j, none⟩ v) g t (cs.set j v) ∧ Kept [g] w (w.setCell ⟨g, j, none⟩ v) := by
  have h' : w.heap[g]? = some (.cells cs.toArray t (0, 0)) := h
  refine ⟨?_, (Kept.refl [g] w).setCell (.inl (by simp)) v⟩
  simp [Blk, World.setCell, Array.getElem?_modify, h', List.setIfInBounds_toArray]
def i64s (l : List Int) : List Value := l.map (Value.int .i64)
theorem i64s_length (l : List Int) : (i64s l).length = l.length := by simp [i64s]
theorem i64s_one (l : List Int) : ∀ u ∈ i64s l, u.oneCell' = true := fun u hu => by
  obtain ⟨x, -, rfl⟩ := List.mem_map.1 hu
  rfl
theorem i64s_at {l : List Int} {j : Nat} (h : j < l.length) : (i64s l)[j]? = some (.int .i64 (l.getD j 0)) := by
  simp [i64s, h]
theorem i64s_set (l : List Int) (j : Nat) (x : Int) : (i64s l).set j (.int .i64 x) = i64s (l.set j x) := by simp [i64s, List.map_set]
theorem src_i64 {P : Program} (w : World) (t e : TypeId) (ht : P.underlying t = some (.slice e)) (x : Int) : Src P 1 t (.slice (some ⟨w.heap.size, 0, none⟩) 1 1) 1 [.int .i64 x] (w.alloc (.cells #[.int .i64 x] e)) := by
  refine Src.ofSlice _ ht _ _ _ _ rfl (fun j u hj => ?_) (i64s_one [x])
  rw [add_none rfl]
  have q := (Blk.new w e [.int .i64 x]).cell hj
  simpa using q
/-- a list of numbers of one's own -/
def Ns (w : World) (base : Nat) (v : Value) (l : List Int) : Prop := Row w base 1 v l.length (i64s l)
theorem Ns.kept {w w' : World} {base : Nat} {v : Value} {l : List Int} {S : List Nat} (h : Ns w base v l) (k : Kept S w w') (hS : ∀ x, v.ownBlock = some x → x ∉ S) : Ns w' base v l := Row.kept h k hS
theorem Ns.mono {w : World} {b b' : Nat} {v : Value} {l : List Int} (h : Ns w b v l) (hb : b' ≤ b) : Ns w b' v l := Row.mono h hb
theorem Ns.nil (w : World) (base : Nat) : Ns w base (.slice none 0 0) [] := Row.nil w base 1
theorem Ns.lt {w : World} {base : Nat} {v : Value} {l : List Int} (h : Ns w base v l) {x : Nat} (hx : v.ownBlock = some x) : base ≤ x ∧ x < w.heap.size := Row.lt h x hx
theorem Ns.shape {w : World} {base : Nat} {v : Value} {l : List Int} (h : Ns w base v l) : ∃ p c, v = .slice p l.length c := by
  obtain ⟨p, c, e, -⟩ := Row.shape h
  exact ⟨p, c, e⟩
theorem Ns.at {w : World} {base : Nat} {p : Option Addr} {n c : Nat} {l : List Int} (h : Ns w base (.slice p n c) l) {j : Nat} (hj : j < l.length) : ∃ g, p = some ⟨g, 0, none⟩ ∧ base ≤ g ∧ w.cell? ⟨g, j, none⟩ = some (.int .i64 (l.getD j 0)) ∧ w.frozen? ⟨g, j, none⟩ = false := by
  have h' : Row w base 1 (.slice p n c) l.length (i64s l) := h
  obtain ⟨p', c', e, h3, h4⟩ := Row.shape h'
  cases e
  obtain ⟨g, rfl, h6, h7, h8, h9⟩ := Row.pos h' (by omega)
  exact ⟨g, rfl, h6, h8 j _ (i64s_at hj), (h9 j (by omega)).2⟩
end Go.Proofs.Ytinlhojojeabcaa

/-
  OWN WORK. Chains (layer 12) in plain words: what Back and Undo answer, of any way tg read records.
-/
namespace Go.Proofs.Ytinlhojojeabcaa
set_option linter.unusedVariables false

/-- of a record what a chain looks at -/
structure Rc where
  kind : Int
  birth : Int
  prev : Int
  next : Int
/-- how records are read: the error, and the record -/
abbrev Rdr := Int → Int × Rc
def kindOk (k : Int) : Prop := 1 ≤ k ∧ k ≤ 6
instance (k : Int) : Decidable (kindOk k) := inferInstanceAs (Decidable (1 ≤ k ∧ k ≤ 6))
def birthOf (r : Rc) (l : Int) : Int := if r.kind = 1 then l else r.birth
def bornAt (f : Bool) (b : Int) (r : Rc) (l : Int) : Int := if f then birthOf r l else b
/-- does the record hang together with the birth -/
def hangs (r : Rc) (l b : Int) : Prop := kindOk r.kind ∧ (r.kind = 1 → l = b) ∧ (r.kind ≠ 1 → r.birth = b ∧ 1 ≤ b ∧ b < l)
instance (r : Rc) (l b : Int) : Decidable (hangs r l b) := inferInstanceAs (Decidable (_ ∧ _ ∧ _))
/-- none: an error; some none: that is the answer; some (some tg): on at tg -/
def backStep (r : Rc) (l b : Int) : Option (Option Int) :=
  if ¬ hangs r l b then none else if r.kind = 1 then some none else if r.prev < b ∨ l ≤ r.prev then none else some (some r.prev)
def backF (R : Rdr) : Nat → Int → Int → Bool → List Int → List Int → List Int × Int × List Int
  | 0, _, _, _, _, asked => ([], 120, asked)
  | n + 1, l, b, f, out, asked =>
    if (R l).1 ≠ 0 then ([], (R l).1, asked ++ [l]) else
    match backStep (R l).2 l (bornAt f b (R l).2 l) with
    | none => ([], 120, asked ++ [l])
    | some none => (out ++ [l], 0, asked ++ [l])
    | some (some tg) => backF R n tg (bornAt f b (R l).2 l) false (out ++ [l]) (asked ++ [l])
/-- what Back answers: the list, the error, the places that were read -/
def backL (R : Rdr) (last : Int) : List Int × Int × List Int :=
  if last < 0 then ([], 120, []) else if last = 0 then ([], 0, []) else backF R 4096 last 0 true [] []
/-- none: an error; some none: that is the answer; some (some (tg, must)): on at tg -/
def undoStep (r : Rc) (l b : Int) (must : Bool) : Option (Option (Int × Bool)) :=
  if ¬ hangs r l b then none else if must = true ∧ r.kind ≠ 2 then none else if r.kind = 1 then some none else
  if r.kind = 3 then (if r.next = 0 then some none else if r.next < b ∨ l ≤ r.next then none else some (some (r.next, true)))
  else if r.prev < b ∨ l ≤ r.prev then none else some (some (r.prev, false))
def undoOut (r : Rc) (l : Int) (out : List Int) : List Int := if r.kind = 2 then out ++ [l] else out
def undoF (R : Rdr) : Nat → Int → Int → Bool → Bool → List Int → List Int → List Int × Int × List Int
  | 0, _, _, _, _, _, asked => ([], 120, asked)
  | n + 1, l, b, f, must, out, asked =>
    if (R l).1 ≠ 0 then ([], (R l).1, asked ++ [l]) else
    match undoStep (R l).2 l (bornAt f b (R l).2 l) must with
    | none => ([], 120, asked ++ [l])
    | some none => (undoOut (R l).2 l out, 0, asked ++ [l])
    | some (some (tg, m)) => undoF R n tg (bornAt f b (R l).2 l) false m (undoOut (R l).2 l out) (asked ++ [l])
def undoL (R : Rdr) (next : Int) : List Int × Int × List Int :=
  if next < 0 then ([], 120, []) else if next = 0 then ([], 0, []) else undoF R 4096 next 0 true true [] []

theorem backF_err {R : Rdr} {l : Int} {n : Nat} {b : Int} {f : Bool} {out asked : List Int} {e : Int} {r : Rc} (h : R l = (e, r)) (he : e ≠ 0) : backF R (n + 1) l b f out asked = ([], e, asked ++ [l]) := by
  rw [backF, h, if_pos he]
theorem backF_no {R : Rdr} {l : Int} {n : Nat} {b : Int} {f : Bool} {out asked : List Int} {r : Rc} (h : R l = (0, r)) (hs : backStep r l (bornAt f b r l) = none) : backF R (n + 1) l b f out asked = ([], 120, asked ++ [l]) := by
  rw [backF, h, if_neg (by simp)]
  simp only [hs]
theorem backF_fin {R : Rdr} {l : Int} {n : Nat} {b : Int} {f : Bool} {out asked : List Int} {r : Rc} (h : R l = (0, r)) (hs : backStep r l (bornAt f b r l) = some none) : backF R (n + 1) l b f out asked = (out ++ [l], 0, asked ++ [l]) := by
  rw [backF, h, if_neg (by simp)]
  simp only [hs]
theorem backF_on {R : Rdr} {l tg : Int} {n : Nat} {b : Int} {f : Bool} {out asked : List Int} {r : Rc} (h : R l = (0, r)) (hs : backStep r l (bornAt f b r l) = some (some tg)) : backF R (n + 1) l b f out asked = backF R n tg (bornAt f b r l) false (out ++ [l]) (asked ++ [l]) := by
  rw [backF, h, if_neg (by simp)]
  simp only [hs]
theorem undoF_err {R : Rdr} {l : Int} {n : Nat} {b : Int} {f m : Bool} {out asked : List Int} {e : Int} {r : Rc} (h : R l = (e, r)) (he : e ≠ 0) : undoF R (n + 1) l b f m out asked = ([], e, asked ++ [l]) := by
  rw [undoF, h, if_pos he]
theorem undoF_no {R : Rdr} {l : Int} {n : Nat} {b : Int} {f m : Bool} {out asked : List Int} {r : Rc} (h : R l = (0, r)) (hs : undoStep r l (bornAt f b r l) m = none) : undoF R (n + 1) l b f m out asked = ([], 120, asked ++ [l]) := by
  rw [undoF, h, if_neg (by simp)]
  simp only [hs]
theorem undoF_fin {R : Rdr} {l : Int} {n : Nat} {b : Int} {f m : Bool} {out asked : List Int} {r : Rc} (h : R l = (0, r)) (hs : undoStep r l (bornAt f b r l) m = some none) : undoF R (n + 1) l b f m out asked = (undoOut r l out, 0, asked ++ [l]) := by
  rw [undoF, h, if_neg (by simp)]
  simp only [hs]
theorem undoF_on {R : Rdr} {l tg : Int} {n : Nat} {b : Int} {f m m' : Bool} {out asked : List Int} {r : Rc} (h : R l = (0, r)) (hs : undoStep r l (bornAt f b r l) m = some (some (tg, m'))) : undoF R (n + 1) l b f m out asked = undoF R n tg (bornAt f b r l) false m' (undoOut r l out) (asked ++ [l]) := by
  rw [undoF, h, if_neg (by simp)]
  simp only [hs]
theorem backStep_on {r : Rc} {l b tg : Int} (h : backStep r l b = some (some tg)) : 1 ≤ b ∧ b ≤ tg ∧ tg < l ∧ tg = r.prev ∧ r.kind ≠ 1 ∧ hangs r l b := by
  unfold backStep at h
  split at h
  · cases h
  · rename_i hh
    split at h
    · cases h
    · rename_i hk
      split at h
      · cases h
      · rename_i hp
        cases h
        have := (Decidable.not_not.1 hh).2.2 hk
        exact ⟨this.2.1, by omega, by omega, rfl, hk, Decidable.not_not.1 hh⟩
theorem undoStep_on {r : Rc} {l b tg : Int} {m m' : Bool} (h : undoStep r l b m = some (some (tg, m'))) : 1 ≤ b ∧ b ≤ tg ∧ tg < l := by
  unfold undoStep at h
  split at h
  · cases h
  · rename_i hh
    split at h
    · cases h
    · split at h
      · cases h
      · rename_i hk
        have := (Decidable.not_not.1 hh).2.2 hk
        split at h
        · split at h
          · cases h
          · split at h
            · cases h
            · cases h; exact ⟨this.2.1, by omega, by omega⟩
        · split at h
          · cases h
          · cases h; exact ⟨this.2.1, by omega, by omega⟩
end Go.Proofs.Ytinlhojojeabcaa

/-
  OWN WORK (by mkch0.py). Layer 12: records and lines, how they lie in memory.
-/
namespace Go.Proofs.Ytinlhojojeabcaa
open Go.RowKit
set_option linter.unusedVariables false
set_option linter.unusedSimpArgs false


/-- a slice's cell -/
structure Sv where
  p : Option Addr
  n : Nat
  c : Nat
/-- a record's cells -/
structure Lv where
  kind : Int
  birth : Int
  prev : Int
  id : Int
  page : Int
  frm : Int
  b : Sv
  a : Sv
  next : Int
  r : Sv
  d : Sv
def I64 (x : Int) : Prop := -9223372036854775808 ≤ x ∧ x < 9223372036854775808
def Lv.rc (r : Lv) : Rc := ⟨r.kind, r.birth, r.prev, r.next⟩
def Lv.fits (r : Lv) : Prop := I64 r.kind ∧ I64 r.birth ∧ I64 r.prev ∧ I64 r.next
def Lv.cells (r : Lv) : List Value := [.int .i64 r.kind, .int .i64 r.birth, .int .i64 r.prev, .int .i64 r.id, .int .i64 r.page, .int .i64 r.frm, .slice r.b.p r.b.n r.b.c, .slice r.a.p r.a.n r.a.c, .int .i64 r.next, .slice r.r.p r.r.n r.r.c, .slice r.d.p r.d.n r.d.c]
def Sv.nil : Sv := ⟨none, 0, 0⟩
def Lv.zero : Lv := ⟨0, 0, 0, 0, 0, 0, .nil, .nil, 0, .nil, .nil⟩
theorem Lv.zero_fits : Lv.zero.fits := by unfold Lv.fits Lv.zero I64; simp
/-- a line of a log -/
structure Ln where
  lsn : Int
  r : Lv
def Ln.cells (l : Ln) : List Value := .int .i64 l.lsn :: l.r.cells
def Ln.fits (l : Ln) : Prop := I64 l.lsn ∧ l.r.fits
/-- the cells at a are a line's -/
def LineAt (w : World) (b o : Nat) (l : Ln) : Prop := ∀ (j : Nat) u, l.cells[j]? = some u → w.cell? ⟨b, o + j, none⟩ = some u
/-- v is a slice of these lines -/
def Lines (w : World) (v : Value) (ls : List Ln) : Prop :=
  (∀ l ∈ ls, l.fits) ∧ ∃ (p : Option Addr) (c : Nat), v = .slice p ls.length c ∧ ls.length ≤ c ∧ c ≤ maxLen ∧ (ls ≠ [] → ∃ b o, p = some ⟨b, o, none⟩ ∧ b < w.heap.size ∧ ∀ (i : Nat) l, ls[i]? = some l → LineAt w b (o + i * 12) l)
theorem Lines.kept {w w' : World} {v : Value} {ls : List Ln} {S : List Nat} (h : Lines w v ls) (k : Kept S w w') (hS : ∀ x, v.ownBlock = some x → x ∉ S) : Lines w' v ls := by
  obtain ⟨h0, p, c, rfl, h1, h2, h3⟩ := h
  refine ⟨h0, p, c, rfl, h1, h2, fun hne => ?_⟩
  obtain ⟨b, o, rfl, hb, h4⟩ := h3 hne
  exact ⟨b, o, rfl, Nat.lt_of_lt_of_le hb k.size, fun i l hl j u hj => k.cell (h4 i l hl j u hj) (hS b rfl)⟩
theorem Lines.shape {w : World} {v : Value} {ls : List Ln} (h : Lines w v ls) : ∃ p c, v = .slice p ls.length c ∧ ls.length ≤ maxLen := by
  obtain ⟨-, p, c, e, h1, h2, -⟩ := h
  exact ⟨p, c, e, by omega⟩
theorem Lines.at {w : World} {p : Option Addr} {n c : Nat} {ls : List Ln} (h : Lines w (.slice p n c) ls) {k : Nat} {l : Ln} (hk : ls[k]? = some l) : ∃ b o, p = some ⟨b, o, none⟩ ∧ LineAt w b (o + k * 12) l ∧ l.fits := by
  obtain ⟨h0, p', c', e, h1, h2, h3⟩ := h
  cases e
  obtain ⟨b, o, rfl, -, h4⟩ := h3 (by rintro rfl; simp at hk)
  exact ⟨b, o, rfl, h4 k l hk, h0 l (List.mem_of_getElem? hk)⟩
theorem Lines.ownlt {w : World} {v : Value} {ls : List Ln} (h : Lines w v ls) {x : Nat} (hx : v.ownBlock = some x) (hne : ls ≠ []) : x < w.heap.size := by
  obtain ⟨-, p, c, rfl, h1, h2, h3⟩ := h
  obtain ⟨b, o, rfl, hb, h4⟩ := h3 hne
  have e : b = x := Option.some.inj hx
  omega
/-- the first line that has this LSN -/
def findL (ls : List Ln) (lsn : Int) : Option Ln := ls.find? fun l => l.lsn == lsn
def readL (ls : List Ln) (all : Bool) (lsn : Int) : Int × Lv :=
  match findL ls lsn with
  | some l => (0, l.r)
  | none => if all = true then (match ls.getLast? with
      | some l => (0, { l.r with prev := lsn - 1, next := lsn - 1 })
      | none => (110, .zero)) else (110, .zero)
/-- how a log is read -/
def rdr (ls : List Ln) (all : Bool) : Rdr := fun l => ((readL ls all l).1, (readL ls all l).2.rc)
theorem findL_at {ls : List Ln} {lsn : Int} {k : Nat} {l : Ln} (hk : ls[k]? = some l) (hl : l.lsn = lsn) (h : ∀ j m, j < k → ls[j]? = some m → m.lsn ≠ lsn) : findL ls lsn = some l := by
  unfold findL
  rw [List.find?_eq_some_iff_append]
  obtain ⟨hk', e⟩ := List.getElem?_eq_some_iff.1 hk
  refine ⟨by simpa using hl, ls.take k, ls.drop (k + 1), ?_, fun m hm => ?_⟩
  · rw [← e, List.getElem_cons_drop, List.take_append_drop]
  · obtain ⟨j, hj, e2⟩ := List.getElem_of_mem hm
    rw [List.length_take] at hj
    have := h j m (by omega) (by rw [← e2, List.getElem_take]; exact List.getElem?_eq_getElem (by omega))
    simpa using this
theorem findL_none {ls : List Ln} {lsn : Int} (h : ∀ (j : Nat) m, ls[j]? = some m → m.lsn ≠ lsn) : findL ls lsn = none := by
  unfold findL
  rw [List.find?_eq_none]
  intro m hm
  obtain ⟨j, hj⟩ := List.getElem?_of_mem hm
  simpa using h j m hj
theorem readL_at {ls : List Ln} {lsn : Int} {k : Nat} {l : Ln} (all : Bool) (hk : ls[k]? = some l) (hl : l.lsn = lsn) (h : ∀ j m, j < k → ls[j]? = some m → m.lsn ≠ lsn) : readL ls all lsn = (0, l.r) := by
  unfold readL
  rw [findL_at hk hl h]
theorem readL_last {ls : List Ln} {lsn : Int} {l : Ln} (h : ∀ (j : Nat) m, ls[j]? = some m → m.lsn ≠ lsn) (hl : ls[ls.length - 1]? = some l) : readL ls true lsn = (0, { l.r with prev := lsn - 1, next := lsn - 1 }) := by
  unfold readL
  rw [findL_none h, List.getLast?_eq_getElem?, hl]
  rfl
theorem readL_no {ls : List Ln} {all : Bool} {lsn : Int} (h : ∀ (j : Nat) m, ls[j]? = some m → m.lsn ≠ lsn) (ha : all = false ∨ ls = []) : readL ls all lsn = (110, .zero) := by
  unfold readL
  rw [findL_none h]
  rcases ha with rfl | rfl
  · rfl
  · cases all <;> rfl
theorem readL_fits {ls : List Ln} {all : Bool} {lsn : Int} (h : ∀ l ∈ ls, l.fits) (h1 : 1 ≤ lsn) (h2 : I64 lsn) : (readL ls all lsn).2.fits ∧ I64 (readL ls all lsn).1 := by
  have hz : I64 110 ∧ I64 0 := ⟨⟨by omega, by omega⟩, ⟨by omega, by omega⟩⟩
  unfold readL
  split
  · rename_i l hl
    exact ⟨(h l (List.mem_of_find?_eq_some hl)).2, hz.2⟩
  · split
    · split
      · rename_i l hl
        have := (h l (List.mem_of_getLast? hl)).2
        have q : I64 (lsn - 1) := ⟨by have := h2.1; omega, by have := h2.2; omega⟩
        exact ⟨⟨this.1, this.2.1, q, q⟩, hz.2⟩
      · exact ⟨Lv.zero_fits, hz.1⟩
    · exact ⟨Lv.zero_fits, hz.1⟩


/-- nothing is shared -/
def Apt (a b : Value) : Prop := ∀ x, a.ownBlock = some x → b.ownBlock ≠ some x
theorem Apt.symm {a b : Value} (h : Apt a b) : Apt b a := fun x hx c => h x c hx
theorem Apt.nil (b : Value) : Apt (.slice none 0 0) b := fun x hx => by cases hx
theorem Apt.not_mem {a b : Value} (h : Apt a b) : ∀ x, a.ownBlock = some x → x ∉ b.ownBlock.toList := fun x hx hm => by
  rw [Option.mem_toList] at hm
  exact h x hx hm
/-- behind an append of a the other one's block is another still -/
theorem Apt.push {a a' b : Value} {w : World} (h : Apt a b) (hb : ∀ x, b.ownBlock = some x → x < w.heap.size) {Q : Prop} (hat : a'.ownBlock = a.ownBlock ∨ (a'.ownBlock = some w.heap.size ∧ Q)) : Apt a' b := fun x hx c => by
  rcases hat with e | ⟨e, -⟩
  · exact h x (by rw [← e]; exact hx) c
  · rw [e] at hx
    have e1 := Option.some.inj hx
    have e2 := hb x c
    omega
theorem Ns.push {w : World} {base n : Nat} {v : Value} {l : List Int} {x : Int} (hn : n = l.length) (h : Row w base 1 v (n + 1) (i64s l ++ [.int .i64 x])) : Ns w base v (l ++ [x]) := by
  unfold Ns
  rw [List.length_append, show i64s (l ++ [x]) = i64s l ++ [.int .i64 x] by simp [i64s], ← hn]
  exact h
theorem Ns.len {w : World} {base : Nat} {v : Value} {l : List Int} (h : Ns w base v l) : l.length ≤ maxLen := by
  obtain ⟨p, c, e, h3, h4⟩ := Row.shape h
  omega
theorem Ns.lit (w : World) (e : TypeId) (l : List Int) (cs : Array Value) (hcs : cs = (i64s l).toArray) (hl : l.length ≤ maxLen) : Ns (w.alloc (.cells cs e)) w.heap.size (.slice (some ⟨w.heap.size, 0, none⟩) l.length l.length) l := by
  subst hcs
  refine ⟨by rw [i64s_length]; omega, i64s_one l, _, _, rfl, Nat.le_refl _, hl, .inr ⟨_, rfl, Nat.le_refl _, by rw [World.size_alloc]; omega, fun j u hj => (Blk.new w e (i64s l)).cell hj, fun j hj => ⟨?_, (Blk.new w e (i64s l)).free j⟩⟩⟩
  rw [(Blk.new w e (i64s l)).cell (i64s_at (l := l) (j := j) (by omega))]
  rfl

end Go.Proofs.Ytinlhojojeabcaa

/-
  OWN WORK (by mkch0.py). Layer 12: the document's Read.
-/
namespace Go.Proofs.Ytinlhojojeabcaa
open Go.RowKit
set_option linter.unusedVariables false
set_option linter.unusedSimpArgs false

theorem Blk.fill11 {w : World} {g : Nat} {t : TypeId} {z0 z1 z2 z3 z4 z5 z6 z7 z8 z9 z10 : Value} (h : Blk w g t [z0, z1, z2, z3, z4, z5, z6, z7, z8, z9, z10]) (v0 v1 v2 v3 v4 v5 v6 v7 v8 v9 v10 : Value) : Blk (((((((((((w.setCell ⟨g, 0, none⟩ v0).setCell ⟨g, 1, none⟩ v1).setCell ⟨g, 2, none⟩ v2).setCell ⟨g, 3, none⟩ v3).setCell ⟨g, 4, none⟩ v4).setCell ⟨g, 5, none⟩ v5).setCell ⟨g, 6, none⟩ v6).setCell ⟨g, 7, none⟩ v7).setCell ⟨g, 8, none⟩ v8).setCell ⟨g, 9, none⟩ v9).setCell ⟨g, 10, none⟩ v10) g t [v0, v1, v2, v3, v4, v5, v6, v7, v8, v9, v10] ∧ Kept [g] w (((((((((((w.setCell ⟨g, 0, none⟩ v0).setCell ⟨g, 1, none⟩ v1).setCell ⟨g, 2, none⟩ v2).setCell ⟨g, 3, none⟩ v3).setCell ⟨g, 4, none⟩ v4).setCell ⟨g, 5, none⟩ v5).setCell ⟨g, 6, none⟩ v6).setCell ⟨g, 7, none⟩ v7).setCell ⟨g, 8, none⟩ v8).setCell ⟨g, 9, none⟩ v9).setCell ⟨g, 10, none⟩ v10) := by
  obtain ⟨b0, k0⟩ := h.set 0 v0
  obtain ⟨b1, k1⟩ := b0.set 1 v1
  obtain ⟨b2, k2⟩ := b1.set 2 v2
  obtain ⟨b3, k3⟩ := b2.set 3 v3
  obtain ⟨b4, k4⟩ := b3.set 4 v4
  obtain ⟨b5, k5⟩ := b4.set 5 v5
  obtain ⟨b6, k6⟩ := b5.set 6 v6
  obtain ⟨b7, k7⟩ := b6.set 7 v7
  obtain ⟨b8, k8⟩ := b7.set 8 v8
  obtain ⟨b9, k9⟩ := b8.set 9 v9
  obtain ⟨b10, k10⟩ := b9.set 10 v10
  exact ⟨b10, ((((((((((k0.trans k1 (fun x hx => .inl hx)).trans k2 (fun x hx => .inl hx)).trans k3 (fun x hx => .inl hx)).trans k4 (fun x hx => .inl hx)).trans k5 (fun x hx => .inl hx)).trans k6 (fun x hx => .inl hx)).trans k7 (fun x hx => .inl hx)).trans k8 (fun x hx => .inl hx)).trans k9 (fun x hx => .inl hx)).trans k10 (fun x hx => .inl hx))⟩
set_option maxRecDepth 20000 in
set_option maxHeartbeats 3200000 in
theorem rRead (v : Value) (ls : List Ln) (all : Bool) (lsn : Int) (w : World) (h : Lines w v ls) (h1 : 1 ≤ lsn) (h2 : I64 lsn) : Calls Try.prog 18 #[v, .int .i64 lsn, .bool all] w fun e w' => ∃ (q : Int) (r : Lv), e = .returned (.tuple #[.agg #[.int .i64 r.kind, .int .i64 r.birth, .int .i64 r.prev, .int .i64 r.id, .int .i64 r.page, .int .i64 r.frm, .slice r.b.p r.b.n r.b.c, .slice r.a.p r.a.n r.a.c, .int .i64 r.next, .slice r.r.p r.r.n r.r.c, .slice r.d.p r.d.n r.d.c], .int .i64 q]) ∧ readL ls all lsn = (q, r) ∧ Kept [] w w' := by
  obtain ⟨pv, cv, hv, hml⟩ := h.shape
  subst hv
  obtain ⟨n, hn⟩ : ∃ n, n = ls.length := ⟨_, rfl⟩
  rw [← hn] at h ⊢
  have HS := @hideH _ h
  have HN := @hideH _ (And.intro hn hml)
  have HL := @hideH _ (And.intro h1 h2)
  clear h hn hml h1 h2
  obtain ⟨w1, hw1⟩ : ∃ wx, wx = w.alloc (.cells #[.int .i64 0, .int .i64 0, .int .i64 0, .int .i64 0, .int .i64 0, .int .i64 0, .slice none 0 0, .slice none 0 0, .int .i64 0, .slice none 0 0, .slice none 0 0] 42) := ⟨_, rfl⟩
  have k1 : Kept [] w w1 := by rw [hw1]; exact (Kept.refl [] w).alloc _
  have B1 : Blk w1 w.heap.size 42 [.int .i64 0, .int .i64 0, .int .i64 0, .int .i64 0, .int .i64 0, .int .i64 0, .slice none 0 0, .slice none 0 0, .int .i64 0, .slice none 0 0, .slice none 0 0] := by rw [hw1]; exact Blk.new w _ _
  have HB := @hideH _ (And.intro B1 k1)
  clear B1 k1
  go_enter Try.func18, Try.ntmps18
  go_upto_region 1 with fail
  rw [← hw1]
  clear hw1
  go_wp2
  go_loopw [8] (fun i wr => ∃ k : Nat, k ≤ n ∧ i = .int .i64 k ∧ Hid ((∀ (j : Nat) m, j < k → ls[j]? = some m → m.lsn ≠ lsn) ∧ Blk wr w.heap.size 42 [.int .i64 0, .int .i64 0, .int .i64 0, .int .i64 0, .int .i64 0, .int .i64 0, .slice none 0 0, .slice none 0 0, .int .i64 0, .slice none 0 0, .slice none 0 0] ∧ Kept [] w wr)) (fun i _ => n - (intOf i).toNat)
  case atStart => exact ⟨0, Nat.zero_le _, rfl, fun j m hj => absurd hj (Nat.not_lt_zero j), HB.out.1, HB.out.2⟩
  case round =>
    clear HB
    obtain ⟨k, hk, rfl, hh⟩ := hrel
    by_cases hkl : k < n
    · have hkl' : (k : Int) < (n : Int) := by omega
      have h0 : (0 : Int) ≤ (k : Int) := by omega
      have wk : IntKind.i64.wrap ((k : Int) + 1) = (k : Int) + 1 := wrap_i64_of (by omega) (by have e1 := HN.out.1; have e2 := HN.out.2; unfold maxLen at e2; omega)
      obtain ⟨l, hl⟩ : ∃ l, ls[k]? = some l := ⟨_, List.getElem?_eq_getElem (by have := HN.out.1; omega)⟩
      obtain ⟨b, o, ep, hA, hF⟩ := (HS.out.kept hh.out.2.2 (by simp)).at hl
      subst ep
      have c0 := hA 0 _ rfl
      rw [Nat.add_zero] at c0
      by_cases he : l.lsn = lsn
      · have he' : (l.lsn == lsn) = true := by simpa using he
        have HE := @hideH _ (readL_at all hl he hh.out.1)
        have a0 := hA 1 _ rfl
        have a1 := hA 2 _ rfl
        have a2 := hA 3 _ rfl
        have a3 := hA 4 _ rfl
        have a4 := hA 5 _ rfl
        have a5 := hA 6 _ rfl
        have a6 := hA 7 _ rfl
        have a7 := hA 8 _ rfl
        have a8 := hA 9 _ rfl
        have a9 := hA 10 _ rfl
        have a10 := hA 11 _ rfl
        have Bx := hh.out.2.1
        have c1_0 := Bx.cell (j := 0) rfl
        have c1_1 := Bx.cell (j := 1) rfl
        have c1_2 := Bx.cell (j := 2) rfl
        have c1_3 := Bx.cell (j := 3) rfl
        have c1_4 := Bx.cell (j := 4) rfl
        have c1_5 := Bx.cell (j := 5) rfl
        have c1_6 := Bx.cell (j := 6) rfl
        have c1_7 := Bx.cell (j := 7) rfl
        have c1_8 := Bx.cell (j := 8) rfl
        have c1_9 := Bx.cell (j := 9) rfl
        have c1_10 := Bx.cell (j := 10) rfl
        have f0 := Bx.free 0
        have f1 := Bx.free 1
        have f2 := Bx.free 2
        have f3 := Bx.free 3
        have f4 := Bx.free 4
        have f5 := Bx.free 5
        have f6 := Bx.free 6
        have f7 := Bx.free 7
        have f8 := Bx.free 8
        have f9 := Bx.free 9
        have f10 := Bx.free 10
        obtain ⟨BF, kF⟩ := Bx.fill11 (.int .i64 l.r.kind) (.int .i64 l.r.birth) (.int .i64 l.r.prev) (.int .i64 l.r.id) (.int .i64 l.r.page) (.int .i64 l.r.frm) (.slice l.r.b.p l.r.b.n l.r.b.c) (.slice l.r.a.p l.r.a.n l.r.a.c) (.int .i64 l.r.next) (.slice l.r.r.p l.r.r.n l.r.r.c) (.slice l.r.d.p l.r.d.n l.r.d.c)
        obtain ⟨wF, hwF⟩ : ∃ wF, wF = (((((((((((wr.setCell ⟨w.heap.size, 0, none⟩ (.int .i64 l.r.kind)).setCell ⟨w.heap.size, 1, none⟩ (.int .i64 l.r.birth)).setCell ⟨w.heap.size, 2, none⟩ (.int .i64 l.r.prev)).setCell ⟨w.heap.size, 3, none⟩ (.int .i64 l.r.id)).setCell ⟨w.heap.size, 4, none⟩ (.int .i64 l.r.page)).setCell ⟨w.heap.size, 5, none⟩ (.int .i64 l.r.frm)).setCell ⟨w.heap.size, 6, none⟩ (.slice l.r.b.p l.r.b.n l.r.b.c)).setCell ⟨w.heap.size, 7, none⟩ (.slice l.r.a.p l.r.a.n l.r.a.c)).setCell ⟨w.heap.size, 8, none⟩ (.int .i64 l.r.next)).setCell ⟨w.heap.size, 9, none⟩ (.slice l.r.r.p l.r.r.n l.r.r.c)).setCell ⟨w.heap.size, 10, none⟩ (.slice l.r.d.p l.r.d.n l.r.d.c)) := ⟨_, rfl⟩
        rw [← hwF] at BF kF
        have HK := @hideH _ (hh.out.2.2.trans kF (fun x hx => .inr (by simp at hx; omega)))
        clear he hh Bx hF kF
        go_wp2
        rw [← hwF]
        clear hwF a0 a1 a2 a3 a4 a5 a6 a7 a8 a9 a10 c1_0 c1_1 c1_2 c1_3 c1_4 c1_5 c1_6 c1_7 c1_8 c1_9 c1_10 f0 f1 f2 f3 f4 f5 f6 f7 f8 f9 f10
        have q0 := BF.cell (j := 0) rfl
        have q1 := BF.cell (j := 1) rfl
        have q2 := BF.cell (j := 2) rfl
        have q3 := BF.cell (j := 3) rfl
        have q4 := BF.cell (j := 4) rfl
        have q5 := BF.cell (j := 5) rfl
        have q6 := BF.cell (j := 6) rfl
        have q7 := BF.cell (j := 7) rfl
        have q8 := BF.cell (j := 8) rfl
        have q9 := BF.cell (j := 9) rfl
        have q10 := BF.cell (j := 10) rfl
        clear BF
        refine bodyPost_ret (by simp [results, Try.results18, go_sem, q0, q1, q2, q3, q4, q5, q6, q7, q8, q9, q10]; try rfl) rfl ?_
        exact ⟨0, l.r, rfl, HE.out, HK.out⟩
      · have he' : (l.lsn == lsn) = false := by simpa using he
        have HH := @hideH _ (And.intro (show ∀ (j : Nat) m, j < k + 1 → ls[j]? = some m → m.lsn ≠ lsn from fun j x hj hx => by
            by_cases c : j = k
            · subst c; rw [hl] at hx; cases hx; exact he
            · exact hh.out.1 j x (by omega) hx) hh.out.2)
        clear he hh hl hF hA
        go_wp2
        go_roundw
        case rel => exact ⟨k + 1, by omega, by go_num, HH.out⟩
        case measure => simp [intOf]; omega
    · have ek : k = n := by omega
      subst ek
      have hno : ∀ (j : Nat) m, ls[j]? = some m → m.lsn ≠ lsn := fun j x hx => hh.out.1 j x (by rw [HN.out.1]; exact (List.getElem?_eq_some_iff.1 hx).1) hx
      have HNO := @hideH _ hno
      have Bx := hh.out.2.1
      have HK0 := @hideH _ hh.out.2.2
      clear hh hno
      have c1_0 := Bx.cell (j := 0) rfl
      have c1_1 := Bx.cell (j := 1) rfl
      have c1_2 := Bx.cell (j := 2) rfl
      have c1_3 := Bx.cell (j := 3) rfl
      have c1_4 := Bx.cell (j := 4) rfl
      have c1_5 := Bx.cell (j := 5) rfl
      have c1_6 := Bx.cell (j := 6) rfl
      have c1_7 := Bx.cell (j := 7) rfl
      have c1_8 := Bx.cell (j := 8) rfl
      have c1_9 := Bx.cell (j := 9) rfl
      have c1_10 := Bx.cell (j := 10) rfl
      have f0 := Bx.free 0
      have f1 := Bx.free 1
      have f2 := Bx.free 2
      have f3 := Bx.free 3
      have f4 := Bx.free 4
      have f5 := Bx.free 5
      have f6 := Bx.free 6
      have f7 := Bx.free 7
      have f8 := Bx.free 8
      have f9 := Bx.free 9
      have f10 := Bx.free 10
      by_cases ha : all = true ∧ 0 < k
      · obtain ⟨ha1, ha2⟩ := ha
        subst ha1
        obtain ⟨l, hl⟩ : ∃ l, ls[k - 1]? = some l := ⟨_, List.getElem?_eq_getElem (by have := HN.out.1; omega)⟩
        have HE := @hideH _ (readL_last HNO.out (l := l) (by rw [← HN.out.1]; exact hl))
        obtain ⟨b, o, ep, hA, hF⟩ := (HS.out.kept HK0.out (by simp)).at hl
        subst ep
        have p1 : (0 : Int) < (k : Int) := by omega
        have p2 : IntKind.i64.wrap ((k : Int) - 1) = ((k - 1 : Nat) : Int) := by rw [wrap_i64_of (by omega) (by have e1 := HN.out.1; have e2 := HN.out.2; unfold maxLen at e2; omega)]; omega
        have p3 : ((k - 1 : Nat) : Int) < (k : Int) := by omega
        have p4 : (0 : Int) ≤ ((k - 1 : Nat) : Int) := by omega
        have p5 : IntKind.i64.wrap (lsn - 1) = lsn - 1 := wrap_i64_of (by have := HL.out.1; omega) (by have := HL.out.2.2; omega)
        have a0 := hA 1 _ rfl
        have a1 := hA 2 _ rfl
        have a2 := hA 3 _ rfl
        have a3 := hA 4 _ rfl
        have a4 := hA 5 _ rfl
        have a5 := hA 6 _ rfl
        have a6 := hA 7 _ rfl
        have a7 := hA 8 _ rfl
        have a8 := hA 9 _ rfl
        have a9 := hA 10 _ rfl
        have a10 := hA 11 _ rfl
        obtain ⟨m, hm⟩ : ∃ m, m = k - 1 := ⟨_, rfl⟩
        rw [← hm] at p2 p3 p4 a0 a1 a2 a3 a4 a5 a6 a7 a8 a9 a10
        clear hm hl hF hA ha2
        obtain ⟨w2, hw2⟩ : ∃ wx, wx = wr.alloc (.cells #[.int .i64 l.r.kind, .int .i64 l.r.birth, .int .i64 l.r.prev, .int .i64 l.r.id, .int .i64 l.r.page, .int .i64 l.r.frm, .slice l.r.b.p l.r.b.n l.r.b.c, .slice l.r.a.p l.r.a.n l.r.a.c, .int .i64 l.r.next, .slice l.r.r.p l.r.r.n l.r.r.c, .slice l.r.d.p l.r.d.n l.r.d.c] 42) := ⟨_, rfl⟩
        have k2 : Kept [] wr w2 := by rw [hw2]; exact (Kept.refl [] wr).alloc _
        have B2 : Blk w2 wr.heap.size 42 [.int .i64 l.r.kind, .int .i64 l.r.birth, .int .i64 l.r.prev, .int .i64 l.r.id, .int .i64 l.r.page, .int .i64 l.r.frm, .slice l.r.b.p l.r.b.n l.r.b.c, .slice l.r.a.p l.r.a.n l.r.a.c, .int .i64 l.r.next, .slice l.r.r.p l.r.r.n l.r.r.c, .slice l.r.d.p l.r.d.n l.r.d.c] := by rw [hw2]; exact Blk.new wr _ _
        go_upto_region 8 with fail
        rw [← hw2]
        clear hw2 a0 a1 a2 a3 a4 a5 a6 a7 a8 a9 a10
        obtain ⟨B3, k3⟩ := B2.set 2 (.int .i64 (lsn - 1))
        obtain ⟨B4, k4⟩ := B3.set 8 (.int .i64 (lsn - 1))
        have d2 := B2.cell (j := 2) rfl
        have f22 := B2.free 2
        have d8 := B3.cell (j := 8) rfl
        have f38 := B3.free 8
        obtain ⟨w3, hw3⟩ : ∃ wx, wx = w2.setCell ⟨wr.heap.size, 2, none⟩ (.int .i64 (lsn - 1)) := ⟨_, rfl⟩
        rw [← hw3] at B3 k3 B4 k4 d8 f38
        obtain ⟨w4, hw4⟩ : ∃ wx, wx = w3.setCell ⟨wr.heap.size, 8, none⟩ (.int .i64 (lsn - 1)) := ⟨_, rfl⟩
        rw [← hw4] at B4 k4
        go_upto_region 9 with fail
        rw [← hw3]
        clear hw3 d2 f22
        go_upto_region 10 with fail
        rw [← hw4]
        clear hw4 d8 f38
        have hsz := B2.lt
        have hsx := Bx.lt
        have B5 := ((Bx.kept k2 (by simp)).kept k3 (by simp; omega)).kept k4 (by simp; omega)
        clear c1_0 c1_1 c1_2 c1_3 c1_4 c1_5 c1_6 c1_7 c1_8 c1_9 c1_10 f0 f1 f2 f3 f4 f5 f6 f7 f8 f9 f10
        have B4' : Blk w4 wr.heap.size 42 [.int .i64 l.r.kind, .int .i64 l.r.birth, .int .i64 (lsn - 1), .int .i64 l.r.id, .int .i64 l.r.page, .int .i64 l.r.frm, .slice l.r.b.p l.r.b.n l.r.b.c, .slice l.r.a.p l.r.a.n l.r.a.c, .int .i64 (lsn - 1), .slice l.r.r.p l.r.r.n l.r.r.c, .slice l.r.d.p l.r.d.n l.r.d.c] := B4
        clear B4
        have e0 := B4'.cell (j := 0) rfl
        have e1 := B4'.cell (j := 1) rfl
        have e2 := B4'.cell (j := 2) rfl
        have e3 := B4'.cell (j := 3) rfl
        have e4 := B4'.cell (j := 4) rfl
        have e5 := B4'.cell (j := 5) rfl
        have e6 := B4'.cell (j := 6) rfl
        have e7 := B4'.cell (j := 7) rfl
        have e8 := B4'.cell (j := 8) rfl
        have e9 := B4'.cell (j := 9) rfl
        have e10 := B4'.cell (j := 10) rfl
        have c1_0 := B5.cell (j := 0) rfl
        have c1_1 := B5.cell (j := 1) rfl
        have c1_2 := B5.cell (j := 2) rfl
        have c1_3 := B5.cell (j := 3) rfl
        have c1_4 := B5.cell (j := 4) rfl
        have c1_5 := B5.cell (j := 5) rfl
        have c1_6 := B5.cell (j := 6) rfl
        have c1_7 := B5.cell (j := 7) rfl
        have c1_8 := B5.cell (j := 8) rfl
        have c1_9 := B5.cell (j := 9) rfl
        have c1_10 := B5.cell (j := 10) rfl
        have f0 := B5.free 0
        have f1 := B5.free 1
        have f2 := B5.free 2
        have f3 := B5.free 3
        have f4 := B5.free 4
        have f5 := B5.free 5
        have f6 := B5.free 6
        have f7 := B5.free 7
        have f8 := B5.free 8
        have f9 := B5.free 9
        have f10 := B5.free 10
        obtain ⟨BF, kF⟩ := B5.fill11 (.int .i64 l.r.kind) (.int .i64 l.r.birth) (.int .i64 (lsn - 1)) (.int .i64 l.r.id) (.int .i64 l.r.page) (.int .i64 l.r.frm) (.slice l.r.b.p l.r.b.n l.r.b.c) (.slice l.r.a.p l.r.a.n l.r.a.c) (.int .i64 (lsn - 1)) (.slice l.r.r.p l.r.r.n l.r.r.c) (.slice l.r.d.p l.r.d.n l.r.d.c)
        obtain ⟨wF, hwF⟩ : ∃ wF, wF = (((((((((((w4.setCell ⟨w.heap.size, 0, none⟩ (.int .i64 l.r.kind)).setCell ⟨w.heap.size, 1, none⟩ (.int .i64 l.r.birth)).setCell ⟨w.heap.size, 2, none⟩ (.int .i64 (lsn - 1))).setCell ⟨w.heap.size, 3, none⟩ (.int .i64 l.r.id)).setCell ⟨w.heap.size, 4, none⟩ (.int .i64 l.r.page)).setCell ⟨w.heap.size, 5, none⟩ (.int .i64 l.r.frm)).setCell ⟨w.heap.size, 6, none⟩ (.slice l.r.b.p l.r.b.n l.r.b.c)).setCell ⟨w.heap.size, 7, none⟩ (.slice l.r.a.p l.r.a.n l.r.a.c)).setCell ⟨w.heap.size, 8, none⟩ (.int .i64 (lsn - 1))).setCell ⟨w.heap.size, 9, none⟩ (.slice l.r.r.p l.r.r.n l.r.r.c)).setCell ⟨w.heap.size, 10, none⟩ (.slice l.r.d.p l.r.d.n l.r.d.c)) := ⟨_, rfl⟩
        rw [← hwF] at BF kF
        have HK := @hideH _ (((HK0.out.then k2).trans (k3.trans k4 (fun x hx => .inl hx)) (fun x hx => .inr (by simp at hx; omega))).trans kF (fun x hx => .inr (by simp at hx; omega)))
        clear kF k2 k3 k4 B2 B3 B4' B5 Bx hsz hsx
        go_wp2
        rw [← hwF]
        clear hwF e0 e1 e2 e3 e4 e5 e6 e7 e8 e9 e10 c1_0 c1_1 c1_2 c1_3 c1_4 c1_5 c1_6 c1_7 c1_8 c1_9 c1_10 f0 f1 f2 f3 f4 f5 f6 f7 f8 f9 f10
        have q0 := BF.cell (j := 0) rfl
        have q1 := BF.cell (j := 1) rfl
        have q2 := BF.cell (j := 2) rfl
        have q3 := BF.cell (j := 3) rfl
        have q4 := BF.cell (j := 4) rfl
        have q5 := BF.cell (j := 5) rfl
        have q6 := BF.cell (j := 6) rfl
        have q7 := BF.cell (j := 7) rfl
        have q8 := BF.cell (j := 8) rfl
        have q9 := BF.cell (j := 9) rfl
        have q10 := BF.cell (j := 10) rfl
        clear BF
        refine bodyPost_ret (by simp [results, Try.results18, go_sem, q0, q1, q2, q3, q4, q5, q6, q7, q8, q9, q10]; try rfl) rfl ?_
        exact ⟨0, { l.r with prev := lsn - 1, next := lsn - 1 }, rfl, HE.out, HK.out⟩
      · have HE := @hideH _ (readL_no (all := all) HNO.out (by
            cases all with
            | false => exact .inl rfl
            | true => exact .inr (List.length_eq_zero_iff.1 (by have e1 := HN.out.1; have e2 : ¬ 0 < k := fun c => ha ⟨rfl, c⟩; omega))))
        obtain ⟨BF, kF⟩ := Bx.fill11 (.int .i64 0) (.int .i64 0) (.int .i64 0) (.int .i64 0) (.int .i64 0) (.int .i64 0) (.slice none 0 0) (.slice none 0 0) (.int .i64 0) (.slice none 0 0) (.slice none 0 0)
        obtain ⟨wF, hwF⟩ : ∃ wF, wF = (((((((((((wr.setCell ⟨w.heap.size, 0, none⟩ (.int .i64 0)).setCell ⟨w.heap.size, 1, none⟩ (.int .i64 0)).setCell ⟨w.heap.size, 2, none⟩ (.int .i64 0)).setCell ⟨w.heap.size, 3, none⟩ (.int .i64 0)).setCell ⟨w.heap.size, 4, none⟩ (.int .i64 0)).setCell ⟨w.heap.size, 5, none⟩ (.int .i64 0)).setCell ⟨w.heap.size, 6, none⟩ (.slice none 0 0)).setCell ⟨w.heap.size, 7, none⟩ (.slice none 0 0)).setCell ⟨w.heap.size, 8, none⟩ (.int .i64 0)).setCell ⟨w.heap.size, 9, none⟩ (.slice none 0 0)).setCell ⟨w.heap.size, 10, none⟩ (.slice none 0 0)) := ⟨_, rfl⟩
        rw [← hwF] at BF kF
        have HK := @hideH _ (HK0.out.trans kF (fun x hx => .inr (by simp at hx; omega)))
        clear kF Bx HK0 HNO
        cases all with
        | false =>
          clear ha
          go_wp2
          rw [← hwF]
          clear hwF c1_0 c1_1 c1_2 c1_3 c1_4 c1_5 c1_6 c1_7 c1_8 c1_9 c1_10 f0 f1 f2 f3 f4 f5 f6 f7 f8 f9 f10
          have q0 := BF.cell (j := 0) rfl
          have q1 := BF.cell (j := 1) rfl
          have q2 := BF.cell (j := 2) rfl
          have q3 := BF.cell (j := 3) rfl
          have q4 := BF.cell (j := 4) rfl
          have q5 := BF.cell (j := 5) rfl
          have q6 := BF.cell (j := 6) rfl
          have q7 := BF.cell (j := 7) rfl
          have q8 := BF.cell (j := 8) rfl
          have q9 := BF.cell (j := 9) rfl
          have q10 := BF.cell (j := 10) rfl
          clear BF
          refine bodyPost_ret (by simp [results, Try.results18, go_sem, q0, q1, q2, q3, q4, q5, q6, q7, q8, q9, q10]; try rfl) rfl ?_
          exact ⟨110, .zero, rfl, HE.out, HK.out⟩
        | true =>
          have e0 : k = 0 := by have e2 : ¬ 0 < k := fun c => ha ⟨rfl, c⟩; omega
          subst e0
          clear ha
          go_wp2
          rw [← hwF]
          clear hwF c1_0 c1_1 c1_2 c1_3 c1_4 c1_5 c1_6 c1_7 c1_8 c1_9 c1_10 f0 f1 f2 f3 f4 f5 f6 f7 f8 f9 f10
          have q0 := BF.cell (j := 0) rfl
          have q1 := BF.cell (j := 1) rfl
          have q2 := BF.cell (j := 2) rfl
          have q3 := BF.cell (j := 3) rfl
          have q4 := BF.cell (j := 4) rfl
          have q5 := BF.cell (j := 5) rfl
          have q6 := BF.cell (j := 6) rfl
          have q7 := BF.cell (j := 7) rfl
          have q8 := BF.cell (j := 8) rfl
          have q9 := BF.cell (j := 9) rfl
          have q10 := BF.cell (j := 10) rfl
          clear BF
          refine bodyPost_ret (by simp [results, Try.results18, go_sem, q0, q1, q2, q3, q4, q5, q6, q7, q8, q9, q10]; try rfl) rfl ?_
          exact ⟨110, .zero, rfl, HE.out, HK.out⟩
end Go.Proofs.Ytinlhojojeabcaa

/-
  OWN WORK (by mkch4.py). Layer 12: the face of the program's Back and Undo.
-/
namespace Go.Proofs.Ytinlhojojeabcaa
open Go.RowKit
set_option linter.unusedVariables false
set_option linter.unusedSimpArgs false

/-- a function that reads by R, and keeps a book of what it was asked: St w F qs: so far qs, in the blocks F (all else that it hangs on lies below c) -/
structure Asker (gf : Nat) (lb : Array Value) (R : Rdr) (c : Nat) (St : World → List Nat → List Int → Prop) : Prop where
  enters : ∀ args w, (callFunc gf args).run Try.prog w = .ok (.enter gf args) w
  kept : ∀ {w w' : World} {F S : List Nat} {qs : List Int}, St w F qs → Kept S w w' → (∀ x ∈ S, c ≤ x ∧ x ∉ F) → St w' F qs
  lt : ∀ {w : World} {F : List Nat} {qs : List Int}, St w F qs → ∀ x ∈ F, x < w.heap.size
  ask : ∀ {w : World} {F : List Nat} {qs : List Int} (l : Int), St w F qs → qs.length < 4096 → 1 ≤ l → I64 l → Calls Try.prog gf (#[.int .i64 l] ++ lb) w fun e w' => ∃ (q : Int) (r : Lv) (F' : List Nat), e = .returned (.tuple #[.agg #[.int .i64 r.kind, .int .i64 r.birth, .int .i64 r.prev, .int .i64 r.id, .int .i64 r.page, .int .i64 r.frm, .slice r.b.p r.b.n r.b.c, .slice r.a.p r.a.n r.a.c, .int .i64 r.next, .slice r.r.p r.r.n r.r.c, .slice r.d.p r.d.n r.d.c], .int .i64 q]) ∧ R l = (q, r.rc) ∧ r.fits ∧ I64 q ∧ St w' F' (qs ++ [l]) ∧ Kept F w w' ∧ ∀ x ∈ F', x ∈ F ∨ w.heap.size ≤ x
/-- what the laws ask of the program -/
structure ChOps : Prop where
  back : ∀ {gf : Nat} {lb : Array Value} {R : Rdr} {c : Nat} {St : World → List Nat → List Int → Prop}, Asker gf lb R c St → ∀ (F : List Nat) (from_ : Int) (w : World), St w F [] → c ≤ w.heap.size → I64 from_ → Calls Try.prog 20 #[.func (.func gf) #[] lb, .int .i64 from_] w fun e w' => ∃ v F', e = .returned (.tuple #[v, .int .i64 (backL R from_).2.1]) ∧ Ns w' w.heap.size v (backL R from_).1 ∧ St w' F' (backL R from_).2.2 ∧ Kept F w w' ∧ (∀ x ∈ F', x ∈ F ∨ w.heap.size ≤ x) ∧ ∀ x, v.ownBlock = some x → x ∉ F'
  undo : ∀ {gf : Nat} {lb : Array Value} {R : Rdr} {c : Nat} {St : World → List Nat → List Int → Prop}, Asker gf lb R c St → ∀ (F : List Nat) (from_ : Int) (w : World), St w F [] → c ≤ w.heap.size → I64 from_ → Calls Try.prog 19 #[.func (.func gf) #[] lb, .int .i64 from_] w fun e w' => ∃ v F', e = .returned (.tuple #[v, .int .i64 (undoL R from_).2.1]) ∧ Ns w' w.heap.size v (undoL R from_).1 ∧ St w' F' (undoL R from_).2.2 ∧ Kept F w w' ∧ (∀ x ∈ F', x ∈ F ∨ w.heap.size ≤ x) ∧ ∀ x, v.ownBlock = some x → x ∉ F'
end Go.Proofs.Ytinlhojojeabcaa

/-
  OWN WORK (by mkch4.py). Layer 12: the law's read, and what it keeps.
-/
namespace Go.Proofs.Ytinlhojojeabcaa
open Go.RowKit
set_option linter.unusedVariables false
set_option linter.unusedSimpArgs false

/-- what the law's read hangs on: the lines at b, all at b + 1, what was asked at b + 2 -/
def Bk (b : Nat) (vl : Value) (ls : List Ln) (all : Bool) (w : World) (F : List Nat) (qs : List Int) : Prop :=
  ∃ v, F = (b + 2) :: v.ownBlock.toList ∧ Blk w (b + 2) 24 [v] ∧ Ns w (b + 3) v qs ∧ Blk w b 22 [vl] ∧ Blk w (b + 1) 4 [.bool all] ∧ Lines w vl ls ∧ ∀ x, ls ≠ [] → vl.ownBlock = some x → x < b
theorem Lines.keptb {w w' : World} {v : Value} {ls : List Ln} {S : List Nat} (h : Lines w v ls) (k : Kept S w w') (hS : ∀ x, ls ≠ [] → v.ownBlock = some x → x ∉ S) : Lines w' v ls := by
  obtain ⟨h0, p, c, rfl, h1, h2, h3⟩ := h
  refine ⟨h0, p, c, rfl, h1, h2, fun hne => ?_⟩
  obtain ⟨b, o, rfl, hb, h4⟩ := h3 hne
  exact ⟨b, o, rfl, Nat.lt_of_lt_of_le hb k.size, fun i l hl j u hj => k.cell (h4 i l hl j u hj) (hS b hne rfl)⟩
theorem Bk.kept {b : Nat} {vl : Value} {ls : List Ln} {all : Bool} {w w' : World} {F S : List Nat} {qs : List Int} (h : Bk b vl ls all w F qs) (k : Kept S w w') (hS : ∀ x ∈ S, b + 2 ≤ x ∧ x ∉ F) : Bk b vl ls all w' F qs := by
  obtain ⟨v, rfl, h1, h2, h3, h4, h5, h6⟩ := h
  have q : ∀ x, x < b + 2 → x ∉ S := fun x hx hm => by have := (hS x hm).1; omega
  exact ⟨v, rfl, h1.kept k (fun hm => (hS _ hm).2 (by simp)), h2.kept k (fun x hx hm => (hS x hm).2 (by simp [hx])), h3.kept k (q _ (by omega)), h4.kept k (q _ (by omega)), h5.keptb k (fun x hn hx => q x (by have := h6 x hn hx; omega)), h6⟩
theorem Bk.lt {b : Nat} {vl : Value} {ls : List Ln} {all : Bool} {w : World} {F : List Nat} {qs : List Int} (h : Bk b vl ls all w F qs) : ∀ x ∈ F, x < w.heap.size := by
  obtain ⟨v, rfl, h1, h2, -⟩ := h
  intro x hx
  rcases List.mem_cons.1 hx with e | e
  · subst e; exact h1.lt
  · exact (h2.lt (Option.mem_toList.1 e)).2
set_option maxRecDepth 20000 in
set_option maxHeartbeats 3200000 in
theorem read_any (b : Nat) (vl : Value) (ls : List Ln) (all : Bool) (F : List Nat) (qs : List Int) (l : Int) (w : World) (h : Bk b vl ls all w F qs) (ha : qs.length < 4096) (h1 : 1 ≤ l) (h2 : I64 l) : Calls Try.prog 17 #[.int .i64 l, .pointer (some ⟨b + 2, 0, none⟩), .pointer (some ⟨b, 0, none⟩), .pointer (some ⟨b + 1, 0, none⟩)] w fun e w' => ∃ (q : Int) (r : Lv) (F' : List Nat), e = .returned (.tuple #[.agg #[.int .i64 r.kind, .int .i64 r.birth, .int .i64 r.prev, .int .i64 r.id, .int .i64 r.page, .int .i64 r.frm, .slice r.b.p r.b.n r.b.c, .slice r.a.p r.a.n r.a.c, .int .i64 r.next, .slice r.r.p r.r.n r.r.c, .slice r.d.p r.d.n r.d.c], .int .i64 q]) ∧ rdr ls all l = (q, r.rc) ∧ r.fits ∧ I64 q ∧ Bk b vl ls all w' F' (qs ++ [l]) ∧ Kept F w w' ∧ ∀ x ∈ F', x ∈ F ∨ w.heap.size ≤ x := by
  obtain ⟨inf, hin1, hin2, hin3, hin4⟩ := info_parts3 (show (Try.prog.info? 3).map (fun i => (i.zero, i.size, i.bytes)) = some (some (.int .i64 0), 1, 8) by kernel_rfl)
  have HI := @hideH _ (And.intro hin1 (And.intro hin2 (And.intro hin3 hin4)))
  clear hin1 hin2 hin3 hin4
  obtain ⟨v, rfl, bg, hns, bl, ba, hL, hlt⟩ := h
  have hg := bg.lt
  have hgl := bl.lt
  have hga := ba.lt
  obtain ⟨p, c, hv⟩ := hns.shape
  subst hv
  obtain ⟨n, hn⟩ : ∃ n, n = qs.length := ⟨_, rfl⟩
  rw [← hn] at bg hns ha ⊢
  obtain ⟨w1, hw1⟩ : ∃ wx, wx = w.alloc (.cells #[.int .i64 0, .int .i64 0, .int .i64 0, .int .i64 0, .int .i64 0, .int .i64 0, .slice none 0 0, .slice none 0 0, .int .i64 0, .slice none 0 0, .slice none 0 0] 42) := ⟨_, rfl⟩
  have k1 : Kept [] w w1 := by rw [hw1]; exact (Kept.refl [] w).alloc _
  have B1 : Blk w1 w.heap.size 42 [.int .i64 0, .int .i64 0, .int .i64 0, .int .i64 0, .int .i64 0, .int .i64 0, .slice none 0 0, .slice none 0 0, .int .i64 0, .slice none 0 0, .slice none 0 0] := by rw [hw1]; exact Blk.new w _ _
  have z1 : w1.heap.size = w.heap.size + 1 := by rw [hw1, World.size_alloc]
  have HN := @hideH _ ha
  have cg := (bg.kept k1 (by simp)).cell (j := 0) rfl
  have HS := @hideH _ (show w.heap.size ≤ w1.heap.size ∧ b + 2 < w.heap.size by omega)
  have hb3 : b + 3 ≤ w1.heap.size := by omega
  have hrow : Row w1 (b + 3) 1 (.slice p n c) n (i64s qs) := by have q := hns.kept k1 (by simp); rw [hn]; rw [hn] at q; exact q
  have HQ := @hideH _ (And.intro hns (And.intro bg (And.intro bl (And.intro ba (And.intro hL (And.intro hlt (And.intro hn (And.intro k1 (And.intro B1 (And.intro h1 h2))))))))))
  clear hns bg bl ba hL hlt hn hg hgl hga k1 B1 h1 h2 ha z1
  go_enter Try.func17, Try.ntmps17
  go_upto_region 1 with fail
  rw [← hw1]
  clear hw1
  go_upto_if 11 with fail
  rw [show decide ((n : Int) < 5000) = true from decide_eq_true (by have := HN.out; omega)]
  have hsrc2 := src_i64 (P := Try.prog) w1 24 3 Try.underlying24 l
  have ka2 : Kept [] w1 (w1.alloc (.cells #[.int .i64 l] 3)) := (Kept.refl [] w1).alloc _
  have hrow2 : Row (w1.alloc (.cells #[.int .i64 l] 3)) (b + 3) 1 (.slice p n c) n (i64s qs) := Row.kept hrow ka2 (by simp)
  go_upto_region 3 with (at_builtin; refine wpList_append_row2 rfl (.tmp 12) (.tmp 14) 24 rfl (b + 3) 3 inf (.int .i64 0) 1 8 Try.underlying24 HI.out.1 HI.out.2.1 HI.out.2.2.1 HI.out.2.2.2 rfl _ _ _ (by rfl) hrow2 _ 1 [.int .i64 l] (by rfl) hsrc2 (by have := HN.out; omega) (by have := HN.out; unfold maxLen; omega) (by have := HN.out; omega) (by have := hb3; rw [World.size_alloc]; omega) ?_; intro v2 w2 r2 k2 at2; obtain ⟨p2, c2, hv2, -⟩ := Row.shape r2; subst hv2; have b2 : Blk w2 (b + 2) 24 [.slice p n c] := ((HQ.out.2.1.kept HQ.out.2.2.2.2.2.2.2.1 (by simp)).kept ka2 (by simp)).kept k2 (fun hm => by have := (HQ.out.1.lt (Option.mem_toList.1 hm)).1; omega); have cg2 := b2.cell (j := 0) rfl; have fg2 := b2.free 0; have HR := @hideH _ (And.intro r2 (And.intro k2 (And.intro at2 (And.intro ka2 b2)))); clear r2 k2 at2 ka2 b2; clear hrow2 hsrc2)
  obtain ⟨w3, hw3⟩ : ∃ wx, wx = w2.setCell ⟨b + 2, 0, none⟩ (.slice p2 (n + 1) c2) := ⟨_, rfl⟩
  try rw [← hw3]
  have b3 := HR.out.2.2.2.2.set 0 (.slice p2 (n + 1) c2)
  rw [← hw3] at b3
  clear hw3 cg2 fg2 cg
  have k23 := b3.2
  have B3 : Blk w3 (b + 2) 24 [.slice p2 (n + 1) c2] := b3.1
  have kw1 : Kept (Value.slice p n c).ownBlock.toList w w2 := ((HQ.out.2.2.2.2.2.2.2.1).then HR.out.2.2.2.1).mono (T := (Value.slice p n c).ownBlock.toList) (by simp) |>.trans HR.out.2.1 (fun x hx => .inl hx)
  have own : ∀ x, (Value.slice p n c).ownBlock = some x → b + 3 ≤ x ∧ x < w.heap.size := fun x hx => HQ.out.1.lt hx
  have kw3 : Kept ((b + 2) :: (Value.slice p n c).ownBlock.toList) w w3 := (kw1.mono (T := (b + 2) :: (Value.slice p n c).ownBlock.toList) (fun x hx => List.mem_cons_of_mem _ hx)).trans k23 (fun x hx => .inl (by simp at hx; simp [hx]))
  have low : ∀ x, x < b + 2 → x ∉ (b + 2) :: (Value.slice p n c).ownBlock.toList := fun x hx hm => by
    rcases List.mem_cons.1 hm with e | e
    · omega
    · have := own x (Option.mem_toList.1 e); omega
  have bl3 := HQ.out.2.2.1.kept kw3 (low _ (by omega))
  have ba3 := HQ.out.2.2.2.1.kept kw3 (low _ (by omega))
  have hL3 := HQ.out.2.2.2.2.1.keptb kw3 (fun x hn hx => low x (by have := HQ.out.2.2.2.2.2.1 x hn hx; omega))
  have n2 : Ns w2 (b + 3) (.slice p2 (n + 1) c2) (qs ++ [l]) := Ns.push HQ.out.2.2.2.2.2.2.1 HR.out.1
  have n3 := n2.kept k23 (fun x hx hm => by simp at hm; have := (n2.lt hx).1; omega)
  have F' : ∀ x ∈ (b + 2) :: (Value.slice p2 (n + 1) c2).ownBlock.toList, x ∈ (b + 2) :: (Value.slice p n c).ownBlock.toList ∨ w.heap.size ≤ x := fun x hm => by
    rcases List.mem_cons.1 hm with e | e
    · exact .inl (by simp [e])
    · rcases HR.out.2.2.1 with q | ⟨q, -⟩
      · rw [q] at e; exact .inl (List.mem_cons_of_mem _ e)
      · rw [q] at e; refine .inr ?_; have e2 : (w1.alloc (.cells #[.int .i64 l] 3)).heap.size = x := (by simpa using e : x = _).symm
        rw [World.size_alloc] at e2; have := HS.out; omega
  have hB : Blk w3 w.heap.size 42 [.int .i64 0, .int .i64 0, .int .i64 0, .int .i64 0, .int .i64 0, .int .i64 0, .slice none 0 0, .slice none 0 0, .int .i64 0, .slice none 0 0, .slice none 0 0] := (((HQ.out.2.2.2.2.2.2.2.2.1).kept HR.out.2.2.2.1 (by simp)).kept HR.out.2.1 (fun hm => by have := own _ (Option.mem_toList.1 hm); omega)).kept k23 (by have := HS.out; simp; omega)
  have cl := bl3.cell (j := 0) rfl
  have ca := ba3.cell (j := 0) rfl
  have HT := @hideH _ (And.intro kw3 (And.intro bl3 (And.intro ba3 (And.intro hL3 (And.intro n3 (And.intro F' (And.intro B3 hB)))))))
  clear kw3 bl3 ba3 hL3 n3 F' B3 hB n2 own low kw1 k23 b3
  go_wp2_with fail
  refine (rRead vl ls all l w3 HT.out.2.2.2.1 HQ.out.2.2.2.2.2.2.2.2.2.1 HQ.out.2.2.2.2.2.2.2.2.2.2).mono ?_
  rintro e w4 ⟨q, r, rfl, hr, k4⟩
  have hfit := readL_fits (all := all) (lsn := l) HT.out.2.2.2.1.1 HQ.out.2.2.2.2.2.2.2.2.2.1 HQ.out.2.2.2.2.2.2.2.2.2.2
  rw [hr] at hfit
  have hR : rdr ls all l = (q, r.rc) := by unfold rdr; rw [hr]
  obtain ⟨w5, hw5⟩ : ∃ wx, wx = w4.alloc (.cells #[.int .i64 r.kind, .int .i64 r.birth, .int .i64 r.prev, .int .i64 r.id, .int .i64 r.page, .int .i64 r.frm, .slice r.b.p r.b.n r.b.c, .slice r.a.p r.a.n r.a.c, .int .i64 r.next, .slice r.r.p r.r.n r.r.c, .slice r.d.p r.d.n r.d.c] 42) := ⟨_, rfl⟩
  have k5 : Kept [] w4 w5 := by rw [hw5]; exact (Kept.refl [] w4).alloc _
  have B5 : Blk w5 w4.heap.size 42 [.int .i64 r.kind, .int .i64 r.birth, .int .i64 r.prev, .int .i64 r.id, .int .i64 r.page, .int .i64 r.frm, .slice r.b.p r.b.n r.b.c, .slice r.a.p r.a.n r.a.c, .int .i64 r.next, .slice r.r.p r.r.n r.r.c, .slice r.d.p r.d.n r.d.c] := by rw [hw5]; exact Blk.new w4 _ _
  have K5 := k4.then k5
  have hB5 := HT.out.2.2.2.2.2.2.2.kept K5 (by simp)
  have hlt5 := hB5.lt
  have hne5 : w.heap.size < w4.heap.size := Nat.lt_of_lt_of_le (HT.out.2.2.2.2.2.2.2).lt k4.size
  go_upto_region 4 with fail
  rw [← hw5]
  clear hw5 cl ca
  have x0 := B5.cell (j := 0) rfl
  have x1 := B5.cell (j := 1) rfl
  have x2 := B5.cell (j := 2) rfl
  have x3 := B5.cell (j := 3) rfl
  have x4 := B5.cell (j := 4) rfl
  have x5 := B5.cell (j := 5) rfl
  have x6 := B5.cell (j := 6) rfl
  have x7 := B5.cell (j := 7) rfl
  have x8 := B5.cell (j := 8) rfl
  have x9 := B5.cell (j := 9) rfl
  have x10 := B5.cell (j := 10) rfl
  have y0 := hB5.cell (j := 0) rfl
  have y1 := hB5.cell (j := 1) rfl
  have y2 := hB5.cell (j := 2) rfl
  have y3 := hB5.cell (j := 3) rfl
  have y4 := hB5.cell (j := 4) rfl
  have y5 := hB5.cell (j := 5) rfl
  have y6 := hB5.cell (j := 6) rfl
  have y7 := hB5.cell (j := 7) rfl
  have y8 := hB5.cell (j := 8) rfl
  have y9 := hB5.cell (j := 9) rfl
  have y10 := hB5.cell (j := 10) rfl
  have f0 := hB5.free 0
  have f1 := hB5.free 1
  have f2 := hB5.free 2
  have f3 := hB5.free 3
  have f4 := hB5.free 4
  have f5 := hB5.free 5
  have f6 := hB5.free 6
  have f7 := hB5.free 7
  have f8 := hB5.free 8
  have f9 := hB5.free 9
  have f10 := hB5.free 10
  obtain ⟨BF, kF⟩ := hB5.fill11 (.int .i64 r.kind) (.int .i64 r.birth) (.int .i64 r.prev) (.int .i64 r.id) (.int .i64 r.page) (.int .i64 r.frm) (.slice r.b.p r.b.n r.b.c) (.slice r.a.p r.a.n r.a.c) (.int .i64 r.next) (.slice r.r.p r.r.n r.r.c) (.slice r.d.p r.d.n r.d.c)
  obtain ⟨wF, hwF⟩ : ∃ wF, wF = (((((((((((w5.setCell ⟨w.heap.size, 0, none⟩ (.int .i64 r.kind)).setCell ⟨w.heap.size, 1, none⟩ (.int .i64 r.birth)).setCell ⟨w.heap.size, 2, none⟩ (.int .i64 r.prev)).setCell ⟨w.heap.size, 3, none⟩ (.int .i64 r.id)).setCell ⟨w.heap.size, 4, none⟩ (.int .i64 r.page)).setCell ⟨w.heap.size, 5, none⟩ (.int .i64 r.frm)).setCell ⟨w.heap.size, 6, none⟩ (.slice r.b.p r.b.n r.b.c)).setCell ⟨w.heap.size, 7, none⟩ (.slice r.a.p r.a.n r.a.c)).setCell ⟨w.heap.size, 8, none⟩ (.int .i64 r.next)).setCell ⟨w.heap.size, 9, none⟩ (.slice r.r.p r.r.n r.r.c)).setCell ⟨w.heap.size, 10, none⟩ (.slice r.d.p r.d.n r.d.c)) := ⟨_, rfl⟩
  rw [← hwF] at BF kF
  have K6 := (HT.out.1.trans (K5.mono (T := (b + 2) :: (Value.slice p n c).ownBlock.toList) (by simp)) (fun x hx => .inl hx)).trans kF (fun x hx => .inr (by simp at hx; omega))
  have s35 : w3.heap.size ≤ w5.heap.size := K5.size
  have ho : ∀ x, (Value.slice p2 (n + 1) c2).ownBlock = some x → x ≠ w.heap.size := fun x hx c => by
    rcases HR.out.2.2.1 with q | ⟨q, -⟩
    · rw [q] at hx; have := (HQ.out.1.lt hx).2; omega
    · rw [q] at hx; have e2 := Option.some.inj hx; rw [World.size_alloc] at e2; have := HS.out; have e3 := HQ.out.2.2.2.2.2.2.2.2.1.lt; omega
  have BKF : Bk b vl ls all wF ((b + 2) :: (Value.slice p2 (n + 1) c2).ownBlock.toList) (qs ++ [l]) := by
    have q1 : Bk b vl ls all w5 ((b + 2) :: (Value.slice p2 (n + 1) c2).ownBlock.toList) (qs ++ [l]) := ⟨_, rfl, HT.out.2.2.2.2.2.2.1.kept K5 (by simp), HT.out.2.2.2.2.1.kept K5 (by simp), HT.out.2.1.kept K5 (by simp), HT.out.2.2.1.kept K5 (by simp), HT.out.2.2.2.1.kept K5 (by simp), HQ.out.2.2.2.2.2.1⟩
    refine q1.kept kF (fun x hx => ?_)
    simp at hx
    subst hx
    refine ⟨by have := HS.out; omega, fun hm => ?_⟩
    rcases List.mem_cons.1 hm with e | e
    · have := HS.out; omega
    · exact ho _ (Option.mem_toList.1 e) rfl
  have HZ := @hideH _ (And.intro K6 (And.intro BKF (And.intro hR hfit)))
  clear K6 BKF hR hfit kF k4 k5 K5 s35 ho hB5 B5 hlt5 hne5 hr
  go_wp2
  rw [← hwF]
  clear hwF x0 x1 x2 x3 x4 x5 x6 x7 x8 x9 x10 y0 y1 y2 y3 y4 y5 y6 y7 y8 y9 y10 f0 f1 f2 f3 f4 f5 f6 f7 f8 f9 f10
  have q0 := BF.cell (j := 0) rfl
  have q1 := BF.cell (j := 1) rfl
  have q2 := BF.cell (j := 2) rfl
  have q3 := BF.cell (j := 3) rfl
  have q4 := BF.cell (j := 4) rfl
  have q5 := BF.cell (j := 5) rfl
  have q6 := BF.cell (j := 6) rfl
  have q7 := BF.cell (j := 7) rfl
  have q8 := BF.cell (j := 8) rfl
  have q9 := BF.cell (j := 9) rfl
  have q10 := BF.cell (j := 10) rfl
  clear BF
  refine bodyPost_ret (by simp [results, Try.results17, go_sem, q0, q1, q2, q3, q4, q5, q6, q7, q8, q9, q10]; try rfl) rfl ?_
  exact ⟨q, r, _, rfl, HZ.out.2.2.1, HZ.out.2.2.2.1, HZ.out.2.2.2.2, HZ.out.2.1, HZ.out.1, HT.out.2.2.2.2.2.1⟩
theorem read_asks (b : Nat) (vl : Value) (ls : List Ln) (all : Bool) : Asker 17 #[.pointer (some ⟨b + 2, 0, none⟩), .pointer (some ⟨b, 0, none⟩), .pointer (some ⟨b + 1, 0, none⟩)] (rdr ls all) (b + 2) (Bk b vl ls all) where
  enters := enters_of Try.func17 (by kernel_rfl) rfl
  kept := Bk.kept
  lt := Bk.lt
  ask := fun l h ha h1 h2 => read_any b vl ls all _ _ l _ h ha h1 h2
end Go.Proofs.Ytinlhojojeabcaa

/-
  OWN WORK (by mkch5.py). Layer 12: the law's asking.
-/
namespace Go.Proofs.Ytinlhojojeabcaa
open Go.RowKit
set_option linter.unusedVariables false
set_option linter.unusedSimpArgs false

def askL (undo : Bool) (R : Rdr) (from_ : Int) : List Int × Int × List Int := if undo = true then undoL R from_ else backL R from_
set_option maxRecDepth 20000 in
set_option maxHeartbeats 3200000 in
theorem asking_any (O : ChOps) (v : Value) (ls : List Ln) (all undo : Bool) (from_ : Int) (w : World) (h : Lines w v ls) (hf : I64 from_) : Calls Try.prog 9 #[v, .bool all, .bool undo, .int .i64 from_] w fun e w' => ∃ a p, e = .returned (.tuple #[a, .int .i64 (askL undo (rdr ls all) from_).2.1, p]) ∧ Ns w' w.heap.size a (askL undo (rdr ls all) from_).1 ∧ Ns w' w.heap.size p (askL undo (rdr ls all) from_).2.2 ∧ Apt a p ∧ Kept [] w w' := by
  obtain ⟨A, hA⟩ : ∃ A, A = askL undo (rdr ls all) from_ := ⟨_, rfl⟩
  rw [← hA]
  have HA := @hideH _ hA
  clear hA
  have hmf : ∀ (fn : Fn) (first cap : Array Value) (w : World), (Instr.makeFunc fn first cap).run Try.prog w = .ok (.func fn first cap) w := fun _ _ _ _ => rfl
  obtain ⟨w1, hw1⟩ : ∃ wx, wx = w.alloc (.cells #[v] 22) := ⟨_, rfl⟩
  obtain ⟨w2, hw2⟩ : ∃ wx, wx = w1.alloc (.cells #[.bool all] 4) := ⟨_, rfl⟩
  obtain ⟨w3, hw3⟩ : ∃ wx, wx = w2.alloc (.cells #[.slice none 0 0] 24) := ⟨_, rfl⟩
  have z1 : w1.heap.size = w.heap.size + 1 := by rw [hw1, World.size_alloc]
  have z2 : w2.heap.size = w.heap.size + 2 := by rw [hw2, World.size_alloc, z1]
  have z3 : w3.heap.size = w.heap.size + 3 := by rw [hw3, World.size_alloc, z2]
  have k1 : Kept [] w w1 := by rw [hw1]; exact (Kept.refl [] w).alloc _
  have k2 : Kept [] w1 w2 := by rw [hw2]; exact (Kept.refl [] w1).alloc _
  have k3 : Kept [] w2 w3 := by rw [hw3]; exact (Kept.refl [] w2).alloc _
  have B1 : Blk w1 w.heap.size 22 [v] := by rw [hw1]; exact Blk.new w _ _
  have B2 : Blk w2 w1.heap.size 4 [.bool all] := by rw [hw2]; exact Blk.new w1 _ _
  have B3 : Blk w3 w2.heap.size 24 [.slice none 0 0] := by rw [hw3]; exact Blk.new w2 _ _
  rw [z1] at B2
  rw [z2] at B3
  have hBk : Bk w.heap.size v ls all w3 [w.heap.size + 2] [] := ⟨.slice none 0 0, rfl, B3, Ns.nil _ _, (B1.kept k2 (by simp)).kept k3 (by simp), B2.kept k3 (by simp), ((h.kept k1 (by simp)).kept k2 (by simp)).kept k3 (by simp), fun x hn hx => h.ownlt hx hn⟩
  have HB := @hideH _ (And.intro hBk (And.intro ((k1.then k2).then k3) z3))
  have HF := @hideH _ hf
  clear hBk B1 B2 B3 k1 k2 k3 z3 h hf
  obtain ⟨pv, cv, nv, hv⟩ : ∃ p c n, v = .slice p n c := by obtain ⟨v', e1, e2, e3, e4, e5, e6, e7⟩ := HB.out.1; obtain ⟨p, c, e, -⟩ := e6.shape; exact ⟨p, c, _, e⟩
  subst hv
  go_enter Try.func9, Try.ntmps9
  go_upto_region 2 with fail
  rw [← hw1, ← hw2, ← hw3]
  clear hw1 hw2 hw3
  rw [show w.heap.size + 1 + 1 = w.heap.size + 2 from rfl]
  clear z1 z2
  cases undo with
  | false =>
    have hO := O.back (read_asks w.heap.size (.slice pv nv cv) ls all) [w.heap.size + 2] from_ w3 HB.out.1 (by rw [HB.out.2.2]; omega) HF.out
    rw [show backL (rdr ls all) from_ = A from HA.out.symm] at hO
    clear HA
    go_wp2_with fail
    refine hO.mono ?_
    clear hO
    rintro e w4 ⟨a, F', rfl, na, hb, k4, hF, ho⟩
    obtain ⟨vp, eF, bg, np, -⟩ := hb
    have K4 : Kept [] w w4 := HB.out.2.1.trans k4 (fun x hx => .inr (by simp at hx; omega))
    have c4 := bg.cell (j := 0) rfl
    obtain ⟨pp, cp, hvp⟩ := np.shape
    subst hvp
    obtain ⟨pa, ca, hva⟩ := na.shape
    subst hva
    have hap : Apt (.slice pa A.1.length ca) (.slice pp A.2.2.length cp) := fun x hx c => ho x hx (by rw [eF]; exact List.mem_cons_of_mem _ (Option.mem_toList.2 c))
    have HZ := @hideH _ (And.intro (na.mono (by rw [HB.out.2.2]; omega : w.heap.size ≤ w3.heap.size)) (And.intro (np.mono (by omega : w.heap.size ≤ w.heap.size + 3)) (And.intro hap K4)))
    clear na np bg k4 hF ho eF hap K4
    go_wp2
    go_quiet (fail)
    try go_wp2
    refine bodyPost_ret (by simp [results, Try.results9, go_sem]; try rfl) rfl ?_
    exact ⟨_, _, rfl, HZ.out.1.kept ((Kept.refl [] w4).drewN' _) (by simp), HZ.out.2.1.kept ((Kept.refl [] w4).drewN' _) (by simp), HZ.out.2.2.1, HZ.out.2.2.2.drewN' _⟩
  | true =>
    have hO := O.undo (read_asks w.heap.size (.slice pv nv cv) ls all) [w.heap.size + 2] from_ w3 HB.out.1 (by rw [HB.out.2.2]; omega) HF.out
    rw [show undoL (rdr ls all) from_ = A from HA.out.symm] at hO
    clear HA
    go_wp2_with fail
    refine hO.mono ?_
    clear hO
    rintro e w4 ⟨a, F', rfl, na, hb, k4, hF, ho⟩
    obtain ⟨vp, eF, bg, np, -⟩ := hb
    have K4 : Kept [] w w4 := HB.out.2.1.trans k4 (fun x hx => .inr (by simp at hx; omega))
    have c4 := bg.cell (j := 0) rfl
    obtain ⟨pp, cp, hvp⟩ := np.shape
    subst hvp
    obtain ⟨pa, ca, hva⟩ := na.shape
    subst hva
    have hap : Apt (.slice pa A.1.length ca) (.slice pp A.2.2.length cp) := fun x hx c => ho x hx (by rw [eF]; exact List.mem_cons_of_mem _ (Option.mem_toList.2 c))
    have HZ := @hideH _ (And.intro (na.mono (by rw [HB.out.2.2]; omega : w.heap.size ≤ w3.heap.size)) (And.intro (np.mono (by omega : w.heap.size ≤ w.heap.size + 3)) (And.intro hap K4)))
    clear na np bg k4 hF ho eF hap K4
    go_wp2
    go_quiet (fail)
    try go_wp2
    refine bodyPost_ret (by simp [results, Try.results9, go_sem]; try rfl) rfl ?_
    exact ⟨_, _, rfl, HZ.out.1.kept ((Kept.refl [] w4).drewN' _) (by simp), HZ.out.2.1.kept ((Kept.refl [] w4).drewN' _) (by simp), HZ.out.2.2.1, HZ.out.2.2.2.drewN' _⟩
end Go.Proofs.Ytinlhojojeabcaa

/-
  OWN WORK (by mkch4.py). Layer 12: the law's same.
-/
namespace Go.Proofs.Ytinlhojojeabcaa
open Go.RowKit
set_option linter.unusedVariables false
set_option linter.unusedSimpArgs false

theorem lists_ne {la lb : List Int} {k : Nat} (h : la.getD k 0 ≠ lb.getD k 0) : la ≠ lb := fun e => h (by rw [e])
theorem lists_eq {la lb : List Int} (hl : la.length = lb.length) (h : ∀ i, i < la.length → la.getD i 0 = lb.getD i 0) : la = lb := by
  apply List.ext_getElem hl
  intro i h1 h2
  have q := h i h1
  rw [List.getD_eq_getElem?_getD, List.getD_eq_getElem?_getD, List.getElem?_eq_getElem h1, List.getElem?_eq_getElem h2] at q
  exact q
set_option maxRecDepth 20000 in
set_option maxHeartbeats 1600000 in
theorem same_any (a b : Value) (la lb : List Int) (b1 b2 : Nat) (w : World) (ha : Ns w b1 a la) (hb : Ns w b2 b lb) : Calls Try.prog 12 #[a, b] w fun e w' => e = .returned (.bool (decide (la = lb))) ∧ Kept [] w w' := by
  obtain ⟨p, c, hpa⟩ := ha.shape
  subst hpa
  obtain ⟨q, d, hqb⟩ := hb.shape
  subst hqb
  obtain ⟨n, hn⟩ : ∃ n, n = la.length := ⟨_, rfl⟩
  obtain ⟨m, hm⟩ : ∃ m, m = lb.length := ⟨_, rfl⟩
  have HA := @hideH _ ha
  have HB := @hideH _ hb
  have HN := @hideH _ (And.intro hn (And.intro hm ha.len))
  rw [← hn, ← hm]
  clear ha hb hn hm
  go_enter Try.func12, Try.ntmps12
  by_cases hl : n = m
  · subst hl
    go_wp2
    go_loopw [5] (fun i wr => ∃ k : Nat, k ≤ n ∧ i = .int .i64 k ∧ Hid ((∀ i, i < k → la.getD i 0 = lb.getD i 0) ∧ Kept [] w wr)) (fun i _ => n - (intOf i).toNat)
    case atStart => exact ⟨0, Nat.zero_le _, rfl, (fun i hi => absurd hi (Nat.not_lt_zero i)), Kept.refl _ _⟩
    case round =>
      obtain ⟨k, hk, rfl, hh⟩ := hrel
      by_cases hkl : k < n
      · have hkl' : (k : Int) < (n : Int) := by omega
        have h0 : (0 : Int) ≤ (k : Int) := by omega
        have wk : IntKind.i64.wrap ((k : Int) + 1) = (k : Int) + 1 := wrap_i64_of (by omega) (by have e1 := HN.out.1; have e2 := HN.out.2.2; unfold maxLen at e2; omega)
        obtain ⟨ga, epa, -, ca, -⟩ := HA.out.at (j := k) (by have := HN.out.1; omega)
        obtain ⟨gb, epb, -, cb, -⟩ := HB.out.at (j := k) (by have := HN.out.2.1; omega)
        subst epa epb
        have ca' := hh.out.2.cell ca (by simp)
        have cb' := hh.out.2.cell cb (by simp)
        obtain ⟨x, hx⟩ : ∃ x, x = la.getD k 0 := ⟨_, rfl⟩
        obtain ⟨y, hy⟩ : ∃ y, y = lb.getD k 0 := ⟨_, rfl⟩
        rw [← hx] at ca'
        rw [← hy] at cb'
        clear ca cb
        by_cases hxy : x = y
        · have hxy' : (x != y) = false := by simpa using hxy
          have HH := @hideH _ (show ∀ i, i < k + 1 → la.getD i 0 = lb.getD i 0 from fun i hi => by
            by_cases c : i = k
            · subst c; rw [← hx, ← hy]; exact hxy
            · exact hh.out.1 i (by omega))
          have HK := @hideH _ hh.out.2
          clear hx hy hxy hh
          go_wp2
          go_quiet (fail)
          go_wp2
          go_roundw
          case rel => exact ⟨k + 1, by omega, by go_num, HH.out, HK.out.drewN' _⟩
          case measure => simp [intOf]; omega
        · have hxy' : (x != y) = true := by simpa using hxy
          have HE := @hideH _ (show la ≠ lb from lists_ne (k := k) (by rw [← hx, ← hy]; exact hxy))
          have HK := @hideH _ hh.out.2
          clear hx hy hxy hh
          go_wp2
          go_quiet (fail)
          go_wp2
          go_ret
          exact ⟨by rw [decide_eq_false HE.out]; rfl, HK.out.drewN' _⟩
      · have HE := @hideH _ (show la = lb from lists_eq (by rw [← HN.out.1, ← HN.out.2.1]) (fun i hi => hh.out.1 i (by have := HN.out.1; omega)))
        go_wp2
        go_ret
        exact ⟨by rw [decide_eq_true HE.out]; rfl, hh.out.2⟩
  · have hl' : ((n : Int) != (m : Int)) = true := by simp; omega
    have HE := @hideH _ (show la ≠ lb from fun e => hl (by rw [HN.out.1, HN.out.2.1, e]))
    clear hl
    go_wp2
    go_ret
    exact ⟨by rw [decide_eq_false HE.out]; rfl, Kept.refl _ _⟩
theorem same_eq (a b : Value) (l : List Int) (b1 b2 : Nat) (w : World) (ha : Ns w b1 a l) (hb : Ns w b2 b l) : Calls Try.prog 12 #[a, b] w fun e w' => e = .returned (.bool true) ∧ Kept [] w w' := by
  have q := same_any a b l l b1 b2 w ha hb
  rw [decide_eq_true (rfl : l = l)] at q
  exact q
end Go.Proofs.Ytinlhojojeabcaa

/-
  OWN WORK (by mkch6.py). Layer 12: the law's book, known.
-/
namespace Go.Proofs.Ytinlhojojeabcaa
open Go.RowKit
set_option linter.unusedVariables false
set_option linter.unusedSimpArgs false

def flatL : List Ln → List Value
  | [] => []
  | l :: ls => l.cells ++ flatL ls
theorem Ln.cells_length (l : Ln) : l.cells.length = 12 := rfl
theorem flatL_length : ∀ ls : List Ln, (flatL ls).length = ls.length * 12
  | [] => rfl
  | l :: ls => by rw [flatL, List.length_append, l.cells_length, flatL_length ls, List.length_cons]; omega
theorem flatL_at : ∀ (ls : List Ln) (i : Nat) (l : Ln) (j : Nat) (u : Value), ls[i]? = some l → l.cells[j]? = some u → (flatL ls)[i * 12 + j]? = some u
  | [], i, l, j, u, h, _ => by simp at h
  | m :: ls, 0, l, j, u, h, hj => by
    simp at h
    subst h
    rw [flatL, List.getElem?_append_left (by have := (List.getElem?_eq_some_iff.1 hj).1; omega)]
    rw [Nat.zero_mul, Nat.zero_add]
    exact hj
  | m :: ls, i + 1, l, j, u, h, hj => by
    rw [flatL, List.getElem?_append_right (by rw [m.cells_length]; omega), m.cells_length, show (i + 1) * 12 + j - 12 = i * 12 + j by omega]
    exact flatL_at ls i l j u (by simpa using h) hj
theorem flatL_append (a b : List Ln) : flatL (a ++ b) = flatL a ++ flatL b := by
  induction a with
  | nil => rfl
  | cons l a ih => rw [List.cons_append, flatL, ih, flatL, List.append_assoc]
theorem Lines.new (w : World) (t : TypeId) (ls : List Ln) (cs : Array Value) (hcs : cs = (flatL ls).toArray) (hl : ls.length ≤ maxLen) (hf : ∀ l ∈ ls, l.fits) : Lines (w.alloc (.cells cs t)) (.slice (some ⟨w.heap.size, 0, none⟩) ls.length ls.length) ls := by
  subst hcs
  refine ⟨hf, _, _, rfl, Nat.le_refl _, hl, fun _ => ⟨_, _, rfl, by rw [World.size_alloc]; omega, fun i l hi j u hj => ?_⟩⟩
  have q := (Blk.new w t (flatL ls)).cell (flatL_at ls i l j u hi hj)
  rw [Nat.zero_add]
  exact q
def recOf (kind birth prev id next : Int) : Lv := ⟨kind, birth, prev, id, 0, 0, .nil, .nil, next, .nil, .nil⟩
def bookL : List Ln := [⟨1, recOf 1 0 0 1 0⟩, ⟨35, recOf 2 1 1 0 0⟩, ⟨75, recOf 1 0 0 2 0⟩, ⟨109, recOf 2 1 35 0 0⟩, ⟨149, recOf 3 1 109 0 35⟩]
theorem bookL_fits : ∀ l ∈ bookL, l.fits := by
  intro l hl
  simp only [bookL, List.mem_cons, List.not_mem_nil, or_false] at hl
  rcases hl with rfl | rfl | rfl | rfl | rfl <;> simp [Ln.fits, Lv.fits, I64, recOf]
theorem book_any (w : World) : Calls Try.prog 16 #[] w fun e w' => ∃ v, e = .returned v ∧ Lines w' v bookL ∧ Kept [] w w' := by
  go_enter Try.func16, Try.ntmps16
  go_wp2
  go_ret
  exact ⟨_, rfl, Lines.new w _ bookL _ rfl (by simp [bookL, maxLen]) bookL_fits, (Kept.refl [] w).alloc _⟩
theorem book_back : backL (rdr bookL false) 149 = ([149, 109, 35, 1], 0, [149, 109, 35, 1]) := by decide +kernel
theorem book_undo : undoL (rdr bookL false) 109 = ([109, 35], 0, [109, 35, 1]) := by decide +kernel
theorem book_no : (undoL (rdr bookL false) 149).2.1 = 120 := by decide +kernel
set_option maxRecDepth 20000 in
set_option maxHeartbeats 3200000 in
theorem known_any (O : ChOps) (w : World) : Calls Try.prog 8 #[] w fun e w' => e = .returned (.bool true) ∧ Kept [] w w' := by
  go_enter Try.func8, Try.ntmps8
  go_wp2_with fail
  refine (book_any w).mono ?_
  rintro e w1 ⟨vb1, rfl, lb1, kb1⟩
  obtain ⟨pb1, cb1, hvb1, -⟩ := lb1.shape
  subst hvb1
  go_wp2_with fail
  refine (asking_any O _ bookL false false 149 w1 lb1 ⟨by omega, by omega⟩).mono ?_
  rintro e w2 ⟨a1, p1, rfl, na1, np1, -, ka1⟩
  rw [show askL false (rdr bookL false) 149 = backL (rdr bookL false) 149 from rfl] at na1 np1 ⊢
  obtain ⟨pa1, ca1, hva1⟩ := na1.shape
  subst hva1
  obtain ⟨pp1, cp1, hvp1⟩ := np1.shape
  subst hvp1
  have K1 := kb1.then ka1
  clear kb1 ka1 lb1
  rw [book_back] at na1 np1 ⊢
  clear np1
  go_wp2_with fail
  refine (book_any w2).mono ?_
  rintro e w3 ⟨vb2, rfl, lb2, kb2⟩
  obtain ⟨pb2, cb2, hvb2, -⟩ := lb2.shape
  subst hvb2
  go_wp2_with fail
  refine (asking_any O _ bookL false true 109 w3 lb2 ⟨by omega, by omega⟩).mono ?_
  rintro e w4 ⟨a2, p2, rfl, na2, np2, -, ka2⟩
  rw [show askL true (rdr bookL false) 109 = undoL (rdr bookL false) 109 from rfl] at na2 np2 ⊢
  obtain ⟨pa2, ca2, hva2⟩ := na2.shape
  subst hva2
  obtain ⟨pp2, cp2, hvp2⟩ := np2.shape
  subst hvp2
  have K2 := kb2.then ka2
  clear kb2 ka2 lb2
  rw [book_undo] at na2 np2 ⊢
  clear np2
  replace na1 := na1.kept K2 (by simp)
  replace K2 := K1.then K2
  go_wp2_with fail
  refine (book_any w4).mono ?_
  rintro e w5 ⟨vb3, rfl, lb3, kb3⟩
  obtain ⟨pb3, cb3, hvb3, -⟩ := lb3.shape
  subst hvb3
  go_wp2_with fail
  refine (asking_any O _ bookL false true 149 w5 lb3 ⟨by omega, by omega⟩).mono ?_
  rintro e w6 ⟨a3, p3, rfl, na3, np3, -, ka3⟩
  rw [show askL true (rdr bookL false) 149 = undoL (rdr bookL false) 149 from rfl] at na3 np3 ⊢
  obtain ⟨pa3, ca3, hva3⟩ := na3.shape
  subst hva3
  obtain ⟨pp3, cp3, hvp3⟩ := np3.shape
  subst hvp3
  have K3 := kb3.then ka3
  clear kb3 ka3 lb3
  rw [book_no]
  replace na1 := na1.kept K3 (by simp)
  replace na2 := na2.kept K3 (by simp)
  replace K3 := K2.then K3
  clear np3 na3 K1 K2
  obtain ⟨w7, hw7⟩ : ∃ wx, wx = w6.alloc (.cells #[.int .i64 149, .int .i64 109, .int .i64 35, .int .i64 1] 3) := ⟨_, rfl⟩
  have kx : Kept [] w6 w7 := by rw [hw7]; exact (Kept.refl [] w6).alloc _
  have nx : Ns w7 w6.heap.size (.slice (some ⟨w6.heap.size, 0, none⟩) 4 4) [149, 109, 35, 1] := by rw [hw7]; exact Ns.lit w6 _ [149, 109, 35, 1] _ rfl (by simp [maxLen])
  go_wp2_with fail
  rw [← hw7]
  clear hw7
  refine (same_eq _ _ _ _ _ w7 (na1.kept kx (by simp)) nx).mono ?_
  rintro e w8 ⟨rfl, k8⟩
  obtain ⟨w9, hw9⟩ : ∃ wx, wx = w8.alloc (.cells #[.int .i64 109, .int .i64 35] 3) := ⟨_, rfl⟩
  have ky : Kept [] w8 w9 := by rw [hw9]; exact (Kept.refl [] w8).alloc _
  have ny : Ns w9 w8.heap.size (.slice (some ⟨w8.heap.size, 0, none⟩) 2 2) [109, 35] := by rw [hw9]; exact Ns.lit w8 _ [109, 35] _ rfl (by simp [maxLen])
  go_wp2_with fail
  rw [← hw9]
  clear hw9
  refine (same_eq _ _ _ _ _ w9 (na2.kept ((kx.then k8).then ky) (by simp)) ny).mono ?_
  rintro e w10 ⟨rfl, k10⟩
  have KE := @hideH _ ((((K3.then kx).then k8).then ky).then k10)
  clear K3 kx k8 ky k10 nx ny na1 na2
  go_wp2
  go_ret
  exact ⟨rfl, KE.out⟩
end Go.Proofs.Ytinlhojojeabcaa

