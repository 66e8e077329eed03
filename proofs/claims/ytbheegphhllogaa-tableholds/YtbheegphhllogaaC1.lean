import Derived.WalkKit
import Derived.WalkSpells
import Derived.WalkLawsBesides
import Derived.Laws.CopyOwn
import Derived.Laws.AppendOwnNone
import Derived.Laws.BytesArg
import Derived.Deep.AppendLies
import Derived.Test.YtbheegphhllogaaRows
import Derived.ProofKit
import Derived.OpenShut
import Derived.JoinedCond
import Derived.SizedLaws
import Derived.Deep.Matrix
import Derived.Laws.Bits64
import Derived.Deep.Upon
import Derived.Deep.RegionHeld3
import Derived.Deep.QuietTactic
import Derived.BigQuiet
import Derived.Handy
import Derived.Deep.DeepCutAuto
import Derived.Laws.StructEq
import Derived.ChangeKeysEq
/-
  OWN WORK. Words for byte slices in memory, whatever the program: 'Bs w v l' (the value v is a slice of the bytes l in w), 'Kept S w w'' (what was there is as it was, but for the blocks of S).
-/
namespace Go.Proofs.Ytbheegphhllogaa
open Go.RowKit
set_option linter.unusedVariables false

/-- the cells that hold these bytes -/
def u8s (l : List UInt8) : List Value := l.map fun x => Value.int .u8 (x.toNat : Int)
theorem u8s_length (l : List UInt8) : (u8s l).length = l.length := by simp [u8s]
theorem u8s_append (a b : List UInt8) : u8s (a ++ b) = u8s a ++ u8s b := by simp [u8s]
theorem u8s_one (l : List UInt8) (u : Value) : u ∈ u8s l → u.oneCell' = true := by
  intro h
  obtain ⟨x, _, rfl⟩ := List.mem_map.1 h
  rfl
theorem u8s_at {l : List UInt8} {j : Nat} {u : Value} (h : (u8s l)[j]? = some u) : ∃ x, l[j]? = some x ∧ u = .int .u8 (x.toNat : Int) := by
  simp only [u8s, List.getElem?_map, Option.map_eq_some_iff] at h
  obtain ⟨x, hx, rfl⟩ := h
  exact ⟨x, hx, rfl⟩

structure Kept (S : List Nat) (w w' : World) : Prop where
  os : w'.os = w.os
  tape : w'.tape = w.tape
  output : w'.output = w.output
  size : w.heap.size ≤ w'.heap.size
  block : ∀ k, k < w.heap.size → k ∉ S → w'.heap[k]? = w.heap[k]?

theorem Kept.refl (S : List Nat) (w : World) : Kept S w w := ⟨rfl, rfl, rfl, Nat.le_refl _, fun _ _ _ => rfl⟩
theorem Kept.trans {S T : List Nat} {a b c : World} (h : Kept S a b) (k : Kept T b c) (hT : ∀ x ∈ T, x ∈ S ∨ a.heap.size ≤ x) : Kept S a c :=
  ⟨k.os.trans h.os, k.tape.trans h.tape, k.output.trans h.output, Nat.le_trans h.size k.size, fun x hx hn =>
    (k.block x (Nat.lt_of_lt_of_le hx h.size) (fun hm => by rcases hT x hm with h' | h'; exact hn h'; omega)).trans (h.block x hx hn)⟩
theorem Kept.then {S : List Nat} {a b c : World} (h : Kept S a b) (k : Kept [] b c) : Kept S a c := h.trans k (by simp)
theorem Kept.mono {S T : List Nat} {a b : World} (h : Kept S a b) (hT : ∀ x ∈ S, x ∈ T) : Kept T a b :=
  ⟨h.os, h.tape, h.output, h.size, fun x hx hn => h.block x hx fun hm => hn (hT x hm)⟩
theorem Kept.alloc {S : List Nat} {a w : World} (h : Kept S a w) (o : Obj) : Kept S a (w.alloc o) :=
  h.trans (T := []) ⟨rfl, rfl, rfl, by simp, fun x hx _ => Below.heap_alloc w o x hx⟩ (by simp)
theorem Kept.drew {S : List Nat} {a w : World} (h : Kept S a w) : Kept S a w.drew := ⟨h.os, h.tape, h.output, h.size, h.block⟩
theorem Kept.below {w w' : World} (h : Kept [] w w') : Below w.heap.size w w' := ⟨h.os, h.tape, h.output, h.size, fun x hx => h.block x hx (by simp)⟩
theorem Kept.ofBelow {w w' : World} (h : Below w.heap.size w w') : Kept [] w w' := ⟨h.os, h.tape, h.output, h.size, fun x hx _ => h.block x hx⟩
theorem Kept.ofGrown {w w' : World} {r : Option Nat} {S : List Nat} (h : w.grownBy w' r) (hr : ∀ k, r = some k → k < w.heap.size → k ∈ S) : Kept S w w' :=
  ⟨h.os, h.tape, h.output, h.size, fun x hx hn => h.block x hx fun e => hn (hr x e.symm hx)⟩
/-- a row of the call's own grew -/
theorem Kept.grown {S : List Nat} {a w w' : World} {r : Option Nat} (h : Kept S a w) (hg : w.grownBy w' r) (hr : ∀ k, r = some k → k ∈ S ∨ a.heap.size ≤ k) : Kept S a w' :=
  h.trans (T := r.toList) (Kept.ofGrown hg (by intro k e _; subst e; simp)) (by intro x hx; exact hr x (by simpa using hx))
theorem Kept.setCell {S : List Nat} {a w : World} (h : Kept S a w) {p : Addr} (hp : p.block ∈ S ∨ a.heap.size ≤ p.block) (u : Value) : Kept S a (w.setCell p u) :=
  h.trans (T := [p.block]) ⟨rfl, rfl, rfl, by simp, fun x hx hn => Below.heap_setCell w p u x (by simpa using hn)⟩ (by intro x hx; simp at hx; subst hx; exact hp)

theorem lt_of_cell {w : World} {a : Addr} {v : Value} (h : w.cell? a = some v) : a.block < w.heap.size := by
  rcases Nat.lt_or_ge a.block w.heap.size with hl | hl
  · exact hl
  · simp [World.cell?, Array.getElem?_eq_none hl] at h
theorem spot_of_cell {w : World} {a : Addr} {v : Value} (h : w.cell? a = some v) : a.spot = none := by
  unfold World.cell? at h
  split at h
  · split at h
    · cases h
    · rename_i hs; simpa using hs
  · cases h
theorem Kept.cell {S : List Nat} {w w' : World} (h : Kept S w w') {a : Addr} {v : Value} (hc : w.cell? a = some v) (hn : a.block ∉ S) : w'.cell? a = some v := by
  rw [World.cell?_of_block (h.block a.block (lt_of_cell hc) hn)]; exact hc
theorem add_block (a : Addr) (i : Nat) : (a.add i).block = a.block := by unfold Addr.add; split <;> rfl
theorem add_none {a : Addr} (h : a.spot = none) (i : Nat) : a.add i = ⟨a.block, a.off + i, none⟩ := by
  obtain ⟨b, o, s⟩ := a
  simp only at h; subst h
  unfold Addr.add; split <;> simp_all

theorem add_add (a : Addr) (k i : Nat) : (a.add k).add i = a.add (k + i) := by
  obtain ⟨b, o, s⟩ := a
  by_cases hk : k = 0
  · subst hk; simp [Addr.add]
  · by_cases hi : i = 0
    · subst hi; simp [Addr.add]
    · simp [Addr.add, hk, hi, Nat.add_assoc]

/-- THE VALUE v IS A SLICE OF THE BYTES l IN w. -/
def Bs (w : World) (v : Value) (l : List UInt8) : Prop :=
  ∃ (p : Option Addr) (c : Nat), v = .slice p l.length c ∧ l.length ≤ c ∧ c ≤ maxLen ∧ (p = none → c = 0) ∧
    ∀ a, p = some a → ∀ (i : Nat) x, l[i]? = some x → w.cell? (a.add i) = some (.int .u8 (x.toNat : Int))

/-- of one byte or more: where it lies -/
theorem Bs.pos {w : World} {v : Value} {l : List UInt8} (h : Bs w v l) (hl : 0 < l.length) :
    ∃ b o c, v = .slice (some ⟨b, o, none⟩) l.length c ∧ l.length ≤ c ∧ c ≤ maxLen ∧ b < w.heap.size ∧ ∀ (i : Nat) x, l[i]? = some x → w.cell? ⟨b, o + i, none⟩ = some (.int .u8 (x.toNat : Int)) := by
  obtain ⟨p, c, rfl, h1, h2, h3, h4⟩ := h
  cases p with
  | none => have := h3 rfl; omega
  | some a =>
    have hc := h4 a rfl 0 l[0] (List.getElem?_eq_getElem hl)
    have hs := spot_of_cell hc
    have hs' : a.spot = none := by
      unfold Addr.add at hs
      split at hs <;> simp_all
    have hb := lt_of_cell hc
    rw [add_block] at hb
    refine ⟨a.block, a.off, c, by obtain ⟨b, o, s⟩ := a; simp_all, h1, h2, hb, fun i x hx => ?_⟩
    rw [← add_none hs' i]
    exact h4 a rfl i x hx

theorem Bs.nil (w : World) : Bs w (.slice none 0 0) [] := ⟨none, 0, rfl, Nat.le_refl _, by simp [maxLen], fun _ => rfl, fun a h => (by cases h)⟩
theorem Bs.mk {w : World} {b o c : Nat} {l : List UInt8} (h1 : l.length ≤ c) (h2 : c ≤ maxLen) (h : ∀ (i : Nat) x, l[i]? = some x → w.cell? ⟨b, o + i, none⟩ = some (.int .u8 (x.toNat : Int))) : Bs w (.slice (some ⟨b, o, none⟩) l.length c) l :=
  ⟨_, c, rfl, h1, h2, fun e => (by cases e), fun a e i x hx => (by cases e; rw [add_none rfl]; exact h i x hx)⟩
/-- carried to a world in which its cells are as they were -/
theorem Bs.carry {w w' : World} {v : Value} {l : List UInt8} (h : Bs w v l) (hc : ∀ (a : Addr) (x : UInt8), w.cell? a = some (.int .u8 (x.toNat : Int)) → v.ownBlock = some a.block → w'.cell? a = some (.int .u8 (x.toNat : Int))) : Bs w' v l := by
  obtain ⟨p, c, rfl, h1, h2, h3, h4⟩ := h
  exact ⟨p, c, rfl, h1, h2, h3, fun a e i x hx => hc _ x (h4 a e i x hx) (by subst e; simp [Value.ownBlock, add_block])⟩
theorem Bs.kept {w w' : World} {v : Value} {l : List UInt8} (h : Bs w v l) (k : Kept [] w w') : Bs w' v l := h.carry fun a x hx _ => k.cell hx (by simp)
/-- block k holds one slice and nothing else: a box that no byte lies in -/
def Box (w : World) (k : Nat) : Prop := ∃ p n c t m, w.heap[k]? = some (.cells #[.slice p n c] t m)
theorem Bs.keptBox {w w' : World} {v : Value} {l : List UInt8} {S : List Nat} (h : Bs w v l) (k : Kept S w w') (hS : ∀ x ∈ S, Box w x ∨ w.heap.size ≤ x) : Bs w' v l := h.carry fun a x hx _ => k.cell hx fun hm => by
  rcases hS _ hm with ⟨p, n, c, t, m, hb⟩ | hb
  · simp only [World.cell?, hb] at hx
    split at hx
    · cases hx
    · rcases ha : a.off with _ | j
      · simp [ha] at hx
      · simp [ha] at hx
  · have := lt_of_cell hx; omega
/-- behind 'kept but for v's own elder rows': its own block is not among those let go -/
theorem Bs.keptOwn {w w' : World} {v : Value} {l : List UInt8} {S : List Nat} (h : Bs w v l) (k : Kept S w w') (hS : ∀ x, v.ownBlock = some x → x ∉ S) : Bs w' v l := h.carry fun a x hx ho => k.cell hx (hS _ ho)

/-- an owned row of bytes is a slice of them -/
theorem Bs.ofOwn {w : World} {base e : Nat} {v : Value} {n : Nat} {l : List UInt8} (h : w.ownsRow base e 1 v n (u8s l)) : Bs w v l := by
  have hn : n = l.length := by have := h.1; rw [u8s_length] at this; omega
  subst hn
  rcases h.2 with ⟨rfl, h0⟩ | ⟨g, cap, cur, rfl, _, hg, h1, h2, h3, h4⟩
  · have : l = [] := List.eq_nil_of_length_eq_zero h0
    subst this
    exact Bs.nil w
  · refine Bs.mk h1 h2 fun i x hx => ?_
    have hc := h.cells (g := g) rfl i (.int .u8 (x.toNat : Int)) (by simp [u8s, hx])
    rw [add_none rfl] at hc
    exact hc
theorem own_ge {w : World} {base e size : Nat} {v : Value} {n : Nat} {xs : List Value} (h : w.ownsRow base e size v n xs) (k : Nat) (hk : v.ownBlock = some k) : base ≤ k := (h.lt k hk).1

/-- 'string(b)' -/
theorem Bs.convert {P : Program} {w : World} {v : Value} {l : List UInt8} (h : Bs w v l) {src dst e : TypeId} (hs : P.underlying src = some (.slice e)) (he : P.underlying e = some (.int .u8)) (hd : P.underlying dst = some .string) :
    (convert src dst v).run P w = .ok (.string ⟨l.toArray⟩) w := by
  obtain ⟨p, c, rfl, h1, h2, h3, h4⟩ := h
  cases p with
  | none =>
    have hc := h3 rfl
    have : l = [] := List.eq_nil_of_length_eq_zero (by omega)
    subst this
    rw [run_convert_bytes_nil w src e hs he _ _ dst hd]
    rfl
  | some a =>
    have hl : (loadCells a l.length).run P w = .ok ((l.map fun x => (x.toNat : Int)).map (Value.int .u8)).toArray w := by
      have := run_loadCells_list (P := P) w a ((l.map fun x => (x.toNat : Int)).map (Value.int .u8)) (fun j v hj => by
        simp only [List.getElem?_map, Option.map_eq_some_iff] at hj
        obtain ⟨_, ⟨x, hx, rfl⟩, rfl⟩ := hj
        exact h4 a rfl j x hx)
      simpa using this
    rw [run_convert_bytes_string w src dst e _ _ c hs he hd, run_bytesToString w _ _ c _ hl, foldl_push_bytes]
    simp [ByteArray.empty, ByteArray.emptyWithCapacity, List.map_map]
    congr 1
    rw [show (List.map ((fun n => UInt8.ofNat n.toNat) ∘ fun x : UInt8 => (x.toNat : Int)) l) = l from by
      conv => rhs; rw [← List.map_id l]
      exact List.map_congr_left (fun x _ => by simp)]
    rfl

/-- 'b[:k]' and 'b[k:]' -/
theorem Bs.cut {P : Program} {w : World} {p : Option Addr} {c : Nat} {l : List UInt8} (h : Bs w (.slice p l.length c) l) {k : Nat} (hk : k ≤ l.length) :
    Bs w (.slice p k c) (l.take k) ∧ Bs w (.slice (if c = k then p else p.map (·.add k)) (l.length - k) (c - k)) (l.drop k) := by
  obtain ⟨p', c', e, h1, h2, h3, h4⟩ := h
  cases e
  refine ⟨⟨p, c, by simp [Nat.min_eq_left hk], by simp; omega, h2, h3, fun a e i x hx => h4 a e i x ?_⟩, ⟨(if c = k then p else p.map (·.add k)), c - k, by rw [List.length_drop], by simp; omega, by omega, ?_, ?_⟩⟩
  · rw [List.getElem?_take] at hx; split at hx
    · exact hx
    · cases hx
  · intro e
    by_cases hc : c = k
    · omega
    · rw [if_neg hc] at e
      have := h3 (by simpa using e)
      omega
  · intro a e i x hx
    have hi : i < l.length - k := by simpa using (List.getElem?_eq_some_iff.1 hx).1
    by_cases hc : c = k
    · omega
    · rw [if_neg hc] at e
      obtain ⟨a', rfl, rfl⟩ := Option.map_eq_some_iff.1 e
      rw [List.getElem?_drop] at hx
      have := h4 a' rfl (k + i) x hx
      have e2 : (a'.add k).add i = a'.add (k + i) := add_add a' k i
      rw [e2]; exact this

/-- an index into a constant text, where its run is known -/
theorem wpList_index_str {P : Program} {w : World} {ops : Array Oper} {rest : List Oper} {o : Oper} {a : Act} {Q : Exit → Act → World → Prop} (hgd : o.guard = none) (t : TypeId) (S : ByteArray) (x : Operand)
    (ho : o.op = .index t (.const (.string S)) x) (k : IntKind) (i : Int) (n : Int) (hx : a.eval x = .int k i) (hr : ∀ w, (Instr.index t (.string S) (.int k i)).run P w = .ok (.int .u8 n) w)
    (h : wpList P ops Q rest (a.put o.dst (.int .u8 n)) w) : wpList P ops Q (o :: rest) a w := by
  refine wpList_plain hgd fun K hK => ?_
  unfold Oper.wp
  have e : a.eval (.const (.string S)) = .string S := rfl
  simp [execOp, ho, hx, hr, e, Result.andThen]
  exact hK _ _ h
end Go.Proofs.Ytbheegphhllogaa

/-
  OWN WORK. append, copy, make and the cuts of byte slices as laws for the walk, whatever the program.
-/
namespace Go.Proofs.Ytbheegphhllogaa
open Go.RowKit
set_option linter.unusedVariables false

/-- 'append(out, b...)': out the call's own row of bytes, b any slice of bytes (nil too). -/
theorem wpList_append_bs {P : Program} {w : World} {ops : Array Oper} {rest : List Oper} {o : Oper} {a : Act} {Q : Exit → Act → World → Prop} (hgd : o.guard = none) (s x : Operand) (t : TypeId)
    (ho : o.op = .call { callee := .builtin .append, args := #[s, x], argTypes := #[t, t] }) (base : Nat) (e : TypeId) (hu : P.underlying t = some (.slice e))
    (hinf : (P.info? e).map (fun i => (i.zero, i.size, i.bytes)) = some (some (.int .u8 0), 1, 1))
    (v : Value) (n : Nat) (xs : List Value) (hs : a.eval s = v) (hown : w.ownsRow base e 1 v n xs) (sv : Value) (l : List UInt8) (hx : a.eval x = sv) (hb : Bs w sv l)
    (hroom : n + l.length ≤ 140737488355328) (hbase : base ≤ w.heap.size)
    (h : ∀ v' w', w'.ownsRow base e 1 v' (n + l.length) (xs ++ u8s l) → w.grownBy w' v.ownBlock → (v'.ownBlock = v.ownBlock ∨ v'.ownBlock = some w.heap.size) → wpList P ops Q rest (a.put o.dst v') w') :
    wpList P ops Q (o :: rest) a w := by
  obtain ⟨i, hi, hz, hsz, hby⟩ := info_parts hinf
  obtain ⟨p, c, rfl, h1, h2, h3, h4⟩ := hb
  cases p with
  | none =>
    have hc := h3 rfl
    subst hc
    obtain rfl : l = [] := List.eq_nil_of_length_eq_zero (by omega)
    refine wpList_append_own_none hgd s x t ho base e i 1 hu hi v n xs hs hown hx ?_
    exact h v w (by simpa [u8s] using hown) (World.grownBy.refl _ _) (.inl rfl)
  | some ad =>
    refine wpList_plain hgd fun K hK => ?_
    obtain ⟨v', w', hr, k1, k2, _, k4⟩ := run_append_own_at (P := P) w base t o.type e i (.int .u8 0) 1 1 hu hi hz hsz hby rfl (by decide) v n xs hown ad l.length c (u8s l) (by simp [u8s])
      (fun j u hj => by obtain ⟨y, hy, rfl⟩ := u8s_at hj; exact h4 ad rfl j y hy) (u8s_one l) (by unfold maxLen; omega) (by omega) hbase
    unfold Oper.wp execOp
    simp only [ho, resolve, invoke, builtin, Sem.run_bind, Sem.run_pure, Result.andThen_ok, List.map_toArray, List.map_cons, List.map_nil, hs, hx, hr]
    exact hK _ _ (h v' w' k1 k2 k4)

/-- the same at a step of a region that draws its order -/
theorem step_append_bs {P : Program} {w : World} {ops : Array Oper} {o : Oper} {a : Act} {K : Act → World → Prop} {Q : Exit → Act → World → Prop} {E : Prop} (hgd : o.guard = none) (s x : Operand) (t : TypeId)
    (ho : o.op = .call { callee := .builtin .append, args := #[s, x], argTypes := #[t, t] }) (base : Nat) (e : TypeId) (hu : P.underlying t = some (.slice e))
    (hinf : (P.info? e).map (fun i => (i.zero, i.size, i.bytes)) = some (some (.int .u8 0), 1, 1))
    (v : Value) (n : Nat) (xs : List Value) (hs : a.eval s = v) (hown : w.ownsRow base e 1 v n xs) (sv : Value) (l : List UInt8) (hx : a.eval x = sv) (hb : Bs w sv l)
    (hroom : n + l.length ≤ 140737488355328) (hbase : base ≤ w.heap.size)
    (h : ∀ v' w', w'.ownsRow base e 1 v' (n + l.length) (xs ++ u8s l) → w.grownBy w' v.ownBlock → (v'.ownBlock = v.ownBlock ∨ v'.ownBlock = some w.heap.size) → K (a.put o.dst v') w') :
    if Region.wanted o (yielded ops a.tmps) = true then Oper.wp P o a w K Q else E := by
  have hw : Region.wanted o (yielded ops a.tmps) = true := by simp [Region.wanted, hgd]
  rw [if_pos hw]
  obtain ⟨i, hi, hz, hsz, hby⟩ := info_parts hinf
  obtain ⟨p, c, rfl, h1, h2, h3, h4⟩ := hb
  cases p with
  | none =>
    have hc := h3 rfl
    subst hc
    obtain rfl : l = [] := List.eq_nil_of_length_eq_zero (by omega)
    have hrun := run_append_owned_none (P := P) (w := w) base t o.type e i 1 hu hi v n xs hown
    have hx' : a.eval x = .slice none 0 0 := hx
    unfold Oper.wp execOp
    simp only [ho, resolve, invoke, builtin, Sem.run_bind, Sem.run_pure, Result.andThen_ok, List.map_toArray, List.map_cons, List.map_nil, hs, hx', hrun]
    exact h v w (by simpa [u8s] using hown) (World.grownBy.refl _ _) (.inl rfl)
  | some ad =>
    obtain ⟨v', w', hr, k1, k2, _, k4⟩ := run_append_own_at (P := P) w base t o.type e i (.int .u8 0) 1 1 hu hi hz hsz hby rfl (by decide) v n xs hown ad l.length c (u8s l) (by simp [u8s])
      (fun j u hj => by obtain ⟨y, hy, rfl⟩ := u8s_at hj; exact h4 ad rfl j y hy) (u8s_one l) (by unfold maxLen; omega) (by omega) hbase
    unfold Oper.wp execOp
    simp only [ho, resolve, invoke, builtin, Sem.run_bind, Sem.run_pure, Result.andThen_ok, List.map_toArray, List.map_cons, List.map_nil, hs, hx, hr]
    exact h v' w' k1 k2 k4
/-- 'copy(out, b)': out the call's own row, as long as b. -/
theorem wpList_copy_bs {P : Program} {w : World} {ops : Array Oper} {rest : List Oper} {o : Oper} {a : Act} {Q : Exit → Act → World → Prop} (hgd : o.guard = none) (d s : Operand) (t : TypeId)
    (ho : o.op = .call { callee := .builtin .copy, args := #[d, s], argTypes := #[t, t] }) (base : Nat) (e : TypeId) (hu : P.underlying t = some (.slice e))
    (hsz : (P.info? e).map (·.size) = some 1)
    (v : Value) (n : Nat) (xs : List Value) (hd : a.eval d = v) (hown : w.ownsRow base e 1 v n xs) (sv : Value) (l : List UInt8) (hx : a.eval s = sv) (hb : Bs w sv l) (hn : l.length = n)
    (h : ∀ w', w'.ownsRow base e 1 v n (u8s l) → w.grownBy w' v.ownBlock → wpList P ops Q rest (a.put o.dst (goInt n)) w') : wpList P ops Q (o :: rest) a w := by
  subst hn
  obtain ⟨p, c, rfl, h1, h2, h3, h4⟩ := hb
  by_cases h0 : l.length = 0
  · obtain rfl : l = [] := List.eq_nil_of_length_eq_zero h0
    have hxs : xs = [] := List.eq_nil_of_length_eq_zero (by simpa using hown.1)
    subst hxs
    obtain ⟨dp, dc, rfl⟩ : ∃ dp dc, v = .slice dp 0 dc := by
      rcases hown.2 with ⟨rfl, _⟩ | ⟨g, cap, cur, rfl, _⟩
      · exact ⟨_, _, rfl⟩
      · exact ⟨_, _, rfl⟩
    refine wpList_copy_nothing hgd d s t t ho e hu hsz dp p 0 dc 0 c hd hx rfl ?_
    exact h w hown (World.grownBy.refl _ _)
  · cases p with
    | none => have := h3 rfl; omega
    | some ad =>
      rcases hown.2 with ⟨rfl, hz⟩ | ⟨g, cap, cur, rfl, hbg, hg, hnc, hcm, hcs, htk⟩
      · omega
      · refine wpList_copy_own hgd d s t t ho e hu hsz g 0 l.length cap ad l.length c hd hx cur e hg (u8s l) (by simp [u8s]) (fun j u hj => by obtain ⟨y, hy, rfl⟩ := u8s_at hj; exact h4 ad rfl j y hy) (by rw [u8s_length]; omega) (u8s_one l) ?_
        rw [u8s_length]
        have hgl : g < w.heap.size := (Array.getElem?_eq_some_iff.1 hg).1
        refine h _ ⟨by simp [u8s], .inr ⟨g, cap, _, rfl, hbg, setRow_heap w g cur _ e (0, 0) hg, hnc, hcm, ?_, ?_⟩⟩ ⟨rfl, rfl, rfl, by simp [World.setRow], fun k hk hne => setRow_other w g k _ (by intro e2; subst e2; exact hne rfl)⟩
        · simp [u8s_length]; omega
        · simp
          rw [List.take_append_of_le_length (by rw [u8s_length]; omega)]
          exact List.take_of_length_le (by rw [u8s_length]; omega)

/-- 'make([]byte, n, c)' -/
theorem run_make_bs {P : Program} (w : World) (t e : TypeId) (hu : P.underlying t = some (.slice e)) (hinf : (P.info? e).map (fun i => (i.zero, i.size, i.bytes)) = some (some (.int .u8 0), 1, 1))
    (n c : Nat) (hnc : n ≤ c) (hc : c ≤ 281474976710656) :
    (Instr.makeSlice t (.int .i64 (n : Int)) (.int .i64 (c : Int))).run P w = .ok (.slice (some ⟨w.heap.size, 0, none⟩) n c) (w.alloc (.cells (madeCells #[.int .u8 0] c) e)) := by
  obtain ⟨i, hi, hz, hsz, hby⟩ := info_parts hinf
  have h := run_make (P := P) w t e i (.int .u8 0) hu hi hz .i64 .i64 (n : Int) (c : Int) (by omega) (by omega) (by rw [hby]; omega) (by omega)
  rw [h, hsz]
  simp [Value.cells]
theorem own_made (w : World) (e base n c : Nat) (hb : base ≤ w.heap.size) (hnc : n ≤ c) (hc : c ≤ maxLen) :
    (w.alloc (.cells (madeCells #[.int .u8 0] c) e)).ownsRow base e 1 (.slice (some ⟨w.heap.size, 0, none⟩) n c) n (u8s (List.replicate n 0)) := by
  refine ⟨by simp [u8s], .inr ⟨w.heap.size, c, _, rfl, hb, heap_alloc_new w _, hnc, hc, by simp [size_madeCells], ?_⟩⟩
  rw [toList_madeCells_one]
  simp [u8s, Nat.min_eq_left hnc]
/-- one byte in a block of its own, as 'append(out, x)' lays it -/
theorem Bs.one (w : World) (e : TypeId) (n : Int) (y : UInt8) (hn : n = (y.toNat : Int)) : Bs (w.alloc (.cells #[.int .u8 n] e)) (.slice (some ⟨w.heap.size, 0, none⟩) 1 1) [y] := by
  subst hn
  exact Bs.mk (l := [y]) (by simp) (by simp [maxLen]) fun i x hx => by
    rcases i with _ | i
    · simp at hx; subst hx
      have := World.news_of_block (heap_alloc_new w (.cells #[.int .u8 (y.toNat : Int)] e)) 0 (.int .u8 (y.toNat : Int)) (by simp)
      rwa [add_none rfl] at this
    · simp at hx
/-- a literal's bytes in a block of their own -/
theorem Bs.lit (w : World) (e : TypeId) (l : List UInt8) (cs : Array Value) (hcs : cs = (u8s l).toArray) (hl : l.length ≤ maxLen) : Bs (w.alloc (.cells cs e)) (.slice (some ⟨w.heap.size, 0, none⟩) l.length l.length) l := by
  subst hcs
  exact Bs.mk (Nat.le_refl _) hl fun i x hx => by
    have := World.news_of_block (heap_alloc_new w (.cells (u8s l).toArray e)) i (.int .u8 (x.toNat : Int)) (by simp [u8s, hx])
    rwa [add_none rfl] at this
theorem Bs.litAt (w : World) (e : TypeId) (l : List UInt8) (cs : Array Value) (hcs : cs = (u8s l).toArray) (hl : l.length ≤ maxLen) (H : Nat) (hH : w.heap.size = H) : Bs (w.alloc (.cells cs e)) (.slice (some ⟨H, 0, none⟩) l.length l.length) l := by
  subst hH
  exact Bs.lit w e l cs hcs hl
theorem own_of_lit (w : World) (e base : Nat) (l : List UInt8) (hb : base ≤ w.heap.size) (hl : l.length ≤ maxLen) : (w.alloc (.cells (u8s l).toArray e)).ownsRow base e 1 (.slice (some ⟨w.heap.size, 0, none⟩) l.length l.length) l.length (u8s l) :=
  ⟨by simp [u8s], .inr ⟨w.heap.size, l.length, _, rfl, hb, heap_alloc_new w _, Nat.le_refl _, hl, by simp [u8s], by simp only [Nat.mul_one]; exact List.take_of_length_le (by simp [u8s])⟩⟩
end Go.Proofs.Ytbheegphhllogaa

/-
  OWN WORK. The cuts 'b[:k]', 'b[k:]' of a slice of bytes, run; a reader's box.
-/
namespace Go.Proofs.Ytbheegphhllogaa
open Go.RowKit
set_option linter.unusedVariables false

theorem run_cut_to {P : Program} (w : World) (t e : TypeId) (hu : P.underlying t = some (.slice e)) (hsz : (P.info? e).map (·.size) = some 1) (p : Option Addr) (n c k : Nat) (hk : k ≤ c) :
    (Instr.slice t (.slice p n c) none (some (.int .i64 (k : Int))) none).run P w = .ok (.slice p k c) w := by
  obtain ⟨i, hi, hs⟩ := Option.map_eq_some_iff.1 hsz
  have e0 : Option.map (fun x : Addr => x.add 0) p = p := by cases p <;> simp [Addr.add]
  simp [Instr.slice, run_underlying hu, Instr.sliceBounds, run_sliceBound, sizeOf, typeInfo, hi, e0, (by omega : (k : Int) ≤ (c : Int))]
theorem run_cut_from {P : Program} (w : World) (t e : TypeId) (hu : P.underlying t = some (.slice e)) (hsz : (P.info? e).map (·.size) = some 1) (p : Option Addr) (n c k : Nat) (hk : k ≤ n) :
    (Instr.slice t (.slice p n c) (some (.int .i64 (k : Int))) none none).run P w = .ok (.slice (if c = k then p else p.map (·.add k)) (n - k) (c - k)) w := by
  obtain ⟨i, hi, hs⟩ := Option.map_eq_some_iff.1 hsz
  simp [Instr.slice, run_underlying hu, Instr.sliceBounds, run_sliceBound, sizeOf, typeInfo, hi, hs, (by omega : (k : Int) ≤ (n : Int))]

theorem run_cut_mid {P : Program} (w : World) (t e : TypeId) (hu : P.underlying t = some (.slice e)) (hsz : (P.info? e).map (·.size) = some 1) (p : Option Addr) (n c k m : Nat) (hm : k + m ≤ c) :
    (Instr.slice t (.slice p n c) (some (.int .i64 (k : Int))) (some (.int .i64 ((k : Int) + (m : Int)))) none).run P w = .ok (.slice (if c = k then p else p.map (·.add k)) m (c - k)) w := by
  obtain ⟨i, hi, hs⟩ := Option.map_eq_some_iff.1 hsz
  have e1 : ((k : Int) + (m : Int)).toNat = k + m := by omega
  simp [Instr.slice, run_underlying hu, Instr.sliceBounds, run_sliceBound, sizeOf, typeInfo, hi, hs, e1, (by omega : (k : Int) + (m : Int) ≤ (c : Int)), (by omega : 0 ≤ (k : Int) + (m : Int))]
  rw [run_sliceBound (P := P) w .i64 (k : Int) (k + m) .sliceB (by omega) (by omega)]
  simp [Result.andThen]
theorem Bs.heap {w w' : World} {v : Value} {l : List UInt8} (hw : w'.heap = w.heap) (h : Bs w v l) : Bs w' v l := h.carry fun a x hx _ => by rw [World.cell?_of_block (w := w) (by rw [hw])]; exact hx
/-- 'b[k:k+m]' -/
theorem Bs.mid {P : Program} (t e : TypeId) (hu : P.underlying t = some (.slice e)) (hsz : (P.info? e).map (·.size) = some 1) {w : World} {p : Option Addr} {n c : Nat} {l : List UInt8} (h : Bs w (.slice p n c) l) (k m : Nat) (hk : k + m ≤ n) :
    ∃ p2, (∀ u, (Instr.slice t (.slice p n c) (some (.int .i64 (k : Int))) (some (.int .i64 ((k : Int) + (m : Int)))) none).run P u = .ok (.slice p2 m (c - k)) u) ∧ Bs w (.slice p2 m (c - k)) ((l.drop k).take m) := by
  obtain ⟨p', c', e', h1, h2, -⟩ := id h
  cases e'
  have hc := (h.cut (P := P) (k := k) (by omega)).2
  have hd := (Bs.cut (P := P) (c := c - k) (l := l.drop k) (by simpa using hc) (k := m) (by simp; omega)).1
  exact ⟨_, fun u => run_cut_mid u t e hu hsz p _ c k m (by omega), hd⟩
/-- both cuts of a slice of bytes, with what they hold -/
theorem Bs.cuts {P : Program} (t e : TypeId) (hu : P.underlying t = some (.slice e)) (hsz : (P.info? e).map (·.size) = some 1) {w : World} {p : Option Addr} {n c : Nat} {l : List UInt8} (h : Bs w (.slice p n c) l) (k : Nat) (hk : k ≤ n) :
    ∃ p2, (∀ u, (Instr.slice t (.slice p n c) none (some (.int .i64 (k : Int))) none).run P u = .ok (.slice p k c) u) ∧
      (∀ u, (Instr.slice t (.slice p n c) (some (.int .i64 (k : Int))) none none).run P u = .ok (.slice p2 (n - k) (c - k)) u) ∧ Bs w (.slice p k c) (l.take k) ∧ Bs w (.slice p2 (n - k) (c - k)) (l.drop k) := by
  obtain ⟨p', c', e', h1, h2, -⟩ := id h
  cases e'
  have hc := h.cut (P := P) hk
  exact ⟨_, fun u => run_cut_to u t e hu hsz p _ c k (by omega), fun u => run_cut_from u t e hu hsz p _ c k hk, hc.1, hc.2⟩

/-- A READER: block g holds one slice, of the bytes l that are left. -/
def Rd (t : TypeId) (w : World) (g : Nat) (l : List UInt8) : Prop :=
  ∃ p n c, w.heap[g]? = some (.cells #[.slice p n c] t (0, 0)) ∧ Bs w (.slice p n c) l
theorem Rd.box {t : TypeId} {w : World} {g : Nat} {l : List UInt8} (h : Rd t w g l) : Box w g := by
  obtain ⟨p, n, c, h1, _⟩ := h
  exact ⟨p, n, c, t, _, h1⟩
theorem Rd.lt {t : TypeId} {w : World} {g : Nat} {l : List UInt8} (h : Rd t w g l) : g < w.heap.size := by
  obtain ⟨p, n, c, h1, _⟩ := h
  exact (Array.getElem?_eq_some_iff.1 h1).1
/-- a reader is as it was where neither it nor a byte was touched -/
theorem Rd.kept {t : TypeId} {w w' : World} {g : Nat} {l : List UInt8} {S : List Nat} (h : Rd t w g l) (k : Kept S w w') (hS : ∀ x ∈ S, x ≠ g ∧ (Box w x ∨ w.heap.size ≤ x)) : Rd t w' g l := by
  have hl := h.lt
  obtain ⟨p, n, c, h1, h2⟩ := h
  exact ⟨p, n, c, (k.block g hl (fun hm => (hS g hm).1 rfl)).trans h1, h2.keptBox k fun x hx => (hS x hx).2⟩
theorem Box.kept {w w' : World} {x : Nat} {S : List Nat} (h : Box w x) (k : Kept S w w') (hn : x ∉ S) : Box w' x := by
  obtain ⟨p, n, c, t, m, hb⟩ := h
  exact ⟨p, n, c, t, m, (k.block x (Array.getElem?_eq_some_iff.1 hb).1 hn).trans hb⟩
theorem Rd.fresh {t : TypeId} {w : World} {p : Option Addr} {n c : Nat} {l : List UInt8} (h : Bs w (.slice p n c) l) : Rd t (w.alloc (.cells #[.slice p n c] t)) w.heap.size l :=
  ⟨p, n, c, heap_alloc_new w _, h.kept ((Kept.refl [] w).alloc _)⟩
theorem Rd.cell {t : TypeId} {w : World} {g : Nat} {p : Option Addr} {n c : Nat} (h : w.heap[g]? = some (.cells #[.slice p n c] t (0, 0))) : w.cell? ⟨g, 0, none⟩ = some (.slice p n c) ∧ w.frozen? ⟨g, 0, none⟩ = false :=
  ⟨cell_of_one h, free_of_one h⟩
/-- the reader's box is written: the new slice in it -/
theorem Rd.set {t : TypeId} {w : World} {g : Nat} {p p' : Option Addr} {n c n' c' : Nat} {l' : List UInt8} (h : w.heap[g]? = some (.cells #[.slice p n c] t (0, 0))) (hb : Bs w (.slice p' n' c') l') :
    Rd t (w.setCell ⟨g, 0, none⟩ (.slice p' n' c')) g l' ∧ Kept [g] w (w.setCell ⟨g, 0, none⟩ (.slice p' n' c')) := by
  have hk : Kept [g] w (w.setCell ⟨g, 0, none⟩ (.slice p' n' c')) := (Kept.refl [g] w).setCell (.inl (by simp)) _
  refine ⟨⟨p', n', c', one_setCell h, hb.keptBox hk fun x hx => .inl ?_⟩, hk⟩
  simp at hx; subst hx
  exact ⟨p, n, c, t, _, h⟩
theorem own_mono {w : World} {b b' e size : Nat} {v : Value} {n : Nat} {xs : List Value} (h : w.ownsRow b e size v n xs) (hb : b' ≤ b) : w.ownsRow b' e size v n xs := by
  refine ⟨h.1, ?_⟩
  rcases h.2 with h | ⟨g, cap, cur, h1, h2, h3⟩
  · exact .inl h
  · exact .inr ⟨g, cap, cur, h1, Nat.le_trans hb h2, h3⟩
end Go.Proofs.Ytbheegphhllogaa

/-
  OWN WORK. A slice of slices of bytes; rows of the call's own.
-/
namespace Go.Proofs.Ytbheegphhllogaa
open Go.RowKit
set_option linter.unusedVariables false

theorem Kept.drewN' {S : List Nat} {a w : World} (h : Kept S a w) (n : Nat) : Kept S a (w.drewN n) := ⟨h.os, h.tape, h.output, h.size, h.block⟩
/-- THE VALUE v IS A SLICE OF SLICES OF THESE BYTES IN w. -/
def Bss (w : World) (v : Value) (ls : List (List UInt8)) : Prop :=
  ∃ (p : Option Addr) (c : Nat), v = .slice p ls.length c ∧ ls.length ≤ c ∧ c ≤ maxLen ∧ (p = none → c = 0) ∧
    ∀ a, p = some a → ∀ (i : Nat) l, ls[i]? = some l → ∃ q d, w.cell? (a.add i) = some (.slice q l.length d) ∧ Bs w (.slice q l.length d) l
theorem Bss.pos {w : World} {v : Value} {ls : List (List UInt8)} (h : Bss w v ls) (hl : 0 < ls.length) :
    ∃ b o c, v = .slice (some ⟨b, o, none⟩) ls.length c ∧ ls.length ≤ c ∧ c ≤ maxLen ∧ b < w.heap.size ∧
      ∀ (i : Nat) l, ls[i]? = some l → ∃ q d, w.cell? ⟨b, o + i, none⟩ = some (.slice q l.length d) ∧ Bs w (.slice q l.length d) l := by
  obtain ⟨p, c, rfl, h1, h2, h3, h4⟩ := h
  cases p with
  | none => have := h3 rfl; omega
  | some a =>
    obtain ⟨q, d, hc, _⟩ := h4 a rfl 0 ls[0] (List.getElem?_eq_getElem hl)
    have hs := spot_of_cell hc
    have hs' : a.spot = none := by
      unfold Addr.add at hs
      split at hs <;> simp_all
    have hb := lt_of_cell hc
    rw [add_block] at hb
    refine ⟨a.block, a.off, c, by obtain ⟨b, o, s⟩ := a; simp_all, h1, h2, hb, fun i x hx => ?_⟩
    rw [← add_none hs' i]
    exact h4 a rfl i x hx
theorem Bss.kept {w w' : World} {v : Value} {ls : List (List UInt8)} (h : Bss w v ls) (k : Kept [] w w') : Bss w' v ls := by
  obtain ⟨p, c, rfl, h1, h2, h3, h4⟩ := h
  refine ⟨p, c, rfl, h1, h2, h3, fun a e i l hl => ?_⟩
  obtain ⟨q, d, hc, hb⟩ := h4 a e i l hl
  exact ⟨q, d, k.cell hc (by simp), hb.kept k⟩
/-- a literal's slices in a block of their own -/
theorem Bss.lit (w : World) (e : TypeId) (vs : List Value) (ls : List (List UInt8)) (hl : vs.length = ls.length) (hm : ls.length ≤ maxLen) (hB : ∀ (i : Nat) v l, vs[i]? = some v → ls[i]? = some l → Bs w v l) (H : Nat) (hH : w.heap.size = H) :
    Bss (w.alloc (.cells vs.toArray e)) (.slice (some ⟨H, 0, none⟩) ls.length ls.length) ls := by
  subst hH
  refine ⟨_, ls.length, rfl, Nat.le_refl _, hm, fun e => (by cases e), fun a ha i l hi => ?_⟩
  cases ha
  have hv : i < vs.length := by rw [hl]; exact (List.getElem?_eq_some_iff.1 hi).1
  have hb := hB i vs[i] l (List.getElem?_eq_getElem hv) hi
  obtain ⟨q, d, hq, -⟩ := id hb
  refine ⟨q, d, ?_, ?_⟩
  · have := World.news_of_block (heap_alloc_new w (.cells vs.toArray e)) i vs[i] (by simp)
    rw [← hq]
    exact this
  · rw [← hq]
    exact hb.kept ((Kept.refl [] w).alloc _)
/-- the rows one behind the other -/
def flat (ls : List (List UInt8)) : List UInt8 := ls.flatten
theorem flat_nil : flat [] = [] := rfl
theorem flat_take (ls : List (List UInt8)) (k : Nat) (l : List UInt8) (h : ls[k]? = some l) : flat (ls.take (k + 1)) = flat (ls.take k) ++ l := by
  obtain ⟨hk, rfl⟩ := List.getElem?_eq_some_iff.1 h
  unfold flat
  rw [List.take_succ_eq_append_getElem hk, List.flatten_append]
  simp
theorem flat_le (ls : List (List UInt8)) (k : Nat) : (flat (ls.take k)).length ≤ (flat ls).length := by
  unfold flat
  have : ls.flatten = (ls.take k).flatten ++ (ls.drop k).flatten := by rw [← List.flatten_append, List.take_append_drop]
  rw [this, List.length_append]; omega

theorem own_shape2 {w : World} {base e size : Nat} {v : Value} {n : Nat} {xs : List Value} (h : w.ownsRow base e size v n xs) : ∃ p c, v = .slice p n c := by
  rcases h.2 with ⟨rfl, rfl⟩ | ⟨g, cap, cur, rfl, _⟩
  · exact ⟨_, _, rfl⟩
  · exact ⟨_, _, rfl⟩
theorem Bss.lit1 (w : World) (e : TypeId) (a : Value) (la : List UInt8) (ha : Bs w a la) (H : Nat) (hH : w.heap.size = H) : Bss (w.alloc (.cells #[a] e)) (.slice (some ⟨H, 0, none⟩) 1 1) [la] :=
  Bss.lit w e [a] [la] rfl (by simp [maxLen]) (by
    intro i v l h1 h2
    match i, h1, h2 with
    | 0, h1, h2 => simp at h1 h2; subst h1; subst h2; exact ha
    | i + 1, h1, h2 => simp at h1) H hH
theorem Bss.lit2 (w : World) (e : TypeId) (a b : Value) (la lb : List UInt8) (ha : Bs w a la) (hb : Bs w b lb) (H : Nat) (hH : w.heap.size = H) : Bss (w.alloc (.cells #[a, b] e)) (.slice (some ⟨H, 0, none⟩) 2 2) [la, lb] :=
  Bss.lit w e [a, b] [la, lb] rfl (by simp [maxLen]) (by
    intro i v l h1 h2
    match i, h1, h2 with
    | 0, h1, h2 => simp at h1 h2; subst h1; subst h2; exact ha
    | 1, h1, h2 => simp at h1 h2; subst h1; subst h2; exact hb
    | i + 2, h1, h2 => simp at h1) H hH
theorem Bss.lit3 (w : World) (e : TypeId) (a b c : Value) (la lb lc : List UInt8) (ha : Bs w a la) (hb : Bs w b lb) (hc : Bs w c lc) (H : Nat) (hH : w.heap.size = H) : Bss (w.alloc (.cells #[a, b, c] e)) (.slice (some ⟨H, 0, none⟩) 3 3) [la, lb, lc] :=
  Bss.lit w e [a, b, c] [la, lb, lc] rfl (by simp [maxLen]) (by
    intro i v l h1 h2
    match i, h1, h2 with
    | 0, h1, h2 => simp at h1 h2; subst h1; subst h2; exact ha
    | 1, h1, h2 => simp at h1 h2; subst h1; subst h2; exact hb
    | 2, h1, h2 => simp at h1 h2; subst h1; subst h2; exact hc
    | i + 3, h1, h2 => simp at h1) H hH
/-- rows made behind a literal's block -/
theorem own_late {w w' : World} {o : Obj} {e n : Nat} {v : Value} {xs : List Value} (h : w'.ownsRow (w.alloc o).heap.size e 1 v n xs) : w'.ownsRow w.heap.size e 1 v n xs := by
  refine ⟨h.1, ?_⟩
  rcases h.2 with h1 | ⟨g, cap, cur, h1, h2, h3⟩
  · exact .inl h1
  · exact .inr ⟨g, cap, cur, h1, Nat.le_trans (by simp) h2, h3⟩

end Go.Proofs.Ytbheegphhllogaa

/-
  OWN WORK. What a reading of an argument says in the words of 'Bs' and 'Bss', and what the bound gives of it.
-/
namespace Go.Proofs.Ytbheegphhllogaa
open Go.ChangeShapes Go.WideShapes Go.ChangeAt Go.RowKit Go.Deep
set_option linter.unusedVariables false

theorem own : ownKnob Try.prog.godebug = none := by kernel_rfl
theorem laidOut : laidOutB Try.prog = true := by kernel_rfl

theorem bulk_one {H : Type} (d : DataW H) : 1 ≤ Rows.uptoBulk d := by
  cases d with
  | lit l => cases l <;> simp [Rows.uptoBulk]
  | nil => simp [Rows.uptoBulk]
  | ptr d => simp [Rows.uptoBulk]
  | slice elems spare => simp [Rows.uptoBulk]
  | agg parts => simp [Rows.uptoBulk]
  | iface t d => simp [Rows.uptoBulk]
  | map entries => simp [Rows.uptoBulk]
  | held h => simp [Rows.uptoBulk]
theorem bulk_length {H : Type} (l : List (DataW H)) : l.length ≤ Rows.uptoBulkAll l := by
  induction l with
  | nil => simp [Rows.uptoBulkAll]
  | cons x r ih => have := bulk_one x; simp only [Rows.uptoBulkAll, List.length_cons]; omega
theorem bulk_append {H : Type} (l r : List (DataW H)) : Rows.uptoBulkAll (l ++ r) = Rows.uptoBulkAll l + Rows.uptoBulkAll r := by
  induction l with
  | nil => simp [Rows.uptoBulkAll]
  | cons x l ih => simp only [List.cons_append, Rows.uptoBulkAll, ih]; omega

/-- the bytes that these numbers are -/
def bytesOfInts (zs : List Int) : List UInt8 := zs.map fun n => UInt8.ofNat n.toNat
theorem bytes_length (zs : List Int) : (bytesOfInts zs).length = zs.length := by simp [bytesOfInts]
theorem byte_wf {n : Int} (h : (Lit.int .u8 n).wf = true) : ((UInt8.ofNat n.toNat).toNat : Int) = n := by
  have hx : 0 ≤ n ∧ n ≤ 255 := by simpa [Lit.wf, IntKind.min, IntKind.max, IntKind.signed, IntKind.bits] using h
  rw [UInt8.toNat_ofNat']
  omega
theorem bs_cells {w : World} {ao : Option Addr} {len cap : Nat} {zs : List Int} (hl : len ≤ cap) (hm : cap ≤ maxLen) (hz : zs.length = cap) (hn : ao = none → cap = 0)
    (hc : ∀ a, ao = some a → ∀ i, i < cap → w.cell? (a.add i) = some (.int .u8 (zs.getD i 0))) (hw : ∀ n ∈ zs, (Lit.int .u8 n).wf = true) : Bs w (.slice ao len cap) (bytesOfInts (zs.take len)) := by
  have hlen : (bytesOfInts (zs.take len)).length = len := by rw [bytes_length, List.length_take]; omega
  refine ⟨ao, cap, by rw [hlen], by omega, hm, hn, fun a ha i x hx => ?_⟩
  have hi : i < len := by rw [← hlen]; exact (List.getElem?_eq_some_iff.1 hx).1
  rw [hc a ha i (by omega)]
  have e : x = UInt8.ofNat (zs.getD i 0).toNat := by
    simp only [bytesOfInts, List.getElem?_map, List.getElem?_take, hi, if_true] at hx
    obtain ⟨y, hy, rfl⟩ := Option.map_eq_some_iff.1 hx
    simp [List.getD, hy]
  rw [e, byte_wf (hw _ ?_)]
  rw [List.getD, List.getElem?_eq_getElem (by omega)]
  exact List.getElem_mem _

theorem bs_open {H : Type} {enc : TypeId × Value → H} {W : World} {t e : TypeId} {ao : Option Addr} {len cap : Nat} {d : DataW H} {p : List MemPlace} (ht : Try.prog.underlying t = some (.slice e)) (he : Try.prog.underlying e = some (.int .u8)) (hc : Try.prog.cellsOf e = 1)
    (h : DataW.Trod enc Try.prog W 0 (fun _ => true) true t (.slice ao len cap) d p) : ∃ l : List UInt8, l.length = len ∧ Bs W (.slice ao len cap) l ∧ l.length + 1 ≤ Rows.uptoBulk d ∧ (d = .nil ∧ len = 0 ∨ ∃ el sp, d = .slice el sp ∧ el.length = len) := by
  obtain ⟨fuel, hf⟩ := h
  rcases open_ints ht he hc hf with ⟨hcs, hx⟩ | ⟨x, n, c, zs, hcs, _, hl, hm, hz, hx, hcell, hwz⟩
  · simp [Value.cells] at hcs
    obtain ⟨rfl, rfl, rfl⟩ := hcs
    obtain ⟨rfl, rfl⟩ := Prod.mk.inj hx
    exact ⟨[], rfl, Bs.nil W, by simp [Rows.uptoBulk], .inl ⟨rfl, rfl⟩⟩
  · simp [Value.cells] at hcs
    obtain ⟨rfl, rfl, rfl⟩ := hcs
    obtain ⟨rfl, rfl⟩ := Prod.mk.inj hx
    have hz' : zs.length = cap := by simpa using hz
    have hlen : (bytesOfInts (zs.take len)).length = len := by rw [bytes_length, List.length_take]; omega
    refine ⟨bytesOfInts (zs.take len), hlen, bs_cells hl hm hz' (fun e => by cases e) (fun a ha i hi => by cases ha; exact hcell i (by omega)) hwz, ?_, .inr ⟨_, _, rfl, by simp [lits]; omega⟩⟩
    rw [hlen]
    have h1 := bulk_length (lits (H := H) .u8 (zs.take len))
    simp only [Rows.uptoBulk]
    simp only [lits, List.length_map, List.length_take] at h1 ⊢
    omega

/-- the form's own reach, of a slice of bytes -/
theorem sized_len {H : Type} {ts : List TypeId} {ds : List (DataW H)} {j : Nat} {t e : TypeId} {d : DataW H} {len : Nat} (hsz : (DataW.weightsEach Try.prog ts ds).all (· ≤ reachBytes) = true) (ht : ts[j]? = some t) (hd : ds[j]? = some d)
    (hu : Try.prog.underlying t = some (.slice e)) (hb : Try.prog.bytesOf e = 1) (h : d = .nil ∧ len = 0 ∨ ∃ el sp, d = .slice el sp ∧ el.length = len) : len ≤ 140737488351232 := by
  rcases h with ⟨_, rfl⟩ | ⟨el, sp, rfl, rfl⟩
  · omega
  · have := sized_slice hsz ht hd hu
    rw [hb] at this
    simp only [reachBytes] at this
    omega

theorem bss_open {H : Type} {enc : TypeId × Value → H} {W : World} {t e q : TypeId} {ao : Option Addr} {len cap : Nat} {d : DataW H} {p : List MemPlace} (ht : Try.prog.underlying t = some (.slice e)) (he : Try.prog.underlying e = some (.slice q)) (hq : Try.prog.underlying q = some (.int .u8))
    (ce : Try.prog.cellsOf e = 1) (cq : Try.prog.cellsOf q = 1) (h : DataW.Trod enc Try.prog W 0 (fun _ => true) true t (.slice ao len cap) d p) : ∃ ls : List (List UInt8), Bss W (.slice ao len cap) ls ∧ (flat ls).length + ls.length + 1 ≤ Rows.uptoBulk d := by
  obtain ⟨fuel, hf⟩ := h
  rcases open_int_rows ht he hq ce cq hf with ⟨hcs, hx⟩ | ⟨a, n, c, A, L, C, Z, hcs, _, hl, hm, hx, hr⟩
  · simp [Value.cells] at hcs
    obtain ⟨rfl, rfl, rfl⟩ := hcs
    obtain ⟨rfl, rfl⟩ := Prod.mk.inj hx
    exact ⟨[], ⟨none, 0, rfl, Nat.le_refl _, by simp [maxLen], fun _ => rfl, fun a e => (by cases e)⟩, by simp [Rows.uptoBulk, flat]⟩
  · simp [Value.cells] at hcs
    obtain ⟨rfl, rfl, rfl⟩ := hcs
    obtain ⟨rfl, rfl⟩ := Prod.mk.inj hx
    have hlr : ∀ r, r < cap → (bytesOfInts ((Z r).take (L r))).length = L r := fun r h => by
      obtain ⟨_, h1, _, h3, _⟩ := hr r h
      rw [bytes_length, List.length_take]; omega
    refine ⟨(List.range len).map fun r => bytesOfInts ((Z r).take (L r)), ⟨some a, cap, by simp, by simpa using hl, hm, fun e => (by cases e), fun a' e i l hi => ?_⟩, ?_⟩
    · cases e
      simp only [List.getElem?_map] at hi
      obtain ⟨r, hr1, rfl⟩ := Option.map_eq_some_iff.1 hi
      obtain ⟨hr2, rfl⟩ := List.getElem?_eq_some_iff.1 hr1
      have hr3 : i < len := by simpa using hr2
      simp only [List.getElem_range]
      obtain ⟨k1, k2, k3, k4, k5, k6, k7⟩ := hr i (by omega)
      rw [hlr i (by omega)]
      exact ⟨A i, C i, k1, bs_cells k2 k3 k4 k6 (fun a' ha j hj => (k7 a' ha).2 j hj) k5⟩
    · have key : ∀ (m : Nat), m ≤ len → (flat ((List.range m).map fun r => bytesOfInts ((Z r).take (L r)))).length + m ≤ Rows.uptoBulkAll ((List.range m).map fun r => intRow (H := H) .u8 (A r) (L r) (Z r)) := by
        intro m
        induction m with
        | zero => intro _; simp [flat, Rows.uptoBulkAll]
        | succ m ih =>
          intro hm'
          have := ih (by omega)
          rw [List.range_succ, List.map_append, List.map_append, bulk_append]
          have e1 : (flat (((List.range m).map fun r => bytesOfInts ((Z r).take (L r))) ++ [m].map fun r => bytesOfInts ((Z r).take (L r)))).length = (flat ((List.range m).map fun r => bytesOfInts ((Z r).take (L r)))).length + L m := by
            unfold flat
            rw [List.flatten_append, List.length_append]
            simp only [List.map_cons, List.map_nil, List.flatten_cons, List.flatten_nil, List.append_nil]
            rw [hlr m (by omega)]
          rw [e1]
          have e2 : L m + 1 ≤ Rows.uptoBulkAll ([m].map fun r => intRow (H := H) .u8 (A r) (L r) (Z r)) := by
            obtain ⟨k1, k2, k3, k4, k5, k6, k7⟩ := hr m (by omega)
            simp only [List.map_cons, List.map_nil, Rows.uptoBulkAll]
            cases ha : A m with
            | none => have := k6 ha; simp [intRow, Rows.uptoBulk]; omega
            | some y =>
              have h1 := bulk_length (lits (H := H) .u8 ((Z m).take (L m)))
              simp only [intRow, Rows.uptoBulk]
              simp only [lits, List.length_map, List.length_take] at h1 ⊢
              omega
          omega
      have := key len (Nat.le_refl _)
      simp only [Rows.uptoBulk, List.length_map, List.length_range]
      omega
end Go.Proofs.Ytbheegphhllogaa

/-
  OWN WORK. The table of transactions (layer 16) in plain words: rows by birth, rising.
-/
namespace Go.Proofs.Ytbheegphhllogaa
set_option linter.unusedVariables false

structure RowR where
  birth : Int
  id : Int
  state : Int
  last : Int
  next : Int
theorem RowR.eqs {a b : RowR} (h : a.birth = b.birth ∧ a.id = b.id ∧ a.state = b.state ∧ a.last = b.last ∧ a.next = b.next) : a = b := by
  cases a; cases b; simp_all
instance : DecidableEq RowR := fun a b => if h : a.birth = b.birth ∧ a.id = b.id ∧ a.state = b.state ∧ a.last = b.last ∧ a.next = b.next then isTrue (RowR.eqs h) else isFalse fun e => h (by rw [e]; exact ⟨rfl, rfl, rfl, rfl, rfl⟩)
def rowZ : RowR := ⟨0, 0, 0, 0, 0⟩
def rightR (x : RowR) : Prop := (1 ≤ x.birth ∧ x.birth ≤ 1152921504606846976) ∧ (1 ≤ x.id ∧ x.id ≤ 64) ∧ (x.state = 1 ∨ x.state = 2) ∧ (x.birth ≤ x.last ∧ x.last ≤ 1152921504606846976) ∧ (x.next = 0 ∨ (x.birth < x.next ∧ x.next ≤ x.last))
instance (x : RowR) : Decidable (rightR x) := by unfold rightR; exact inferInstance
def findB (l : List RowR) (b : Int) : Option RowR := l.find? fun x => x.birth == b
def findI (l : List RowR) (i : Int) : Option RowR := l.find? fun x => x.id == i
/-- what is told of a row that is sought -/
def rowOf (o : Option RowR) : RowR := o.getD rowZ
def putE (m : Int) (l : List RowR) (r : RowR) : Int := if ¬ rightR r then 30 else if (findB l r.birth).isSome = true ∨ (findI l r.id).isSome = true then 160 else if m ≤ (l.length : Int) then 161 else 0
def setE (l : List RowR) (r : RowR) : Int := if ¬ rightR r then 30 else if (findB l r.birth).isSome = true ∧ (rowOf (findB l r.birth)).id = r.id then 0 else 160
def insB (r : RowR) : List RowR → List RowR
  | [] => [r]
  | x :: t => if r.birth < x.birth then r :: x :: t else x :: insB r t
def setL (l : List RowR) (r : RowR) : List RowR := l.map fun x => if x.birth = r.birth then r else x
def dropL (l : List RowR) (b : Int) : List RowR := l.filter fun x => x.birth != b
def putT (m : Int) (l : List RowR) (r : RowR) : List RowR := if putE m l r = 0 then insB r l else l
def setT (l : List RowR) (r : RowR) : List RowR := if setE l r = 0 then setL l r else l
/-- the rows that a table of m may tell -/
structure OkT (m : Int) (l : List RowR) : Prop where
  most : 1 ≤ m ∧ m ≤ 8
  len : (l.length : Int) ≤ m
  right : ∀ x ∈ l, rightR x
  up : l.Pairwise fun x y => x.birth < y.birth
  ids : l.Pairwise fun x y => x.id ≠ y.id
theorem OkT.new {m : Int} (h : 1 ≤ m ∧ m ≤ 8) : OkT m [] := ⟨h, by simp; omega, by simp, .nil, .nil⟩
/-- births differ, numbers differ -/
structure Dif (l : List RowR) : Prop where
  b : l.Pairwise fun x y => x.birth ≠ y.birth
  i : l.Pairwise fun x y => x.id ≠ y.id
theorem OkT.dif {m : Int} {l : List RowR} (h : OkT m l) : Dif l := ⟨h.up.imp fun {x y} q => by omega, h.ids⟩
theorem Dif.perm {l l' : List RowR} (h : Dif l) (p : l.Perm l') : Dif l' := ⟨p.pairwise h.b (fun {x y} q e => q e.symm), p.pairwise h.i (fun {x y} q e => q e.symm)⟩
theorem pair_mem {α : Type} {R : α → α → Prop} (sym : ∀ x y, R x y → R y x) {l : List α} (h : l.Pairwise R) {x y : α} (hx : x ∈ l) (hy : y ∈ l) (e : x ≠ y) : R x y := by
  induction l with
  | nil => simp at hx
  | cons a t ih =>
    obtain ⟨h1, h2⟩ := List.pairwise_cons.1 h
    rcases List.mem_cons.1 hx with rfl | hx
    · rcases List.mem_cons.1 hy with rfl | hy
      · exact absurd rfl e
      · exact h1 y hy
    · rcases List.mem_cons.1 hy with e2 | hy
      · rw [e2]; exact sym _ _ (h1 x hx)
      · exact ih h2 hx hy
theorem Dif.sameB {l : List RowR} (h : Dif l) {x y : RowR} (hx : x ∈ l) (hy : y ∈ l) (e : x.birth = y.birth) : x = y := Decidable.byContradiction fun q => pair_mem (fun _ _ c e => c e.symm) h.b hx hy q e
theorem Dif.sameI {l : List RowR} (h : Dif l) {x y : RowR} (hx : x ∈ l) (hy : y ∈ l) (e : x.id = y.id) : x = y := Decidable.byContradiction fun q => pair_mem (fun _ _ c e => c e.symm) h.i hx hy q e
theorem findB_some {l : List RowR} {b : Int} {x : RowR} (h : findB l b = some x) : x ∈ l ∧ x.birth = b := ⟨List.mem_of_find?_eq_some h, by have := List.find?_some h; simpa using this⟩
theorem findI_some {l : List RowR} {i : Int} {x : RowR} (h : findI l i = some x) : x ∈ l ∧ x.id = i := ⟨List.mem_of_find?_eq_some h, by have := List.find?_some h; simpa using this⟩
theorem findB_none {l : List RowR} {b : Int} : findB l b = none ↔ ∀ x ∈ l, x.birth ≠ b := by simp [findB]
theorem findI_none {l : List RowR} {i : Int} : findI l i = none ↔ ∀ x ∈ l, x.id ≠ i := by simp [findI]
theorem Dif.findB {l : List RowR} (h : Dif l) {x : RowR} (hx : x ∈ l) : findB l x.birth = some x := by
  cases e : Go.Proofs.Ytbheegphhllogaa.findB l x.birth with
  | none => exact absurd rfl (findB_none.1 e x hx)
  | some y => obtain ⟨h1, h2⟩ := findB_some e; rw [h.sameB h1 hx h2]
theorem Dif.findI {l : List RowR} (h : Dif l) {x : RowR} (hx : x ∈ l) : findI l x.id = some x := by
  cases e : Go.Proofs.Ytbheegphhllogaa.findI l x.id with
  | none => exact absurd rfl (findI_none.1 e x hx)
  | some y => obtain ⟨h1, h2⟩ := findI_some e; rw [h.sameI h1 hx h2]
theorem findB_perm {l l' : List RowR} (h : Dif l) (p : l.Perm l') (b : Int) : findB l b = findB l' b := by
  cases e : findB l b with
  | none => exact (findB_none.2 fun x hx => findB_none.1 e x (p.mem_iff.2 hx)).symm
  | some x => obtain ⟨h1, rfl⟩ := findB_some e; exact ((h.perm p).findB (p.mem_iff.1 h1)).symm
theorem findI_perm {l l' : List RowR} (h : Dif l) (p : l.Perm l') (b : Int) : findI l b = findI l' b := by
  cases e : findI l b with
  | none => exact (findI_none.2 fun x hx => findI_none.1 e x (p.mem_iff.2 hx)).symm
  | some x => obtain ⟨h1, rfl⟩ := findI_some e; exact ((h.perm p).findI (p.mem_iff.1 h1)).symm
theorem insB_perm (r : RowR) : ∀ l : List RowR, (insB r l).Perm (r :: l)
  | [] => .refl _
  | x :: t => by
    unfold insB
    split
    · exact .refl _
    · exact ((insB_perm r t).cons x).trans (.swap r x t)
theorem insB_up (r : RowR) : ∀ l : List RowR, l.Pairwise (fun x y => x.birth < y.birth) → (∀ x ∈ l, x.birth ≠ r.birth) → (insB r l).Pairwise fun x y => x.birth < y.birth
  | [], _, _ => by simp [insB]
  | x :: t, h, hn => by
    obtain ⟨h1, h2⟩ := List.pairwise_cons.1 h
    unfold insB
    split
    · rename_i q
      refine List.pairwise_cons.2 ⟨fun y hy => ?_, h⟩
      rcases List.mem_cons.1 hy with rfl | hy
      · exact q
      · have := h1 y hy; omega
    · rename_i q
      have q' : x.birth < r.birth := by have := hn x (by simp); omega
      refine List.pairwise_cons.2 ⟨fun y hy => ?_, insB_up r t h2 fun y hy => hn y (by simp [hy])⟩
      rcases List.mem_cons.1 ((insB_perm r t).mem_iff.1 hy) with rfl | hy
      · exact q'
      · exact h1 y hy
theorem putE_ok {m : Int} {l : List RowR} {r : RowR} (h : putE m l r = 0) : rightR r ∧ (∀ x ∈ l, x.birth ≠ r.birth) ∧ (∀ x ∈ l, x.id ≠ r.id) ∧ (l.length : Int) < m := by
  unfold putE at h
  split at h
  · exact absurd h (by decide)
  · rename_i q1
    split at h
    · exact absurd h (by decide)
    · rename_i q2
      split at h
      · exact absurd h (by decide)
      · rename_i q3
        simp only [not_or, Option.isSome_iff_ne_none, ne_eq, Decidable.not_not] at q2
        exact ⟨Decidable.not_not.1 q1, findB_none.1 (by simpa using q2.1), findI_none.1 (by simpa using q2.2), by omega⟩
theorem setE_ok {l : List RowR} {r : RowR} (h : setE l r = 0) : rightR r ∧ ∃ x, findB l r.birth = some x ∧ x.id = r.id := by
  unfold setE at h
  split at h
  · exact absurd h (by decide)
  · rename_i q1
    split at h
    · rename_i q2
      obtain ⟨x, hx⟩ := Option.isSome_iff_exists.1 q2.1
      exact ⟨Decidable.not_not.1 q1, x, hx, by have := q2.2; rw [hx] at this; exact this⟩
    · exact absurd h (by decide)
theorem OkT.put {m : Int} {l : List RowR} (h : OkT m l) (r : RowR) : OkT m (putT m l r) := by
  unfold putT
  split
  · rename_i e
    obtain ⟨h1, h2, h3, h4⟩ := putE_ok e
    have p := insB_perm r l
    refine ⟨h.most, by rw [p.length_eq, List.length_cons]; omega, fun x hx => ?_, insB_up r l h.up h2, ?_⟩
    · rcases List.mem_cons.1 (p.mem_iff.1 hx) with rfl | hx
      · exact h1
      · exact h.right x hx
    · refine p.symm.pairwise (List.pairwise_cons.2 ⟨fun y hy e => h3 y hy e.symm, h.ids⟩) (fun {x y} q e => q e.symm)
  · exact h
theorem pairwise_mapR {R : RowR → RowR → Prop} {f : RowR → RowR} : ∀ {l : List RowR}, l.Pairwise R → (∀ x ∈ l, ∀ y ∈ l, R x y → R (f x) (f y)) → (l.map f).Pairwise R
  | [], _, _ => .nil
  | a :: t, h, hf => by
    obtain ⟨h1, h2⟩ := List.pairwise_cons.1 h
    refine List.pairwise_cons.2 ⟨fun y hy => ?_, pairwise_mapR h2 fun x hx y hy => hf x (by simp [hx]) y (by simp [hy])⟩
    obtain ⟨z, hz, rfl⟩ := List.mem_map.1 hy
    exact hf a (by simp) z (by simp [hz]) (h1 z hz)
theorem OkT.set {m : Int} {l : List RowR} (h : OkT m l) (r : RowR) : OkT m (setT l r) := by
  unfold setT
  split
  · rename_i e
    obtain ⟨h1, x, h2, h3⟩ := setE_ok e
    obtain ⟨h4, h5⟩ := findB_some h2
    have hb : ∀ y ∈ l, (if y.birth = r.birth then r else y).birth = y.birth := fun y hy => by split <;> simp_all
    have hi : ∀ y ∈ l, (if y.birth = r.birth then r else y).id = y.id := fun y hy => by
      split
      · rename_i q
        rw [h.dif.sameB hy h4 (by omega), h3]
      · rfl
    refine ⟨h.most, by rw [setL, List.length_map]; exact h.len, fun y hy => ?_, pairwise_mapR h.up fun a ha b hb' q => by rw [hb a ha, hb b hb']; exact q, pairwise_mapR h.ids fun a ha b hb' q => by rw [hi a ha, hi b hb']; exact q⟩
    obtain ⟨z, hz, rfl⟩ := List.mem_map.1 hy
    split
    · exact h1
    · exact h.right z hz
  · exact h
theorem OkT.drop {m : Int} {l : List RowR} (h : OkT m l) (b : Int) : OkT m (dropL l b) :=
  ⟨h.most, by have e1 := h.len; have e2 := List.length_filter_le (fun x : RowR => x.birth != b) l; unfold dropL; omega, fun x hx => h.right x (List.mem_filter.1 hx).1, h.up.filter _, h.ids.filter _⟩
/-- two lists that rise and have the same rows are the same -/
theorem up_eq : ∀ {l l' : List RowR}, l.Pairwise (fun x y => x.birth < y.birth) → l'.Pairwise (fun x y => x.birth < y.birth) → l.Perm l' → l = l'
  | [], l', _, _, p => (List.Perm.nil_eq p)
  | x :: t, [], _, _, p => absurd p.length_eq (by simp)
  | x :: t, y :: s, h, h', p => by
    obtain ⟨h1, h2⟩ := List.pairwise_cons.1 h
    obtain ⟨h3, h4⟩ := List.pairwise_cons.1 h'
    have e : x = y := by
      rcases List.mem_cons.1 (p.mem_iff.1 (List.mem_cons_self (a := x) (l := t))) with e | e
      · exact e
      · rcases List.mem_cons.1 (p.mem_iff.2 (List.mem_cons_self (a := y) (l := s))) with e' | e'
        · exact e'.symm
        · have := h3 x e; have := h1 y e'; omega
    subst e
    rw [up_eq h2 h4 (List.Perm.cons_inv p)]
theorem put_range {m : Int} {l : List RowR} {r : RowR} (h : ¬ rightR r) : putE m l r = 30 ∧ putT m l r = l := by
  have e : putE m l r = 30 := if_pos h
  exact ⟨e, by unfold putT; rw [e]; rfl⟩
theorem put_txn {m : Int} {l : List RowR} {r : RowR} (h : rightR r) (h2 : (findB l r.birth).isSome = true ∨ (findI l r.id).isSome = true) : putE m l r = 160 ∧ putT m l r = l := by
  have e : putE m l r = 160 := by unfold putE; rw [if_neg (by simpa using h), if_pos h2]
  exact ⟨e, by unfold putT; rw [e]; rfl⟩
theorem put_full {m : Int} {l : List RowR} {r : RowR} (h : rightR r) (h2 : findB l r.birth = none) (h3 : findI l r.id = none) (h4 : m ≤ (l.length : Int)) : putE m l r = 161 ∧ putT m l r = l := by
  have e : putE m l r = 161 := by unfold putE; rw [if_neg (by simpa using h), if_neg (by simp [h2, h3]), if_pos h4]
  exact ⟨e, by unfold putT; rw [e]; rfl⟩
theorem put_ok {m : Int} {l : List RowR} {r : RowR} (h : rightR r) (h2 : findB l r.birth = none) (h3 : findI l r.id = none) (h4 : ¬ m ≤ (l.length : Int)) : putE m l r = 0 ∧ putT m l r = insB r l := by
  have e : putE m l r = 0 := by unfold putE; rw [if_neg (by simpa using h), if_neg (by simp [h2, h3]), if_neg h4]
  exact ⟨e, by unfold putT; rw [e]; rfl⟩
theorem set_range {l : List RowR} {r : RowR} (h : ¬ rightR r) : setE l r = 30 ∧ setT l r = l := by
  have e : setE l r = 30 := if_pos h
  exact ⟨e, by unfold setT; rw [e]; rfl⟩
theorem set_none {l : List RowR} {r : RowR} (h : rightR r) (h2 : findB l r.birth = none) : setE l r = 160 ∧ setT l r = l := by
  have e : setE l r = 160 := by unfold setE; rw [if_neg (by simpa using h), if_neg (by simp [h2])]
  exact ⟨e, by unfold setT; rw [e]; rfl⟩
theorem set_other {l : List RowR} {r x : RowR} (h : rightR r) (h2 : findB l r.birth = some x) (h3 : x.id ≠ r.id) : setE l r = 160 ∧ setT l r = l := by
  have e : setE l r = 160 := by unfold setE; rw [if_neg (by simpa using h), if_neg (by simp [h2, rowOf, h3])]
  exact ⟨e, by unfold setT; rw [e]; rfl⟩
theorem set_ok {l : List RowR} {r x : RowR} (h : rightR r) (h2 : findB l r.birth = some x) (h3 : x.id = r.id) : setE l r = 0 ∧ setT l r = setL l r := by
  have e : setE l r = 0 := by unfold setE; rw [if_neg (by simpa using h), if_pos (by simp [h2, rowOf, h3])]
  exact ⟨e, by unfold setT; rw [e]; rfl⟩
/-- a row is set where it stands -/
theorem setL_at {l : List RowR} (h : Dif l) {k : Nat} {x r : RowR} (hk : l[k]? = some x) (e : x.birth = r.birth) : setL l r = l.set k r := by
  obtain ⟨hl, hx⟩ := List.getElem?_eq_some_iff.1 hk
  apply List.ext_getElem (by simp [setL])
  intro i h1 h2
  simp only [setL, List.getElem_map, List.getElem_set]
  have hi : i < l.length := by simpa [setL] using h1
  by_cases c : k = i
  · subst c; rw [if_pos (by rw [hx]; exact e), if_pos rfl]
  · rw [if_neg c, if_neg]
    intro q
    have hne : (l[i]).birth ≠ (l[k]).birth := by
      rcases Nat.lt_or_gt_of_ne c with c | c
      · exact fun e => (List.pairwise_iff_getElem.1 h.b k i hl hi c) e.symm
      · exact List.pairwise_iff_getElem.1 h.b i k hi hl c
    exact hne (by rw [q, hx, e])
theorem dropL_at {l : List RowR} (h : Dif l) {k : Nat} {x : RowR} {b : Int} (hk : l[k]? = some x) (e : x.birth = b) : dropL l b = l.take k ++ l.drop (k + 1) := by
  obtain ⟨hl, hx⟩ := List.getElem?_eq_some_iff.1 hk
  have es : l = l.take k ++ x :: l.drop (k + 1) := by rw [← hx, List.getElem_cons_drop]; exact (List.take_append_drop k l).symm
  have hd := h
  rw [es] at hd
  obtain ⟨p1, p2, p3⟩ := List.pairwise_append.1 hd.b
  obtain ⟨p4, p5⟩ := List.pairwise_cons.1 p2
  unfold dropL
  conv => lhs; rw [es]
  rw [List.filter_append, List.filter_cons, if_neg (by simp [e]), List.filter_eq_self.2 fun y hy => ?_, List.filter_eq_self.2 fun y hy => ?_]
  · have := p4 y hy; simp; rw [← e]; exact fun q => this q.symm
  · have := p3 y hy x (by simp); simp; rw [← e]; exact this
theorem dropL_none {l : List RowR} {b : Int} (h : findB l b = none) : dropL l b = l := List.filter_eq_self.2 fun y hy => by have := findB_none.1 h y hy; simpa using this
theorem findB_at {l : List RowR} {k : Nat} {x : RowR} {b : Int} (hk : l[k]? = some x) (e : x.birth = b) (hn : ∀ i y, i < k → l[i]? = some y → y.birth ≠ b) : findB l b = some x := by
  obtain ⟨hl, hx⟩ := List.getElem?_eq_some_iff.1 hk
  have es : l = l.take k ++ x :: l.drop (k + 1) := by rw [← hx, List.getElem_cons_drop]; exact (List.take_append_drop k l).symm
  unfold findB
  rw [es, List.find?_append, List.find?_eq_none.2 fun y hy => ?_]
  · simp [e]
  · obtain ⟨i, hi, rfl⟩ := List.getElem_of_mem hy
    have hik : i < k := by simp at hi; omega
    have := hn i l[i] hik (List.getElem?_eq_getElem (by omega))
    simpa using this
theorem findI_at {l : List RowR} {k : Nat} {x : RowR} {b : Int} (hk : l[k]? = some x) (e : x.id = b) (hn : ∀ i y, i < k → l[i]? = some y → y.id ≠ b) : findI l b = some x := by
  obtain ⟨hl, hx⟩ := List.getElem?_eq_some_iff.1 hk
  have es : l = l.take k ++ x :: l.drop (k + 1) := by rw [← hx, List.getElem_cons_drop]; exact (List.take_append_drop k l).symm
  unfold findI
  rw [es, List.find?_append, List.find?_eq_none.2 fun y hy => ?_]
  · simp [e]
  · obtain ⟨i, hi, rfl⟩ := List.getElem_of_mem hy
    have hik : i < k := by simp at hi; omega
    have := hn i l[i] hik (List.getElem?_eq_getElem (by omega))
    simpa using this
theorem findB_no {l : List RowR} {b : Int} (hn : ∀ i y, i < l.length → l[i]? = some y → y.birth ≠ b) : findB l b = none := findB_none.2 fun x hx => by
  obtain ⟨i, hi, rfl⟩ := List.getElem_of_mem hx
  exact hn i _ hi (List.getElem?_eq_getElem hi)
theorem findI_no {l : List RowR} {b : Int} (hn : ∀ i y, i < l.length → l[i]? = some y → y.id ≠ b) : findI l b = none := findI_none.2 fun x hx => by
  obtain ⟨i, hi, rfl⟩ := List.getElem_of_mem hx
  exact hn i _ hi (List.getElem?_eq_getElem hi)
end Go.Proofs.Ytbheegphhllogaa

/-
  OWN WORK. Plain arithmetic: numbers as bytes, the lowest first.
-/
namespace Go.Proofs.Ytbheegphhllogaa
set_option linter.unusedVariables false

/-- the number that these bytes are -/
def low : List UInt8 → Nat
  | [] => 0
  | x :: r => x.toNat + 256 * low r
/-- n bytes of a number, the lowest first -/
def lay (n v : Nat) : List UInt8 := (List.range n).map fun i => UInt8.ofNat (v / 256 ^ i)

theorem low_lt (l : List UInt8) : low l < 256 ^ l.length := by
  induction l with
  | nil => simp [low]
  | cons x r ih =>
    have := x.toNat_lt
    simp only [low, List.length_cons, Nat.pow_succ]
    omega
theorem low_append (a b : List UInt8) : low (a ++ b) = low a + 256 ^ a.length * low b := by
  induction a with
  | nil => simp [low]
  | cons x r ih =>
    simp only [List.cons_append, low, ih, List.length_cons, Nat.pow_succ, Nat.mul_add]
    rw [Nat.mul_comm (256 ^ r.length) 256, Nat.mul_assoc]
    omega
theorem low_take (l : List UInt8) (k : Nat) (h : k < l.length) : low (l.take (k + 1)) = low (l.take k) + l[k].toNat * 256 ^ k := by
  rw [List.take_succ_eq_append_getElem h, low_append]
  have : (l.take k).length = k := by simp; omega
  rw [this]
  simp [low, Nat.mul_comm]
theorem low_take_lt (l : List UInt8) (k : Nat) (h : k ≤ l.length) : low (l.take k) < 256 ^ k := by
  have := low_lt (l.take k)
  rwa [show (l.take k).length = k by simp; omega] at this
theorem pow256 (k : Nat) : 256 ^ k = 2 ^ (8 * k) := by rw [Nat.pow_mul]
theorem low_lt64 (l : List UInt8) (h : l.length ≤ 8) : low l < 18446744073709551616 := by
  have h1 := low_lt l
  have h2 : 256 ^ l.length ≤ 256 ^ 8 := Nat.pow_le_pow_right (by omega) h
  have h3 : 256 ^ 8 = 18446744073709551616 := by decide
  omega

theorem bits_or_u64_nat (a b : Nat) (ha : a < 18446744073709551616) (hb : b < 18446744073709551616) :
    bits .or .u64 (a : Int) (b : Int) = ((a ||| b : Nat) : Int) := by
  have hx : a ||| b < 2 ^ 64 := Nat.or_lt_two_pow (by omega) (by omega)
  have h1 : (BitVec.ofInt 64 (a : Int)).toNat = a := by
    rw [BitVec.ofInt_natCast, BitVec.toNat_ofNat]; exact Nat.mod_eq_of_lt (by omega)
  have h2 : (BitVec.ofInt 64 (b : Int)).toNat = b := by
    rw [BitVec.ofInt_natCast, BitVec.toNat_ofNat]; exact Nat.mod_eq_of_lt (by omega)
  show IntKind.u64.wrap ((BitVec.ofInt 64 (a : Int) ||| BitVec.ofInt 64 (b : Int)).toNat : Int) = _
  rw [BitVec.toNat_or, h1, h2, IntKind.wrap_u64]
  omega
theorem bits_and_u64_nat (a b : Nat) (ha : a < 18446744073709551616) (hb : b < 18446744073709551616) :
    bits .and .u64 (a : Int) (b : Int) = ((a &&& b : Nat) : Int) := by
  have hx : a &&& b < 2 ^ 64 := Nat.and_lt_two_pow _ (by omega)
  have h1 : (BitVec.ofInt 64 (a : Int)).toNat = a := by
    rw [BitVec.ofInt_natCast, BitVec.toNat_ofNat]; exact Nat.mod_eq_of_lt (by omega)
  have h2 : (BitVec.ofInt 64 (b : Int)).toNat = b := by
    rw [BitVec.ofInt_natCast, BitVec.toNat_ofNat]; exact Nat.mod_eq_of_lt (by omega)
  show IntKind.u64.wrap ((BitVec.ofInt 64 (a : Int) &&& BitVec.ofInt 64 (b : Int)).toNat : Int) = _
  rw [BitVec.toNat_and, h1, h2, IntKind.wrap_u64]
  omega

/-- one byte more, from above: 'v |= uint64(x) << (8 * i)' -/
theorem or_byte (a k : Nat) (x : UInt8) (h : a < 256 ^ k) (hk : k < 8) :
    bits .or .u64 (a : Int) (IntKind.u64.wrap (IntKind.u64.wrap (x.toNat : Int) * 2 ^ (8 * k))) = ((a + x.toNat * 256 ^ k : Nat) : Int) := by
  have hx := x.toNat_lt
  have h1 : IntKind.u64.wrap (x.toNat : Int) = (x.toNat : Int) := by rw [IntKind.wrap_u64]; omega
  have hp : 256 ^ (k + 1) ≤ 256 ^ 8 := Nat.pow_le_pow_right (by omega) (by omega)
  have h8 : 256 ^ 8 = 18446744073709551616 := by decide
  have hpk : 0 < 256 ^ k := Nat.pow_pos (by omega)
  have hm : x.toNat * 256 ^ k ≤ 255 * 256 ^ k := Nat.mul_le_mul_right _ (by omega)
  have hs : 256 ^ (k + 1) = 256 ^ k * 256 := Nat.pow_succ ..
  have h2 : IntKind.u64.wrap ((x.toNat : Int) * 2 ^ (8 * k)) = ((x.toNat * 256 ^ k : Nat) : Int) := by
    have e : ((x.toNat : Int) * 2 ^ (8 * k)) = ((x.toNat * 256 ^ k : Nat) : Int) := by rw [pow256]; simp
    rw [e, IntKind.wrap_u64]
    omega
  rw [h1, h2, bits_or_u64_nat _ _ (by omega) (by omega)]
  have := Nat.two_pow_add_eq_or_of_lt (i := 8 * k) (b := a) (by rw [← pow256]; exact h) x.toNat
  rw [Nat.or_comm, Nat.mul_comm, pow256, ← this, Nat.add_comm]
theorem low_or (l : List UInt8) (k : Nat) (h : k < l.length) (h8 : l.length ≤ 8) :
    bits .or .u64 (low (l.take k) : Int) (IntKind.u64.wrap (IntKind.u64.wrap (l[k].toNat : Int) * 2 ^ (8 * k))) = (low (l.take (k + 1)) : Int) := by
  rw [or_byte _ _ _ (low_take_lt l k (by omega)) (by omega), low_take l k h]

theorem lay_length (n v : Nat) : (lay n v).length = n := by simp [lay]
theorem lay_succ (n v : Nat) : lay (n + 1) v = lay n v ++ [UInt8.ofNat (v / 256 ^ n)] := by simp [lay, List.range_succ]
theorem lay_zero (v : Nat) : lay 0 v = [] := rfl
theorem low_lay (n v : Nat) : low (lay n v) = v % 256 ^ n := by
  induction n with
  | zero => simp [lay, low, Nat.mod_one]
  | succ n ih =>
    rw [lay_succ, low_append, ih, lay_length]
    simp only [low, Nat.mul_zero, Nat.add_zero, UInt8.toNat_ofNat']
    have e : v % 256 ^ (n + 1) = v % 256 ^ n + 256 ^ n * (v / 256 ^ n % 256) := by rw [Nat.pow_succ, Nat.mod_mul]
    rw [e]
theorem lay_cons (n v : Nat) : lay (n + 1) v = UInt8.ofNat v :: lay n (v / 256) := by
  simp only [lay, List.range_succ_eq_map, List.map_cons, List.map_map]
  simp only [Nat.pow_zero, Nat.div_one]
  congr 1
  apply List.map_congr_left
  intro i _
  simp only [Function.comp]
  rw [Nat.div_div_eq_div_mul, Nat.pow_succ, Nat.mul_comm]
theorem byte_of (x k : Nat) : (x : Int) / 2 ^ (8 * k) % 256 = ((UInt8.ofNat (x / 256 ^ k)).toNat : Int) := by
  rw [UInt8.toNat_ofNat', pow256]
  have : ((2 : Int) ^ (8 * k)) = ((2 ^ (8 * k) : Nat) : Int) := by simp
  rw [this]
  generalize 2 ^ (8 * k) = m
  rw [← Int.natCast_ediv]
  show ((x / m : Nat) : Int) % ((256 : Nat) : Int) = _
  rw [← Int.natCast_emod]
theorem wrap_u8 {x : Nat} (h : x < 256 ^ 1) : IntKind.u8.wrap (x : Int) = (x : Int) := by
  simp only [IntKind.wrap, IntKind.bits, IntKind.signed]
  have : 256 ^ 1 = 256 := by decide
  simp
  omega
theorem wrap_u16 {x : Nat} (h : x < 256 ^ 2) : IntKind.u16.wrap (x : Int) = (x : Int) := by
  simp only [IntKind.wrap, IntKind.bits, IntKind.signed]
  have : 256 ^ 2 = 65536 := by decide
  simp
  omega
theorem wrap_u32 {x : Nat} (h : x < 256 ^ 4) : IntKind.u32.wrap (x : Int) = (x : Int) := by
  simp only [IntKind.wrap, IntKind.bits, IntKind.signed]
  have : 256 ^ 4 = 4294967296 := by decide
  simp
  omega
theorem byte_mod (z : Nat) : (z : Int) % 256 = ((UInt8.ofNat z).toNat : Int) := by
  rw [UInt8.toNat_ofNat']
  omega
theorem low_drop (l : List UInt8) (j : Nat) (h : j < l.length) : low (l.drop j) = l[j].toNat + 256 * low (l.drop (j + 1)) := by
  rw [List.drop_eq_getElem_cons h, low]
theorem get_step (z : Nat) (x : UInt8) (h : x.toNat + 256 * z < 18446744073709551616) :
    IntKind.u64.wrap (IntKind.u64.wrap ((z : Int) * 256) + IntKind.u64.wrap (x.toNat : Int)) = ((x.toNat + 256 * z : Nat) : Int) := by
  rw [IntKind.wrap_u64, IntKind.wrap_u64, IntKind.wrap_u64]
  omega
theorem div_step (z : Nat) (h : z < 18446744073709551616) : IntKind.u64.wrap ((z : Int) / 256) = ((z / 256 : Nat) : Int) := by
  rw [IntKind.wrap_u64]
  omega
theorem get_bound (l : List UInt8) (n j : Nat) (hl : n ≤ l.length) (hj : j < n) (h8 : n ≤ 8) : low ((l.take n).drop j) = l[j].toNat + 256 * low ((l.take n).drop (j + 1)) ∧ low ((l.take n).drop j) < 18446744073709551616 := by
  have hlen : (l.take n).length = n := by simp; omega
  refine ⟨?_, low_lt64 _ (by simp; omega)⟩
  rw [low_drop _ j (by omega)]
  simp
/-- 'v & (1<<(8*width) - 1)' -/
theorem and_mask (x n : Nat) (hx : x < 18446744073709551616) (h8 : n ≤ 8) : bits .and .u64 (x : Int) ((256 ^ n - 1 : Nat) : Int) = ((x % 256 ^ n : Nat) : Int) := by
  have h2 : 256 ^ n ≤ 256 ^ 8 := Nat.pow_le_pow_right (by omega) h8
  have h3 : 256 ^ 8 = 18446744073709551616 := by decide
  have h4 : 0 < 256 ^ n := Nat.pow_pos (by decide)
  rw [bits_and_u64_nat _ _ hx (by omega), pow256, Nat.and_two_pow_sub_one_eq_mod]
theorem low_lay_lt (n m : Nat) (h : m < 256 ^ n) : low (lay n m) = m := by rw [low_lay, Nat.mod_eq_of_lt h]
theorem low_lay_take (n m : Nat) (h : m < 256 ^ n) : low ((lay n m).take n) = m := by
  rw [List.take_of_length_le (by rw [lay_length]; omega)]
  exact low_lay_lt n m h
theorem take_left {α : Type} (a b : List α) : (a ++ b).take a.length = a := by simp
theorem drop_left {α : Type} (a b : List α) : (a ++ b).drop a.length = b := by simp
end Go.Proofs.Ytbheegphhllogaa

/-
  OWN WORK. copy into a part of an owned row; a byte list laid over another.
-/
namespace Go.Proofs.Ytbheegphhllogaa
open Go.RowKit
set_option linter.unusedVariables false

/-- r laid over L from the place off on -/
def over (L : List UInt8) (off : Nat) (r : List UInt8) : List UInt8 := L.take off ++ (r ++ L.drop (off + r.length))
theorem over_length (L : List UInt8) (off : Nat) (r : List UInt8) (h : off + r.length ≤ L.length) : (over L off r).length = L.length := by simp [over]; omega
theorem over_nil (L : List UInt8) (off : Nat) : over L off [] = L := by simp [over]
theorem over_at (L : List UInt8) (off : Nat) (r : List UInt8) (h : off + r.length ≤ L.length) (i : Nat) : (over L off r)[i]? = if off ≤ i ∧ i < off + r.length then r[i - off]? else L[i]? := by
  unfold over
  by_cases h1 : i < off
  · rw [List.getElem?_append_left (by simp; omega), List.getElem?_take, if_pos h1, if_neg (by omega)]
  · rw [List.getElem?_append_right (by simp; omega)]
    have e : (L.take off).length = off := by simp; omega
    rw [e]
    by_cases h2 : i < off + r.length
    · rw [List.getElem?_append_left (by omega), if_pos ⟨by omega, h2⟩]
    · rw [List.getElem?_append_right (by omega), List.getElem?_drop, if_neg (by omega)]
      congr 1; omega
/-- 'copy(out[off:..], b)': out the call's own row; what is cut is at least as long as b. -/
theorem wpList_copy_part {P : Program} {w : World} {ops : Array Oper} {rest : List Oper} {o : Oper} {a : Act} {Q : Exit → Act → World → Prop} (hgd : o.guard = none) (d s : Operand) (t : TypeId)
    (ho : o.op = .call { callee := .builtin .copy, args := #[d, s], argTypes := #[t, t] }) (base : Nat) (e : TypeId) (hu : P.underlying t = some (.slice e))
    (hsz : (P.info? e).map (·.size) = some 1)
    (v : Value) (n : Nat) (L : List UInt8) (hown : w.ownsRow base e 1 v n (u8s L)) (off : Nat) (dp : Option Addr) (dLen dCap : Nat) (hd : a.eval d = .slice dp dLen dCap)
    (hdp : 0 < dLen → ∃ g, v.ownBlock = some g ∧ dp = some ⟨g, off, none⟩) (sv : Value) (r : List UInt8) (hx : a.eval s = sv) (hb : Bs w sv r) (hr : r.length ≤ dLen) (hfit : off + dLen ≤ n)
    (h : ∀ w', w'.ownsRow base e 1 v n (u8s (over L off r)) → w.grownBy w' v.ownBlock → wpList P ops Q rest (a.put o.dst (goInt r.length)) w') : wpList P ops Q (o :: rest) a w := by
  obtain ⟨p, c, rfl, h1, h2, h3, h4⟩ := hb
  by_cases h0 : r.length = 0
  · obtain rfl : r = [] := List.eq_nil_of_length_eq_zero h0
    refine wpList_copy_nothing hgd d s t t ho e hu hsz dp p dLen dCap 0 c hd hx (by simp) ?_
    exact h w (by rw [over_nil]; exact hown) (World.grownBy.refl _ _)
  · obtain ⟨g, hgv, rfl⟩ := hdp (by omega)
    cases p with
    | none => have := h3 rfl; omega
    | some ad =>
      have hn : n = L.length := by have := hown.1; rw [u8s_length] at this; omega
      subst hn
      rcases hown.2 with ⟨rfl, hz⟩ | ⟨g', cap, cur, rfl, hbg, hg, hnc, hcm, hcs, htk⟩
      · simp [Value.ownBlock] at hgv
      · have e1 : g' = g := by simpa [Value.ownBlock] using hgv
        subst e1
        refine wpList_copy_own hgd d s t t ho e hu hsz g' off dLen dCap ad r.length c hd hx cur e hg (u8s r) (by rw [u8s_length]; simp [Nat.min_def]; omega) (fun j u hj => by obtain ⟨y, hy, rfl⟩ := u8s_at hj; exact h4 ad rfl j y hy) (by rw [u8s_length]; omega) (u8s_one r) ?_
        rw [u8s_length]
        have hgl : g' < w.heap.size := (Array.getElem?_eq_some_iff.1 hg).1
        refine h _ ⟨by rw [u8s_length, over_length _ _ _ (by omega)]; omega, .inr ⟨g', cap, _, rfl, hbg, setRow_heap w g' cur _ e (0, 0) hg, hnc, hcm, ?_, ?_⟩⟩ ⟨rfl, rfl, rfl, by simp [World.setRow], fun k hk hne => setRow_other w g' k _ (by intro e2; subst e2; exact hne rfl)⟩
        · simp [u8s_length]; omega
        · simp only [Nat.mul_one] at htk ⊢
          have hT : cur.toList.take L.length = u8s L := htk
          have hsz' : cur.toList.length = cap := by simp [hcs]
          apply List.ext_getElem?
          intro j
          have hcur : ∀ j, j < L.length → cur.toList[j]? = (u8s L)[j]? := fun j hj => by rw [← hT, List.getElem?_take, if_pos hj]
          by_cases hj : j < L.length
          · rw [List.getElem?_take, if_pos hj]
            have e3 : (u8s (over L off r))[j]? = if off ≤ j ∧ j < off + r.length then (u8s r)[j - off]? else (u8s L)[j]? := by
              simp only [u8s, List.getElem?_map, over_at L off r (by omega) j]
              split <;> rfl
            rw [e3]
            by_cases c1 : j < off
            · rw [List.getElem?_append_left (by simp; omega), List.getElem?_take, if_pos c1, if_neg (by omega), hcur j hj]
            · rw [List.getElem?_append_right (by simp; omega)]
              have e4 : (cur.toList.take off).length = off := by simp; omega
              rw [e4]
              by_cases c2 : j < off + r.length
              · rw [List.getElem?_append_left (by rw [u8s_length]; omega), if_pos ⟨by omega, c2⟩]
              · rw [List.getElem?_append_right (by rw [u8s_length]; omega), List.getElem?_drop, if_neg (by omega), u8s_length, ← hcur j hj]
                congr 1; omega
          · rw [List.getElem?_eq_none (by simp; omega), List.getElem?_eq_none (by rw [u8s_length, over_length _ _ _ (by omega)]; omega)]
end Go.Proofs.Ytbheegphhllogaa

/-
  OWN WORK. Rows of the call's own whose elements have several cells, told by their cells: also a front of one, with no spare.
-/
namespace Go.Proofs.Ytbheegphhllogaa
open Go.RowKit
set_option linter.unusedVariables false

/-- v: n elements of sz cells each, the cells cs, in a block of the call's own (at base or behind), from its beginning on -/
def Row (w : World) (base sz : Nat) (v : Value) (n : Nat) (cs : List Value) : Prop :=
  cs.length = n * sz ∧ (∀ u ∈ cs, u.oneCell' = true) ∧ ∃ p c, v = .slice p n c ∧ n ≤ c ∧ c ≤ maxLen ∧ ((p = none ∧ c = 0) ∨ ∃ g, p = some ⟨g, 0, none⟩ ∧ base ≤ g ∧ g < w.heap.size ∧
    (∀ (j : Nat) u, cs[j]? = some u → w.cell? ⟨g, j, none⟩ = some u) ∧ ∀ j, j < c * sz → (w.cell? ⟨g, j, none⟩).isSome = true ∧ w.frozen? ⟨g, j, none⟩ = false)
theorem Row.nil (w : World) (base sz : Nat) : Row w base sz (.slice none 0 0) 0 [] := ⟨by simp, by simp, none, 0, rfl, Nat.le_refl _, by simp [maxLen], .inl ⟨rfl, rfl⟩⟩
theorem frozen_of_block {w w' : World} {a : Addr} (h : w'.heap[a.block]? = w.heap[a.block]?) : w'.frozen? a = w.frozen? a := World.frozen?_of_block h
theorem Row.kept {w w' : World} {base sz : Nat} {v : Value} {n : Nat} {cs : List Value} {S : List Nat} (h : Row w base sz v n cs) (k : Kept S w w') (hS : ∀ x, v.ownBlock = some x → x ∉ S) : Row w' base sz v n cs := by
  obtain ⟨h1, h2, p, c, rfl, h3, h4, h5⟩ := h
  refine ⟨h1, h2, p, c, rfl, h3, h4, ?_⟩
  rcases h5 with h5 | ⟨g, rfl, h6, h7, h8, h9⟩
  · exact .inl h5
  · have e := k.block g h7 (hS g rfl)
    exact .inr ⟨g, rfl, h6, Nat.lt_of_lt_of_le h7 k.size, fun j u hj => (World.cell?_of_block (a := ⟨g, j, none⟩) e).trans (h8 j u hj), fun j hj => ⟨by rw [World.cell?_of_block (a := ⟨g, j, none⟩) e]; exact (h9 j hj).1, (frozen_of_block (a := ⟨g, j, none⟩) e).trans (h9 j hj).2⟩⟩
theorem Row.shape {w : World} {base sz : Nat} {v : Value} {n : Nat} {cs : List Value} (h : Row w base sz v n cs) : ∃ p c, v = .slice p n c ∧ n ≤ c ∧ c ≤ maxLen := by
  obtain ⟨-, -, p, c, rfl, h3, h4, -⟩ := h
  exact ⟨p, c, rfl, h3, h4⟩
theorem Row.pos {w : World} {base sz : Nat} {p : Option Addr} {n c : Nat} {cs : List Value} (h : Row w base sz (.slice p n c) n cs) (hn : 0 < n) :
    ∃ g, p = some ⟨g, 0, none⟩ ∧ base ≤ g ∧ g < w.heap.size ∧ (∀ (j : Nat) u, cs[j]? = some u → w.cell? ⟨g, j, none⟩ = some u) ∧ ∀ j, j < c * sz → (w.cell? ⟨g, j, none⟩).isSome = true ∧ w.frozen? ⟨g, j, none⟩ = false := by
  obtain ⟨h1, h2, p', c', e, h3, h4, h5⟩ := h
  cases e
  rcases h5 with ⟨-, h5⟩ | h5
  · omega
  · exact h5
theorem Row.lt {w : World} {base sz : Nat} {v : Value} {n : Nat} {cs : List Value} (h : Row w base sz v n cs) (x : Nat) (hx : v.ownBlock = some x) : base ≤ x ∧ x < w.heap.size := by
  obtain ⟨h1, h2, p, c, rfl, h3, h4, h5⟩ := h
  rcases h5 with ⟨rfl, -⟩ | ⟨g, rfl, h6, h7, -⟩
  · simp [Value.ownBlock] at hx
  · simp [Value.ownBlock] at hx
    subst hx
    exact ⟨h6, h7⟩
theorem Row.mono {w : World} {base base' sz : Nat} {v : Value} {n : Nat} {cs : List Value} (h : Row w base sz v n cs) (hb : base' ≤ base) : Row w base' sz v n cs := by
  obtain ⟨h1, h2, p, c, rfl, h3, h4, h5⟩ := h
  refine ⟨h1, h2, p, c, rfl, h3, h4, ?_⟩
  rcases h5 with h5 | ⟨g, rfl, h6, h7, h8⟩
  · exact .inl h5
  · exact .inr ⟨g, rfl, Nat.le_trans hb h6, h7, h8⟩
/-- a cell of one is set -/
theorem Row.set {w : World} {base sz g n c : Nat} {cs : List Value} (h : Row w base sz (.slice (some ⟨g, 0, none⟩) n c) n cs) (j : Nat) (hj : j < n * sz) (u : Value) (hu : u.oneCell' = true) :
    Row (w.setCell ⟨g, j, none⟩ u) base sz (.slice (some ⟨g, 0, none⟩) n c) n (cs.set j u) ∧ Kept [g] w (w.setCell ⟨g, j, none⟩ u) := by
  have hk : Kept [g] w (w.setCell ⟨g, j, none⟩ u) := (Kept.refl [g] w).setCell (.inl (by simp)) u
  obtain ⟨h1, h2, p', c', e, h3, h4, h5⟩ := h
  cases e
  refine ⟨⟨by rw [List.length_set]; exact h1, fun x hx => ?_, _, _, rfl, h3, h4, ?_⟩, hk⟩
  · rcases List.mem_or_eq_of_mem_set hx with hx | hx
    · exact h2 x hx
    · rw [hx]; exact hu
  · rcases h5 with ⟨h5, -⟩ | ⟨g', e, h6, h7, h8, h9⟩
    · cases h5
    · cases e
      obtain ⟨old, hold⟩ : ∃ old, cs[j]? = some old := ⟨_, List.getElem?_eq_getElem (by omega)⟩
      have hc := h8 j old hold
      refine .inr ⟨g, rfl, h6, Nat.lt_of_lt_of_le h7 hk.size, fun k x hx => ?_, fun k hk' => ⟨?_, by rw [World.frozen?_setCell]; exact (h9 k hk').2⟩⟩
      · rw [List.getElem?_set] at hx
        by_cases e : j = k
        · subst e
          rw [if_pos rfl, if_pos (by omega)] at hx
          cases hx
          exact World.cell?_setCell_same _ _ _ hc
        · rw [if_neg e] at hx
          rw [World.cell?_setCell_other _ _ _ _ (by first | (simp; done) | (simp; omega))]
          exact h8 k x hx
      · by_cases e : j = k
        · subst e
          rw [World.cell?_setCell_same _ _ _ hc]; rfl
        · rw [World.cell?_setCell_other _ _ _ _ (by first | (simp; done) | (simp; omega))]
          exact (h9 k hk').1
/-- a front of one, with no spare -/
theorem Row.front {w : World} {base sz : Nat} {p : Option Addr} {n c : Nat} {cs : List Value} (h : Row w base sz (.slice p n c) n cs) (i : Nat) (hi : i ≤ n) (hn : 0 < n) : Row w base sz (.slice p i i) i (cs.take (i * sz)) := by
  obtain ⟨g, rfl, h6, h7, h8, h9⟩ := h.pos hn
  obtain ⟨h1, h2, p', c', e, h3, h4, h5⟩ := h
  cases e
  have hm : i * sz ≤ n * sz := Nat.mul_le_mul_right _ hi
  have hm2 : i * sz ≤ c * sz := Nat.mul_le_mul_right _ (by omega)
  refine ⟨by rw [List.length_take]; omega, fun u hu => h2 u (List.mem_of_mem_take hu), _, i, rfl, Nat.le_refl _, by omega, .inr ⟨g, rfl, h6, h7, fun j u hj => ?_, fun j hj => h9 j (by omega)⟩⟩
  rw [List.getElem?_take] at hj
  split at hj
  · exact h8 j u hj
  · cases hj
theorem kept_setCells (g : Nat) : ∀ (vs : List Value) (o : Nat) (w : World), Kept [g] w (w.setCells g o vs)
  | [], _, w => Kept.refl _ _
  | v :: r, o, w => ((Kept.refl [g] w).setCell (p := ⟨g, o, none⟩) (.inl (by simp)) v).trans (kept_setCells g r (o + 1) _) (by intro x hx; exact .inl hx)
/-- 'append(l, x...)' -/
theorem run_append_row {P : Program} (w : World) (base : Nat) (t ty e : TypeId) (i : TypeInfo) (z : Value) (sz bytes : Nat) (ht : P.underlying t = some (.slice e)) (hi : P.info? e = some i) (hz : i.zero = some z) (hsize : i.size = sz) (hby : i.bytes = bytes) (hzs : z.cells.size = sz)
    (v : Value) (n : Nat) (cs : List Value) (h : Row w base sz v n cs) (x : Value) (m : Nat) (news : List Value) (hs : Src P sz t x m news w) (h63 : n + m ≤ 9223372036854775807) (hmx : n + m ≤ maxLen) (hbytes : (n + m) * bytes ≤ 140737488355328) (hbase : base ≤ w.heap.size) :
    ∃ v' w', (Builtin.append_ #[t, t] ty #[v, x]).run P w = .ok v' w' ∧ Row w' base sz v' (n + m) (cs ++ news) ∧ Kept v.ownBlock.toList w w' ∧ (v'.ownBlock = v.ownBlock ∨ v'.ownBlock = some w.heap.size) := by
  subst hsize
  subst hby
  have hnl := hs.newsLen
  have hall : ∀ u ∈ cs ++ news, u.oneCell' = true := by
    intro u hu
    rcases List.mem_append.1 hu with hu | hu
    · exact h.2.1 u hu
    · exact hs.one u hu
  have hlen : (cs ++ news).length = (n + m) * i.size := by rw [List.length_append, h.1, hnl, Nat.add_mul]
  obtain ⟨p, c, rfl, h3, h4⟩ := h.shape
  by_cases hfit : n + m ≤ c
  · cases p with
    | none =>
      obtain ⟨h1, h2, p', c', e', -, -, h5⟩ := id h
      cases e'
      rcases h5 with ⟨-, rfl⟩ | ⟨g, e, -⟩
      · obtain rfl : n = 0 := by omega
        obtain rfl : m = 0 := by omega
        obtain rfl : news = [] := List.eq_nil_of_length_eq_zero (by simpa using hnl)
        exact ⟨_, _, run_append_nothing (P := P) w t t ty e i ht hi none 0 0 (Nat.le_refl _) x hs, by simpa using h, Kept.refl _ _, .inl rfl⟩
      · cases e
    | some a =>
      obtain ⟨h1, h2, p', c', e', -, -, h5⟩ := id h
      cases e'
      rcases h5 with ⟨e, -⟩ | ⟨g, e, h6, h7, h8, h9⟩
      · cases e
      · cases e
        have hm : n * i.size + m * i.size ≤ c * i.size := by rw [← Nat.add_mul]; exact Nat.mul_le_mul_right _ hfit
        have hthere : ∀ j, j < news.length → (w.cell? ⟨g, 0 + n * i.size + j, none⟩).isSome = true := fun j hj => (h9 _ (by omega)).1
        have hrun := run_append_room_src (P := P) w t t ty e i ht hi g 0 n c x m news hs hfit hthere (fun j hj => (h9 _ (by omega)).2)
        have hk := kept_setCells g news (0 + n * i.size) w
        refine ⟨_, _, hrun, ⟨hlen, hall, _, _, rfl, hfit, h4, .inr ⟨g, rfl, h6, Nat.lt_of_lt_of_le h7 hk.size, fun j u hj => ?_, fun j hj => ⟨?_, by rw [World.frozen?_setCells]; exact (h9 j hj).2⟩⟩⟩, by simpa [Value.ownBlock] using hk, .inl rfl⟩
        · by_cases hjc : j < cs.length
          · rw [List.getElem?_append_left hjc] at hj
            rw [World.cell?_setCells_out g news _ w _ (fun _ _ => .inl (by simp; omega))]
            exact h8 j u hj
          · rw [List.getElem?_append_right (by omega)] at hj
            obtain ⟨hlt, rfl⟩ := List.getElem?_eq_some_iff.1 hj
            have := World.cell?_setCells_in g news (0 + n * i.size) w hthere (j - cs.length) hlt
            rw [show 0 + n * i.size + (j - cs.length) = j by omega] at this
            exact this
        · by_cases hjin : 0 + n * i.size ≤ j ∧ j < 0 + n * i.size + news.length
          · have := World.cell?_setCells_in g news (0 + n * i.size) w hthere (j - (0 + n * i.size)) (by omega)
            rw [show 0 + n * i.size + (j - (0 + n * i.size)) = j by omega] at this
            rw [this]; rfl
          · rw [World.cell?_setCells_out g news _ w _ (fun _ _ => by simp; omega)]
            exact (h9 j hj).1
  · have hold : (Builtin.firstCells i.size n (.slice p n c)).run P w.drew = .ok cs.toArray w.drew := by
      obtain ⟨h1, h2, p', c', e', -, -, h5⟩ := id h
      cases e'
      rcases h5 with ⟨rfl, rfl⟩ | ⟨g, rfl, h6, h7, h8, h9⟩
      · obtain rfl : n = 0 := by omega
        obtain rfl : cs = [] := List.eq_nil_of_length_eq_zero (by simpa using h1)
        exact run_firstCells_none w.drew i.size 0 0 0
      · exact run_firstCells_some w.drew i.size n ⟨g, 0, none⟩ n c cs h1 (fun j u hj => by rw [add_none rfl]; simpa using h8 j u hj)
    have hg : c < n + m := by omega
    have hrun := run_append_grow_src (P := P) w t t ty e i z ht hi hz p n c cs hold x m news hs hg (by omega) (growslice_fits hg hbytes)
    have hge := grownCap_ge w (n + m) c e
    have hcm := grownCap_le_maxLen w (n + m) c e hmx
    have hsz : ((cs ++ news).toArray ++ Builtin.zeroCells z.cells (grownCap w (n + m) c e - (n + m))).size = grownCap w (n + m) c e * i.size := by
      rw [Array.size_append, List.size_toArray, hlen, size_zeroCells, hzs, ← Nat.add_mul]
      congr 1
      omega
    have hk : Kept [] w (w.drew.alloc (.cells ((cs ++ news).toArray ++ Builtin.zeroCells z.cells (grownCap w (n + m) c e - (n + m))) e)) := ((Kept.refl [] w).drew).alloc _
    refine ⟨_, _, hrun, ⟨hlen, hall, _, _, rfl, hge, hcm, .inr ⟨w.heap.size, rfl, hbase, by simp, fun j u hj => ?_, fun j hj => ⟨?_, World.frozen?_alloc_new w.drew _ _ j⟩⟩⟩, hk.mono (by simp), .inr rfl⟩
    · have e1 : (w.drew.alloc (.cells ((cs ++ news).toArray ++ Builtin.zeroCells z.cells (grownCap w (n + m) c e - (n + m))) e)).cell? ⟨w.heap.size, j, none⟩ = _ := World.cell?_alloc_new w.drew _ _ j
      have hjl := (List.getElem?_eq_some_iff.1 hj).1
      rw [e1, Array.getElem?_append_left (by simpa using hjl), List.getElem?_toArray, hj]
    · have e1 : (w.drew.alloc (.cells ((cs ++ news).toArray ++ Builtin.zeroCells z.cells (grownCap w (n + m) c e - (n + m))) e)).cell? ⟨w.heap.size, j, none⟩ = _ := World.cell?_alloc_new w.drew _ _ j
      rw [e1, Array.getElem?_eq_getElem (by rw [hsz]; exact hj)]
      rfl
theorem info_parts3 {P : Program} {e : TypeId} {z : Value} {sz by' : Nat} (h : (P.info? e).map (fun i => (i.zero, i.size, i.bytes)) = some (some z, sz, by')) : ∃ i, P.info? e = some i ∧ i.zero = some z ∧ i.size = sz ∧ i.bytes = by' := by
  obtain ⟨i, hi, h'⟩ := Option.map_eq_some_iff.1 h
  simp only [Prod.mk.injEq] at h'
  exact ⟨i, hi, h'.1, h'.2.1, h'.2.2⟩
/-- what is cut off a row behind its k-th element is a source -/
theorem Row.rest {P : Program} {w w' : World} {base sz g n c : Nat} {cs : List Value} {t e : TypeId} (ht : P.underlying t = some (.slice e)) (h : Row w base sz (.slice (some ⟨g, 0, none⟩) n c) n cs) (hc : ∀ (j : Nat) u, cs[j]? = some u → w'.cell? ⟨g, j, none⟩ = some u) (k : Nat) (hk : k ≤ n) (sa : Option Addr)
    (hsa : sa = if c = k then some ⟨g, 0, none⟩ else Option.map (fun x : Addr => x.add (k * sz)) (some ⟨g, 0, none⟩)) : Src P sz t (.slice sa (n - k) (c - k)) (n - k) (cs.drop (k * sz)) w' := by
  obtain ⟨h1, h2, p', c', e', h3, h4, h5⟩ := h
  cases e'
  have hl : (cs.drop (k * sz)).length = (n - k) * sz := by rw [List.length_drop, h1, Nat.sub_mul]
  have hone : ∀ u ∈ cs.drop (k * sz), u.oneCell' = true := fun u hu => h2 u (List.mem_of_mem_drop hu)
  by_cases e : c = k
  · rw [if_pos e] at hsa
    subst hsa
    have h0 : cs.drop (k * sz) = [] := List.eq_nil_of_length_eq_zero (by rw [hl, show n - k = 0 by omega]; simp)
    exact Src.ofSlice w' ht _ _ _ _ hl (fun j u hj => by rw [h0] at hj; simp at hj) hone
  · rw [if_neg e] at hsa
    subst hsa
    refine Src.ofSlice w' ht _ _ _ _ hl (fun j u hj => ?_) hone
    rw [Go.Proofs.Ytbheegphhllogaa.add_add, add_none (a := ⟨g, 0, none⟩) rfl]
    rw [List.getElem?_drop] at hj
    simpa using hc _ u hj
/-- the same in a walk, and at a step of a region that draws its order -/
theorem wpList_append_row {P : Program} {w : World} {ops : Array Oper} {rest : List Oper} {o : Oper} {a : Act} {Q : Exit → Act → World → Prop} (hgd : o.guard = none) (s x : Operand) (t : TypeId)
    (ho : o.op = .call { callee := .builtin .append, args := #[s, x], argTypes := #[t, t] }) (base : Nat) (e : TypeId) (i : TypeInfo) (z : Value) (sz bytes : Nat) (ht : P.underlying t = some (.slice e)) (hi : P.info? e = some i) (hz : i.zero = some z) (hsize : i.size = sz) (hby : i.bytes = bytes) (hzs : z.cells.size = sz)
    (v : Value) (n : Nat) (cs : List Value) (hv : a.eval s = v) (h : Row w base sz v n cs) (xv : Value) (m : Nat) (news : List Value) (hx : a.eval x = xv) (hs : Src P sz t xv m news w) (h63 : n + m ≤ 9223372036854775807) (hmx : n + m ≤ maxLen) (hbytes : (n + m) * bytes ≤ 140737488355328) (hbase : base ≤ w.heap.size)
    (hgo : ∀ v' w', Row w' base sz v' (n + m) (cs ++ news) → Kept v.ownBlock.toList w w' → (v'.ownBlock = v.ownBlock ∨ v'.ownBlock = some w.heap.size) → wpList P ops Q rest (a.put o.dst v') w') : wpList P ops Q (o :: rest) a w := by
  refine wpList_plain hgd fun K hK => ?_
  obtain ⟨v', w', hr, k1, k2, k3⟩ := run_append_row (P := P) w base t o.type e i z sz bytes ht hi hz hsize hby hzs v n cs h xv m news hs h63 hmx hbytes hbase
  unfold Oper.wp execOp
  simp only [ho, resolve, invoke, builtin, Sem.run_bind, Sem.run_pure, Result.andThen_ok, List.map_toArray, List.map_cons, List.map_nil, hv, hx, hr]
  exact hK _ _ (hgo v' w' k1 k2 k3)
theorem step_append_row {P : Program} {w : World} {ops : Array Oper} {o : Oper} {a : Act} {K : Act → World → Prop} {Q : Exit → Act → World → Prop} {E : Prop} (hgd : o.guard = none) (s x : Operand) (t : TypeId)
    (ho : o.op = .call { callee := .builtin .append, args := #[s, x], argTypes := #[t, t] }) (base : Nat) (e : TypeId) (i : TypeInfo) (z : Value) (sz bytes : Nat) (ht : P.underlying t = some (.slice e)) (hi : P.info? e = some i) (hz : i.zero = some z) (hsize : i.size = sz) (hby : i.bytes = bytes) (hzs : z.cells.size = sz)
    (v : Value) (n : Nat) (cs : List Value) (hv : a.eval s = v) (h : Row w base sz v n cs) (xv : Value) (m : Nat) (news : List Value) (hx : a.eval x = xv) (hs : Src P sz t xv m news w) (h63 : n + m ≤ 9223372036854775807) (hmx : n + m ≤ maxLen) (hbytes : (n + m) * bytes ≤ 140737488355328) (hbase : base ≤ w.heap.size)
    (hgo : ∀ v' w', Row w' base sz v' (n + m) (cs ++ news) → Kept v.ownBlock.toList w w' → (v'.ownBlock = v.ownBlock ∨ v'.ownBlock = some w.heap.size) → K (a.put o.dst v') w') :
    if Region.wanted o (yielded ops a.tmps) = true then Oper.wp P o a w K Q else E := by
  have hw : Region.wanted o (yielded ops a.tmps) = true := by simp [Region.wanted, hgd]
  rw [if_pos hw]
  obtain ⟨v', w', hr, k1, k2, k3⟩ := run_append_row (P := P) w base t o.type e i z sz bytes ht hi hz hsize hby hzs v n cs h xv m news hs h63 hmx hbytes hbase
  unfold Oper.wp execOp
  simp only [ho, resolve, invoke, builtin, Sem.run_bind, Sem.run_pure, Result.andThen_ok, List.map_toArray, List.map_cons, List.map_nil, hv, hx, hr]
  exact hgo v' w' k1 k2 k3
/-- 'l[k:]' and 'l[:k:k]', of elements of several cells -/
theorem run_cut_from_sz {P : Program} (w : World) (t e : TypeId) (sz : Nat) (hu : P.underlying t = some (.slice e)) (hsz : (P.info? e).map (·.size) = some sz) (p : Option Addr) (n c k : Nat) (hk : k ≤ n) :
    (Instr.slice t (.slice p n c) (some (.int .i64 (k : Int))) none none).run P w = .ok (.slice (if c = k then p else p.map (·.add (k * sz))) (n - k) (c - k)) w := by
  obtain ⟨i, hi, hs⟩ := Option.map_eq_some_iff.1 hsz
  simp [Instr.slice, run_underlying hu, Instr.sliceBounds, run_sliceBound, sizeOf, typeInfo, hi, hs, (by omega : (k : Int) ≤ (n : Int))]
theorem run_cut_tight {P : Program} (w : World) (t e : TypeId) (sz : Nat) (hu : P.underlying t = some (.slice e)) (hsz : (P.info? e).map (·.size) = some sz) (p : Option Addr) (n c k : Nat) (hk : k ≤ c) :
    (Instr.slice t (.slice p n c) none (some (.int .i64 (k : Int))) (some (.int .i64 (k : Int)))).run P w = .ok (.slice p k k) w := by
  obtain ⟨i, hi, hs⟩ := Option.map_eq_some_iff.1 hsz
  simp [Instr.slice, run_underlying hu, Instr.sliceBounds, run_sliceBound, sizeOf, typeInfo, hi, (by omega : (k : Int) ≤ (c : Int))]
  intro _
  cases p with
  | none => rfl
  | some a =>
    obtain ⟨b, o, s⟩ := a
    cases s <;> simp [Addr.add]
end Go.Proofs.Ytbheegphhllogaa

/-
  OWN WORK. 'append' of elements of several cells, as in Rows3, that says besides: on a new block the old one stays as it was.
-/
namespace Go.Proofs.Ytbheegphhllogaa
open Go.RowKit
/-- 'append(l, x...)' -/
theorem run_append_row2 {P : Program} (w : World) (base : Nat) (t ty e : TypeId) (i : TypeInfo) (z : Value) (sz bytes : Nat) (ht : P.underlying t = some (.slice e)) (hi : P.info? e = some i) (hz : i.zero = some z) (hsize : i.size = sz) (hby : i.bytes = bytes) (hzs : z.cells.size = sz)
    (v : Value) (n : Nat) (cs : List Value) (h : Row w base sz v n cs) (x : Value) (m : Nat) (news : List Value) (hs : Src P sz t x m news w) (h63 : n + m ≤ 9223372036854775807) (hmx : n + m ≤ maxLen) (hbytes : (n + m) * bytes ≤ 140737488355328) (hbase : base ≤ w.heap.size) :
    ∃ v' w', (Builtin.append_ #[t, t] ty #[v, x]).run P w = .ok v' w' ∧ Row w' base sz v' (n + m) (cs ++ news) ∧ Kept v.ownBlock.toList w w' ∧ (v'.ownBlock = v.ownBlock ∨ (v'.ownBlock = some w.heap.size ∧ Kept [] w w')) := by
  subst hsize
  subst hby
  have hnl := hs.newsLen
  have hall : ∀ u ∈ cs ++ news, u.oneCell' = true := by
    intro u hu
    rcases List.mem_append.1 hu with hu | hu
    · exact h.2.1 u hu
    · exact hs.one u hu
  have hlen : (cs ++ news).length = (n + m) * i.size := by rw [List.length_append, h.1, hnl, Nat.add_mul]
  obtain ⟨p, c, rfl, h3, h4⟩ := h.shape
  by_cases hfit : n + m ≤ c
  · cases p with
    | none =>
      obtain ⟨h1, h2, p', c', e', -, -, h5⟩ := id h
      cases e'
      rcases h5 with ⟨-, rfl⟩ | ⟨g, e, -⟩
      · obtain rfl : n = 0 := by omega
        obtain rfl : m = 0 := by omega
        obtain rfl : news = [] := List.eq_nil_of_length_eq_zero (by simpa using hnl)
        exact ⟨_, _, run_append_nothing (P := P) w t t ty e i ht hi none 0 0 (Nat.le_refl _) x hs, by simpa using h, Kept.refl _ _, .inl rfl⟩
      · cases e
    | some a =>
      obtain ⟨h1, h2, p', c', e', -, -, h5⟩ := id h
      cases e'
      rcases h5 with ⟨e, -⟩ | ⟨g, e, h6, h7, h8, h9⟩
      · cases e
      · cases e
        have hm : n * i.size + m * i.size ≤ c * i.size := by rw [← Nat.add_mul]; exact Nat.mul_le_mul_right _ hfit
        have hthere : ∀ j, j < news.length → (w.cell? ⟨g, 0 + n * i.size + j, none⟩).isSome = true := fun j hj => (h9 _ (by omega)).1
        have hrun := run_append_room_src (P := P) w t t ty e i ht hi g 0 n c x m news hs hfit hthere (fun j hj => (h9 _ (by omega)).2)
        have hk := kept_setCells g news (0 + n * i.size) w
        refine ⟨_, _, hrun, ⟨hlen, hall, _, _, rfl, hfit, h4, .inr ⟨g, rfl, h6, Nat.lt_of_lt_of_le h7 hk.size, fun j u hj => ?_, fun j hj => ⟨?_, by rw [World.frozen?_setCells]; exact (h9 j hj).2⟩⟩⟩, by simpa [Value.ownBlock] using hk, .inl rfl⟩
        · by_cases hjc : j < cs.length
          · rw [List.getElem?_append_left hjc] at hj
            rw [World.cell?_setCells_out g news _ w _ (fun _ _ => .inl (by simp; omega))]
            exact h8 j u hj
          · rw [List.getElem?_append_right (by omega)] at hj
            obtain ⟨hlt, rfl⟩ := List.getElem?_eq_some_iff.1 hj
            have := World.cell?_setCells_in g news (0 + n * i.size) w hthere (j - cs.length) hlt
            rw [show 0 + n * i.size + (j - cs.length) = j by omega] at this
            exact this
        · by_cases hjin : 0 + n * i.size ≤ j ∧ j < 0 + n * i.size + news.length
          · have := World.cell?_setCells_in g news (0 + n * i.size) w hthere (j - (0 + n * i.size)) (by omega)
            rw [show 0 + n * i.size + (j - (0 + n * i.size)) = j by omega] at this
            rw [this]; rfl
          · rw [World.cell?_setCells_out g news _ w _ (fun _ _ => by simp; omega)]
            exact (h9 j hj).1
  · have hold : (Builtin.firstCells i.size n (.slice p n c)).run P w.drew = .ok cs.toArray w.drew := by
      obtain ⟨h1, h2, p', c', e', -, -, h5⟩ := id h
      cases e'
      rcases h5 with ⟨rfl, rfl⟩ | ⟨g, rfl, h6, h7, h8, h9⟩
      · obtain rfl : n = 0 := by omega
        obtain rfl : cs = [] := List.eq_nil_of_length_eq_zero (by simpa using h1)
        exact run_firstCells_none w.drew i.size 0 0 0
      · exact run_firstCells_some w.drew i.size n ⟨g, 0, none⟩ n c cs h1 (fun j u hj => by rw [add_none rfl]; simpa using h8 j u hj)
    have hg : c < n + m := by omega
    have hrun := run_append_grow_src (P := P) w t t ty e i z ht hi hz p n c cs hold x m news hs hg (by omega) (growslice_fits hg hbytes)
    have hge := grownCap_ge w (n + m) c e
    have hcm := grownCap_le_maxLen w (n + m) c e hmx
    have hsz : ((cs ++ news).toArray ++ Builtin.zeroCells z.cells (grownCap w (n + m) c e - (n + m))).size = grownCap w (n + m) c e * i.size := by
      rw [Array.size_append, List.size_toArray, hlen, size_zeroCells, hzs, ← Nat.add_mul]
      congr 1
      omega
    have hk : Kept [] w (w.drew.alloc (.cells ((cs ++ news).toArray ++ Builtin.zeroCells z.cells (grownCap w (n + m) c e - (n + m))) e)) := ((Kept.refl [] w).drew).alloc _
    refine ⟨_, _, hrun, ⟨hlen, hall, _, _, rfl, hge, hcm, .inr ⟨w.heap.size, rfl, hbase, by simp, fun j u hj => ?_, fun j hj => ⟨?_, World.frozen?_alloc_new w.drew _ _ j⟩⟩⟩, hk.mono (by simp), .inr ⟨rfl, hk⟩⟩
    · have e1 : (w.drew.alloc (.cells ((cs ++ news).toArray ++ Builtin.zeroCells z.cells (grownCap w (n + m) c e - (n + m))) e)).cell? ⟨w.heap.size, j, none⟩ = _ := World.cell?_alloc_new w.drew _ _ j
      have hjl := (List.getElem?_eq_some_iff.1 hj).1
      rw [e1, Array.getElem?_append_left (by simpa using hjl), List.getElem?_toArray, hj]
    · have e1 : (w.drew.alloc (.cells ((cs ++ news).toArray ++ Builtin.zeroCells z.cells (grownCap w (n + m) c e - (n + m))) e)).cell? ⟨w.heap.size, j, none⟩ = _ := World.cell?_alloc_new w.drew _ _ j
      rw [e1, Array.getElem?_eq_getElem (by rw [hsz]; exact hj)]
      rfl
theorem wpList_append_row2 {P : Program} {w : World} {ops : Array Oper} {rest : List Oper} {o : Oper} {a : Act} {Q : Exit → Act → World → Prop} (hgd : o.guard = none) (s x : Operand) (t : TypeId)
    (ho : o.op = .call { callee := .builtin .append, args := #[s, x], argTypes := #[t, t] }) (base : Nat) (e : TypeId) (i : TypeInfo) (z : Value) (sz bytes : Nat) (ht : P.underlying t = some (.slice e)) (hi : P.info? e = some i) (hz : i.zero = some z) (hsize : i.size = sz) (hby : i.bytes = bytes) (hzs : z.cells.size = sz)
    (v : Value) (n : Nat) (cs : List Value) (hv : a.eval s = v) (h : Row w base sz v n cs) (xv : Value) (m : Nat) (news : List Value) (hx : a.eval x = xv) (hs : Src P sz t xv m news w) (h63 : n + m ≤ 9223372036854775807) (hmx : n + m ≤ maxLen) (hbytes : (n + m) * bytes ≤ 140737488355328) (hbase : base ≤ w.heap.size)
    (hgo : ∀ v' w', Row w' base sz v' (n + m) (cs ++ news) → Kept v.ownBlock.toList w w' → (v'.ownBlock = v.ownBlock ∨ (v'.ownBlock = some w.heap.size ∧ Kept [] w w')) → wpList P ops Q rest (a.put o.dst v') w') : wpList P ops Q (o :: rest) a w := by
  refine wpList_plain hgd fun K hK => ?_
  obtain ⟨v', w', hr, k1, k2, k3⟩ := run_append_row2 (P := P) w base t o.type e i z sz bytes ht hi hz hsize hby hzs v n cs h xv m news hs h63 hmx hbytes hbase
  unfold Oper.wp execOp
  simp only [ho, resolve, invoke, builtin, Sem.run_bind, Sem.run_pure, Result.andThen_ok, List.map_toArray, List.map_cons, List.map_nil, hv, hx, hr]
  exact hK _ _ (hgo v' w' k1 k2 k3)
theorem step_append_row2 {P : Program} {w : World} {ops : Array Oper} {o : Oper} {a : Act} {K : Act → World → Prop} {Q : Exit → Act → World → Prop} {E : Prop} (hgd : o.guard = none) (s x : Operand) (t : TypeId)
    (ho : o.op = .call { callee := .builtin .append, args := #[s, x], argTypes := #[t, t] }) (base : Nat) (e : TypeId) (i : TypeInfo) (z : Value) (sz bytes : Nat) (ht : P.underlying t = some (.slice e)) (hi : P.info? e = some i) (hz : i.zero = some z) (hsize : i.size = sz) (hby : i.bytes = bytes) (hzs : z.cells.size = sz)
    (v : Value) (n : Nat) (cs : List Value) (hv : a.eval s = v) (h : Row w base sz v n cs) (xv : Value) (m : Nat) (news : List Value) (hx : a.eval x = xv) (hs : Src P sz t xv m news w) (h63 : n + m ≤ 9223372036854775807) (hmx : n + m ≤ maxLen) (hbytes : (n + m) * bytes ≤ 140737488355328) (hbase : base ≤ w.heap.size)
    (hgo : ∀ v' w', Row w' base sz v' (n + m) (cs ++ news) → Kept v.ownBlock.toList w w' → (v'.ownBlock = v.ownBlock ∨ (v'.ownBlock = some w.heap.size ∧ Kept [] w w')) → K (a.put o.dst v') w') :
    if Region.wanted o (yielded ops a.tmps) = true then Oper.wp P o a w K Q else E := by
  have hw : Region.wanted o (yielded ops a.tmps) = true := by simp [Region.wanted, hgd]
  rw [if_pos hw]
  obtain ⟨v', w', hr, k1, k2, k3⟩ := run_append_row2 (P := P) w base t o.type e i z sz bytes ht hi hz hsize hby hzs v n cs h xv m news hs h63 hmx hbytes hbase
  unfold Oper.wp execOp
  simp only [ho, resolve, invoke, builtin, Sem.run_bind, Sem.run_pure, Result.andThen_ok, List.map_toArray, List.map_cons, List.map_nil, hv, hx, hr]
  exact hgo v' w' k1 k2 k3
end Go.Proofs.Ytbheegphhllogaa

/-
  OWN WORK. A region that draws its order and ends with a store into a cell that it read: the reads may be taken first, and the store need keep nothing.
-/
namespace Go.Proofs.Ytbheegphhllogaa
open Go.RowKit
set_option linter.unusedVariables false

section
variable {P : Program} {ops : Array Oper} {Q : Exit → Act → World → Prop} {md : Region.Mode} {S : World → Prop} {z : Nat}

/-- whatever order is picked: S holds behind every operation but number z -/
def wpAnyZ (P : Program) (md : Region.Mode) (ops : Array Oper) (Q : Exit → Act → World → Prop) (S : World → Prop) (z : Nat) : Nat → Array Bool → Act → World → Prop
  | 0, listed, a, w => Region.ready md ops listed = [] ∧ Q .normal a w
  | n + 1, listed, a, w =>
    (Region.ready md ops listed = [] → Q .normal a w) ∧
      ∀ i ∈ Region.ready md ops listed, wpOp P ops Q i (fun a' w' => (i ≠ z → S w') ∧ wpAnyZ P md ops Q S z n (listed.setIfInBounds i true) a' w') a w
theorem wpAnyZ_any : ∀ (n : Nat) (listed : Array Bool) (a : Act) (w : World), wpAnyZ P md ops Q S z n listed a w → wpAny P md ops Q n listed a w
  | 0, _, _, _, h => h
  | n + 1, _, _, _, h => ⟨h.1, fun i hi => wpOp_mono (fun a' w' h' => wpAnyZ_any n _ a' w' h'.2) (h.2 i hi)⟩
/-- number z waits for number i -/
def waits (md : Region.Mode) (ops : Array Oper) (z i : Nat) : Bool := match ops[z]? with
  | some o => o.after.any fun e => Region.binds md e && e.on == i
  | none => true
theorem waits_ready {i : Nat} {listed : Array Bool} (h : waits md ops z i = true) (hi : listed.getD i false = false) : z ∉ Region.ready md ops listed := fun hm => by
  obtain ⟨-, o, ho, hall⟩ := mem_ready.1 hm
  unfold waits at h
  rw [ho] at h
  obtain ⟨k, hk, he⟩ := Array.any_eq_true.1 h
  simp at he
  have := hall (o.after[k]) (Array.getElem_mem hk) he.1
  rw [he.2, hi] at this
  cases this
theorem wpAnyZ_first {i : Nat} {oi : Oper} {v : Value} (hi : ops[i]? = some oi) (hsel : ∀ (j : Nat) (o : Oper) cs b, ops[j]? = some o → o.op ≠ .select cs b)
    (hQ : ∀ c a w, Q (.panic c) (a.put oi.dst v) w → Q (.panic c) a w) (hz : waits md ops z i = true) :
    ∀ (n : Nat) (listed : Array Bool) (a : Act) (w : World),
      (∀ j oj, ops[j]? = some oj → j ≠ i → listed.getD j true = false → (∀ e ∈ oj.after, Region.binds md e = true → e.on ≠ i) → oi.apart ops oj = true) →
      i ∈ Region.ready md ops listed → YieldsIf P ops S oi v a → S w →
      wpAnyZ P md ops Q S z n (listed.setIfInBounds i true) (a.put oi.dst v) w → wpAnyZ P md ops Q S z (n + 1) listed a w := by
  intro n
  induction n with
  | zero =>
    intro listed a w _ hr hy hS H
    refine ⟨fun h => (by rw [h] at hr; cases hr), fun j hj => ?_⟩
    by_cases e : j = i
    · subst e; exact hy.wpOp hi hS ⟨fun _ => hS, H⟩
    · have := ready_mono hj e
      rw [H.1] at this
      cases this
  | succ n ih =>
    intro listed a w hfree hr hy hS H
    have hun := (mem_ready.1 hr).1
    have hunf : listed.getD i false = false := by
      rcases Nat.lt_or_ge i listed.size with c | c
      · simp [c] at hun ⊢; exact hun
      · simp [c]
    refine ⟨fun h => (by rw [h] at hr; cases hr), fun j hj => ?_⟩
    by_cases e : j = i
    · subst e; exact hy.wpOp hi hS ⟨fun _ => hS, H⟩
    · have hjz : j ≠ z := fun c => waits_ready hz hunf (c ▸ hj)
      obtain ⟨hju, oj, hoj, hall⟩ := mem_ready.1 hj
      have hno : ∀ e ∈ oj.after, Region.binds md e = true → e.on ≠ i := fun e he hb c => by
        have := hall e he hb
        rw [c, hunf] at this
        cases this
      have h2 := wpOp_putIf hoj (hfree j oj hoj e hju hno) (fun cs b => hsel i oi cs b hi) (fun cs b => hsel j oj cs b hoj) hQ hy (H.2 j (ready_mono hj e))
      have hfree2 : ∀ k ok, ops[k]? = some ok → k ≠ i → (listed.setIfInBounds j true).getD k true = false → (∀ e ∈ ok.after, Region.binds md e = true → e.on ≠ i) → oi.apart ops ok = true := fun k ok hk hki hkj hnk => by
        by_cases c : j = k
        · subst c; exact hfree j ok hk hki hju hnk
        · exact hfree k ok hk hki (by rwa [getD_set_ne true c] at hkj) hnk
      refine wpOp_mono (fun a' w' h3 => ⟨h3.2.1, ih (listed.setIfInBounds j true) a' w' hfree2 (ready_mono hr (Ne.symm e)) h3.1 (h3.2.1 hjz) ?_⟩) h2
      rw [Array.setIfInBounds_comm _ _ e]
      exact h3.2.2
/-- take number i first -/
theorem wpAnyZ_take (i : Nat) {oi : Oper} {v : Value} {n : Nat} {listed : Array Bool} {a : Act} {w : World} (hi : ops[i]? = some oi)
    (hs : Region.noSelect ops = true) (hz : waits md ops z i = true) (hf : Region.free md ops listed i = true) (hr : (Region.ready md ops listed).contains i = true)
    (hQ : ∀ c a w, Q (.panic c) (a.put oi.dst v) w → Q (.panic c) a w) (hw : Region.wanted oi (yielded ops a.tmps) = true) (hy : ∀ w, S w → (execOp a.eval oi).run P w = .ok (.value v) w) (hS : S w)
    (h : wpAnyZ P md ops Q S z n (listed.setIfInBounds i true) (a.put oi.dst v) w) : wpAnyZ P md ops Q S z (n + 1) listed a w :=
  wpAnyZ_first hi (Region.noSelect_spec hs) hQ hz n listed a w (Region.free_spec hi hf) (by simpa using hr) (.inl ⟨hw, hy⟩) hS h
/-- only number i may come up -/
theorem wpAnyZ_one (i : Nat) {oi : Oper} {n : Nat} {listed : Array Bool} {a : Act} {w : World} (hi : ops[i]? = some oi) (hr : Region.ready md ops listed = [i])
    (h : ∀ K : Act → World → Prop, (∀ a' w', (i ≠ z → S w') → wpAnyZ P md ops Q S z n (listed.setIfInBounds i true) a' w' → K a' w') → if Region.wanted oi (yielded ops a.tmps) = true then Oper.wp P oi a w K Q else K (a.put oi.dst undef) w) : wpAnyZ P md ops Q S z (n + 1) listed a w := by
  refine ⟨fun c => absurd (hr.symm.trans c) (by simp), fun j hj => ?_⟩
  rw [hr] at hj
  simp at hj
  subst hj
  exact wpOp_step hi fun K hK => h K fun a' w' h1 h2 => hK a' w' ⟨h1, h2⟩
theorem wpAnyZ_done {listed : Array Bool} {a : Act} {w : World} (hr : Region.ready md ops listed = []) (h : Q .normal a w) : ∀ n, wpAnyZ P md ops Q S z n listed a w
  | 0 => ⟨hr, h⟩
  | _ + 1 => ⟨fun _ => h, by rw [hr]; simp⟩
theorem wp_region_late (S : World → Prop) (z : Nat) {id : Nat} {a : Act} {w : World} (hm : P.follows .mixedOrders = true)
    (h : wpAnyZ P .any ops Q S z ops.size (Array.replicate ops.size false) a w.drew) : (Code.region id ops true).wp P Q a w :=
  wp_region_any hm (wpAnyZ_any _ _ _ _ h)
end
end Go.Proofs.Ytbheegphhllogaa

/-
  OWN WORK. The table (layer 16): how rows lie in memory.
-/
namespace Go.Proofs.Ytbheegphhllogaa
open Go.RowKit
set_option linter.unusedVariables false

theorem hideH {p : Prop} (h : p) : Hid p := h
def I64 (x : Int) : Prop := -9223372036854775808 ≤ x ∧ x < 9223372036854775808
theorem wrap_i64_of {x : Int} (h1 : -9223372036854775808 ≤ x) (h2 : x < 9223372036854775808) : IntKind.i64.wrap x = x := by rw [IntKind.wrap_i64]; omega
/-- block g holds just these cells -/
def Blk (w : World) (g : Nat) (t : TypeId) (cs : List Value) : Prop := w.heap[g]? = some (.cells cs.toArray t (0, 0))
theorem Blk.new (w : World) (t : TypeId) (cs : List Value) : Blk (w.alloc (.cells cs.toArray t)) w.heap.size t cs := heap_alloc_new w _
theorem Blk.lt {w : World} {g : Nat} {t : TypeId} {cs : List Value} (h : Blk w g t cs) : g < w.heap.size := (Array.getElem?_eq_some_iff.1 h).1
theorem Blk.cell {w : World} {g : Nat} {t : TypeId} {cs : List Value} (h : Blk w g t cs) {j : Nat} {v : Value} (hj : cs[j]? = some v) : w.cell? ⟨g, j, none⟩ = some v := by
  have h' : w.heap[g]? = some (.cells cs.toArray t (0, 0)) := h
  simp [World.cell?, h', hj]
theorem Blk.free {w : World} {g : Nat} {t : TypeId} {cs : List Value} (h : Blk w g t cs) (j : Nat) : w.frozen? ⟨g, j, none⟩ = false := by
  have h' : w.heap[g]? = some (.cells cs.toArray t (0, 0)) := h
  simp [World.frozen?, h']
theorem Blk.kept {w w' : World} {g : Nat} {t : TypeId} {cs : List Value} {S : List Nat} (h : Blk w g t cs) (k : Kept S w w') (hS : g ∉ S) : Blk w' g t cs := (k.block g h.lt hS).trans h
theorem Blk.set {w : World} {g : Nat} {t : TypeId} {cs : List Value} (h : Blk w g t cs) (j : Nat) (v : Value) : Blk (w.setCell ⟨g, j, none⟩ v) g t (cs.set j v) ∧ Kept [g] w (w.setCell ⟨g, j, none⟩ v) := by
  have h' : w.heap[g]? = some (.cells cs.toArray t (0, 0)) := h
  refine ⟨?_, (Kept.refl [g] w).setCell (.inl (by simp)) v⟩
  simp [Blk, World.setCell, Array.getElem?_modify, h', List.setIfInBounds_toArray]
def RowR.cs (x : RowR) : List Value := [.int .i64 x.birth, .int .i64 x.id, .int .i64 x.state, .int .i64 x.last, .int .i64 x.next]
def RowR.v (x : RowR) : Value := .agg #[.int .i64 x.birth, .int .i64 x.id, .int .i64 x.state, .int .i64 x.last, .int .i64 x.next]
def RowR.i64 (x : RowR) : Prop := I64 x.birth ∧ I64 x.id ∧ I64 x.state ∧ I64 x.last ∧ I64 x.next
def rcells : List RowR → List Value
  | [] => []
  | x :: r => .int .i64 x.birth :: .int .i64 x.id :: .int .i64 x.state :: .int .i64 x.last :: .int .i64 x.next :: rcells r
theorem rcells_length : ∀ (l : List RowR), (rcells l).length = l.length * 5
  | [] => rfl
  | x :: r => by simp [rcells, rcells_length r]; omega
theorem rcells_at : ∀ {l : List RowR} {i : Nat} {x : RowR}, l[i]? = some x → (rcells l)[i * 5]? = some (.int .i64 x.birth) ∧ (rcells l)[i * 5 + 1]? = some (.int .i64 x.id) ∧ (rcells l)[i * 5 + 2]? = some (.int .i64 x.state) ∧ (rcells l)[i * 5 + 3]? = some (.int .i64 x.last) ∧ (rcells l)[i * 5 + 4]? = some (.int .i64 x.next)
  | [], i, x, h => by simp at h
  | y :: r, 0, x, h => by
    simp at h
    subst h
    exact ⟨rfl, rfl, rfl, rfl, rfl⟩
  | y :: r, i + 1, x, h => by
    have := rcells_at (l := r) (i := i) (x := x) (by simpa using h)
    rw [show (i + 1) * 5 = i * 5 + 5 by omega]
    exact this
theorem rcells_append (a b : List RowR) : rcells (a ++ b) = rcells a ++ rcells b := by
  induction a with
  | nil => rfl
  | cons x r ih => simp [rcells, ih]
theorem rcells_one (l : List RowR) : ∀ u ∈ rcells l, u.oneCell' = true := by
  induction l with
  | nil => simp [rcells]
  | cons x r ih =>
    intro u hu
    simp only [rcells, List.mem_cons] at hu
    rcases hu with rfl | rfl | rfl | rfl | rfl | hu
    · rfl
    · rfl
    · rfl
    · rfl
    · rfl
    · exact ih u hu
theorem rcells_set : ∀ (l : List RowR) (k : Nat) (x : RowR), rcells (l.set k x) = (((((rcells l).set (k * 5) (.int .i64 x.birth)).set (k * 5 + 1) (.int .i64 x.id)).set (k * 5 + 2) (.int .i64 x.state)).set (k * 5 + 3) (.int .i64 x.last)).set (k * 5 + 4) (.int .i64 x.next)
  | [], k, x => by simp [rcells]
  | y :: r, 0, x => by simp [rcells]
  | y :: r, k + 1, x => by
    have q := rcells_set r k x
    rw [show (k + 1) * 5 = k * 5 + 5 by omega]
    simp only [List.set_cons_succ, rcells, q]
theorem rcells_take : ∀ (l : List RowR) (k : Nat), (rcells l).take (k * 5) = rcells (l.take k)
  | [], k => by simp [rcells]
  | y :: r, 0 => by simp [rcells]
  | y :: r, k + 1 => by
    have q := rcells_take r k
    rw [show (k + 1) * 5 = k * 5 + 5 by omega]
    simp only [rcells, List.take_succ_cons, q]
theorem rcells_drop : ∀ (l : List RowR) (k : Nat), (rcells l).drop (k * 5) = rcells (l.drop k)
  | [], k => by simp [rcells]
  | y :: r, 0 => by simp [rcells]
  | y :: r, k + 1 => by
    have q := rcells_drop r k
    rw [show (k + 1) * 5 = k * 5 + 5 by omega]
    simp only [rcells, List.drop_succ_cons, q]
/-- a list of rows of one's own -/
def Rw (w : World) (base : Nat) (v : Value) (l : List RowR) : Prop := Row w base 5 v l.length (rcells l)
theorem Rw.kept {w w' : World} {base : Nat} {v : Value} {l : List RowR} {S : List Nat} (h : Rw w base v l) (k : Kept S w w') (hS : ∀ x, v.ownBlock = some x → x ∉ S) : Rw w' base v l := Row.kept h k hS
theorem Rw.mono {w : World} {b b' : Nat} {v : Value} {l : List RowR} (h : Rw w b v l) (hb : b' ≤ b) : Rw w b' v l := Row.mono h hb
theorem Rw.nil (w : World) (base : Nat) : Rw w base (.slice none 0 0) [] := Row.nil w base 5
theorem Rw.lt {w : World} {base : Nat} {v : Value} {l : List RowR} (h : Rw w base v l) {x : Nat} (hx : v.ownBlock = some x) : base ≤ x ∧ x < w.heap.size := Row.lt h x hx
theorem Rw.shape {w : World} {base : Nat} {v : Value} {l : List RowR} (h : Rw w base v l) : ∃ p c, v = .slice p l.length c := by
  obtain ⟨p, c, e, -⟩ := Row.shape h
  exact ⟨p, c, e⟩
theorem Rw.len {w : World} {base : Nat} {v : Value} {l : List RowR} (h : Rw w base v l) : l.length ≤ maxLen := by
  obtain ⟨p, c, e, h3, h4⟩ := Row.shape h
  omega
theorem Rw.at {w : World} {base : Nat} {p : Option Addr} {n c : Nat} {l : List RowR} (h : Rw w base (.slice p n c) l) {j : Nat} {x : RowR} (hj : l[j]? = some x) :
    ∃ g, p = some ⟨g, 0, none⟩ ∧ base ≤ g ∧ g < w.heap.size ∧ (w.cell? ⟨g, j * 5, none⟩ = some (.int .i64 x.birth) ∧ w.cell? ⟨g, j * 5 + 1, none⟩ = some (.int .i64 x.id) ∧ w.cell? ⟨g, j * 5 + 2, none⟩ = some (.int .i64 x.state) ∧ w.cell? ⟨g, j * 5 + 3, none⟩ = some (.int .i64 x.last) ∧ w.cell? ⟨g, j * 5 + 4, none⟩ = some (.int .i64 x.next)) ∧
      w.frozen? ⟨g, j * 5, none⟩ = false ∧ w.frozen? ⟨g, j * 5 + 1, none⟩ = false ∧ w.frozen? ⟨g, j * 5 + 2, none⟩ = false ∧ w.frozen? ⟨g, j * 5 + 3, none⟩ = false ∧ w.frozen? ⟨g, j * 5 + 4, none⟩ = false := by
  have h' : Row w base 5 (.slice p n c) l.length (rcells l) := h
  have hjl := (List.getElem?_eq_some_iff.1 hj).1
  obtain ⟨p', c', e, h3, h4⟩ := Row.shape h'
  cases e
  obtain ⟨g, rfl, h6, h7, h8, h9⟩ := Row.pos h' (by omega)
  obtain ⟨a0, a1, a2, a3, a4⟩ := rcells_at hj
  exact ⟨g, rfl, h6, h7, ⟨h8 _ _ a0, h8 _ _ a1, h8 _ _ a2, h8 _ _ a3, h8 _ _ a4⟩, (h9 _ (by omega)).2, (h9 _ (by omega)).2, (h9 _ (by omega)).2, (h9 _ (by omega)).2, (h9 _ (by omega)).2⟩
def setRow (w : World) (g o : Nat) (x : RowR) : World := ((((w.setCell ⟨g, o, none⟩ (.int .i64 x.birth)).setCell ⟨g, o + 1, none⟩ (.int .i64 x.id)).setCell ⟨g, o + 2, none⟩ (.int .i64 x.state)).setCell ⟨g, o + 3, none⟩ (.int .i64 x.last)).setCell ⟨g, o + 4, none⟩ (.int .i64 x.next)
theorem Rw.set {w : World} {base g c : Nat} {l : List RowR} {n : Nat} (h : Rw w base (.slice (some ⟨g, 0, none⟩) n c) l) {k : Nat} (hk : k < l.length) (x : RowR) : Rw (setRow w g (k * 5) x) base (.slice (some ⟨g, 0, none⟩) n c) (l.set k x) ∧ Kept [g] w (setRow w g (k * 5) x) := by
  have hr : Row w base 5 (.slice (some ⟨g, 0, none⟩) n c) l.length (rcells l) := h
  obtain ⟨p', c', e, -, -⟩ := Row.shape hr
  cases e
  obtain ⟨r0, k0⟩ := hr.set (k * 5) (by omega) (.int .i64 x.birth) rfl
  obtain ⟨r1, k1⟩ := r0.set (k * 5 + 1) (by omega) (.int .i64 x.id) rfl
  obtain ⟨r2, k2⟩ := r1.set (k * 5 + 2) (by omega) (.int .i64 x.state) rfl
  obtain ⟨r3, k3⟩ := r2.set (k * 5 + 3) (by omega) (.int .i64 x.last) rfl
  obtain ⟨r4, k4⟩ := r3.set (k * 5 + 4) (by omega) (.int .i64 x.next) rfl
  have tr : ∀ {a b d : World}, Kept [g] a b → Kept [g] b d → Kept [g] a d := fun p q => p.trans q (fun x hx => .inl hx)
  refine ⟨?_, tr (tr (tr (tr k0 k1) k2) k3) k4⟩
  unfold Rw
  rw [List.length_set, rcells_set]
  exact r4
def setBox (w : World) (g : Nat) (x : RowR) : World := ((((w.setCell ⟨g, 0, none⟩ (.int .i64 x.birth)).setCell ⟨g, 1, none⟩ (.int .i64 x.id)).setCell ⟨g, 2, none⟩ (.int .i64 x.state)).setCell ⟨g, 3, none⟩ (.int .i64 x.last)).setCell ⟨g, 4, none⟩ (.int .i64 x.next)
/-- a box of one row is set -/
theorem Blk.setRow {w : World} {g : Nat} {t : TypeId} {x : RowR} (h : Blk w g t x.cs) (y : RowR) : Blk (setBox w g y) g t y.cs ∧ Kept [g] w (setBox w g y) := by
  obtain ⟨r0, k0⟩ := h.set 0 (.int .i64 y.birth)
  obtain ⟨r1, k1⟩ := r0.set 1 (.int .i64 y.id)
  obtain ⟨r2, k2⟩ := r1.set 2 (.int .i64 y.state)
  obtain ⟨r3, k3⟩ := r2.set 3 (.int .i64 y.last)
  obtain ⟨r4, k4⟩ := r3.set 4 (.int .i64 y.next)
  have tr : ∀ {a b d : World}, Kept [g] a b → Kept [g] b d → Kept [g] a d := fun p q => p.trans q (fun x hx => .inl hx)
  exact ⟨r4, tr (tr (tr (tr k0 k1) k2) k3) k4⟩
theorem RowR.cs_one (x : RowR) : ∀ u ∈ x.cs, u.oneCell' = true := by
  intro u hu
  simp only [RowR.cs, List.mem_cons, List.not_mem_nil, or_false] at hu
  rcases hu with rfl | rfl | rfl | rfl | rfl <;> rfl
theorem src_row {P : Program} (w : World) (t e : TypeId) (ht : P.underlying t = some (.slice e)) (x : RowR) : Src P 5 t (.slice (some ⟨w.heap.size, 0, none⟩) 1 1) 1 x.cs (w.alloc (.cells x.cs.toArray e)) := by
  refine Src.ofSlice _ ht _ _ _ _ rfl (fun j u hj => ?_) x.cs_one
  rw [add_none rfl]
  have q := (Blk.new w e x.cs).cell hj
  simpa using q
theorem rcells_snoc (l : List RowR) (x : RowR) : rcells (l ++ [x]) = rcells l ++ x.cs := by rw [rcells_append]; rfl
theorem eqFields_ints {P : Program} {e : TypeId} (d : Nat) (he : P.plainKey e = true) (hu : P.underlying e = some (.int .i64)) (xs ys : Array Value) (A B : Nat → Int) (w : World) : ∀ fs : List Field, (∀ f ∈ fs, (f.name != "_") = true ∧ f.type = e ∧ xs[f.offset]? = some (.int .i64 (A f.offset)) ∧ ys[f.offset]? = some (.int .i64 (B f.offset))) → (Op.eqFields (d + 1) xs ys fs).run P w = .ok (fs.all fun f => A f.offset == B f.offset) w
  | [], _ => by simp [Op.eqFields]
  | f :: fs, h => by
    obtain ⟨h1, h2, h3, h4⟩ := h f (by simp)
    have ih := eqFields_ints d he hu xs ys A B w fs (fun g hg => h g (by simp [hg]))
    subst h2
    have q1 := run_part_plain (P := P) w he h3
    have q2 := run_part_plain (P := P) w he h4
    have h1' : f.name ≠ "_" := by simpa using h1
    rw [Op.eqFields, if_pos h1']
    simp only [Sem.run_bind, q1, q2, Result.andThen_ok, run_equalIn_int w d f.type .i64 .i64 _ _ hu, List.all_cons]
    by_cases c : A f.offset = B f.offset
    · simp [c, ih]
    · simp [c]
theorem map_mem3 {α β : Type} {f : α → β} {l : List α} {m : List β} (h : l.map f = m) {x : α} (hx : x ∈ l) : f x ∈ m := by rw [← h]; exact List.mem_map_of_mem hx
/-- two rows held against one another -/
theorem eqRow (a b : RowR) (w : World) : (Op.equalIn 10000 24 (.agg #[.int .i64 a.birth, .int .i64 a.id, .int .i64 a.state, .int .i64 a.last, .int .i64 a.next]) (.agg #[.int .i64 b.birth, .int .i64 b.id, .int .i64 b.state, .int .i64 b.last, .int .i64 b.next])).run Try.prog w = .ok (decide (a = b)) w := by
  have hf : (Try.prog.fieldsOf 24).toList.map (fun f => (f.name != "_", f.type, f.offset)) = [(true, 3, 0), (true, 3, 1), (true, 3, 2), (true, 3, 3), (true, 3, 4)] := by kernel_rfl
  have ho : (Try.prog.fieldsOf 24).toList.map (fun f => f.offset) = [0, 1, 2, 3, 4] := by kernel_rfl
  rw [show (10000 : Nat) = 9998 + 1 + 1 from rfl, run_equalIn_struct (P := Try.prog) w (9998 + 1) _ _ _ (by kernel_rfl) (by kernel_rfl)]
  rw [eqFields_ints (P := Try.prog) (e := 3) 9998 (by kernel_rfl) Try.underlying3 _ _ (fun k => [a.birth, a.id, a.state, a.last, a.next].getD k 0) (fun k => [b.birth, b.id, b.state, b.last, b.next].getD k 0)]
  · have e : ∀ (fs : List Field) (g : Nat → Bool), fs.all (fun f => g f.offset) = (fs.map (fun f => f.offset)).all g := fun fs g => by simp [List.all_map, Function.comp_def]
    rw [e _ (fun k => [a.birth, a.id, a.state, a.last, a.next].getD k 0 == [b.birth, b.id, b.state, b.last, b.next].getD k 0), ho]
    congr 1
    have e2 : a = b ↔ a.birth = b.birth ∧ a.id = b.id ∧ a.state = b.state ∧ a.last = b.last ∧ a.next = b.next := ⟨fun e => by rw [e]; exact ⟨rfl, rfl, rfl, rfl, rfl⟩, RowR.eqs⟩
    simp [e2]
    rfl
  · intro f hfm
    have q := map_mem3 hf hfm
    simp only [List.mem_cons, Prod.mk.injEq, List.not_mem_nil, or_false] at q
    rcases q with ⟨q1, q2, q3⟩ | ⟨q1, q2, q3⟩ | ⟨q1, q2, q3⟩ | ⟨q1, q2, q3⟩ | ⟨q1, q2, q3⟩ <;> (rw [q3]; exact ⟨q1, q2, rfl, rfl⟩)
end Go.Proofs.Ytbheegphhllogaa

/-
  OWN WORK (by mktb1.py). The table: the document asks whether a row is right.
-/
namespace Go.Proofs.Ytbheegphhllogaa
open Go.RowKit
set_option linter.unusedVariables false
set_option linter.unusedSimpArgs false

set_option maxRecDepth 20000 in
set_option maxHeartbeats 1600000 in
theorem rRight (x : RowR) (w : World) : Calls Try.prog 35 #[x.v] w fun e w' => e = .returned (.bool (decide (rightR x))) ∧ Kept [] w w' := by
  obtain ⟨b, i, s, l, n⟩ := x
  obtain ⟨w1, hw1⟩ : ∃ wx, wx = w.alloc (.cells #[.int .i64 b, .int .i64 i, .int .i64 s, .int .i64 l, .int .i64 n] 24) := ⟨_, rfl⟩
  have k1 : Kept [] w w1 := by rw [hw1]; exact (Kept.refl [] w).alloc _
  have B : Blk w1 w.heap.size 24 [.int .i64 b, .int .i64 i, .int .i64 s, .int .i64 l, .int .i64 n] := by rw [hw1]; exact Blk.new w _ _
  have c0 := B.cell (j := 0) rfl
  have c1 := B.cell (j := 1) rfl
  have c2 := B.cell (j := 2) rfl
  have c3 := B.cell (j := 3) rfl
  have c4 := B.cell (j := 4) rfl
  have HK := @hideH _ k1
  clear k1 B
  show Calls Try.prog 35 #[.agg #[.int .i64 b, .int .i64 i, .int .i64 s, .int .i64 l, .int .i64 n]] w _
  go_enter Try.func35, Try.ntmps35
  go_upto_region 1 with fail
  rw [← hw1]
  clear hw1
  by_cases b1 : b < (1 : Int)
  · have q : True := trivial
    have HE := @hideH _ (show ¬ rightR ⟨b, i, s, l, n⟩ from fun h => by have : (1 : Int) ≤ b := h.1.1; omega)
    go_wp2
    go_ret
    exact ⟨by rw [decide_eq_false HE.out]; rfl, HK.out⟩
  · have q : True := trivial
    clear q
    by_cases b2 : (1152921504606846976 : Int) < b
    · have q : True := trivial
      have HE := @hideH _ (show ¬ rightR ⟨b, i, s, l, n⟩ from fun h => by have : b ≤ (1152921504606846976 : Int) := h.1.2; omega)
      go_wp2
      go_ret
      exact ⟨by rw [decide_eq_false HE.out]; rfl, HK.out⟩
    · have q : True := trivial
      clear q
      by_cases i1 : i < (1 : Int)
      · have q : True := trivial
        have HE := @hideH _ (show ¬ rightR ⟨b, i, s, l, n⟩ from fun h => by have : (1 : Int) ≤ i := h.2.1.1; omega)
        go_wp2
        go_ret
        exact ⟨by rw [decide_eq_false HE.out]; rfl, HK.out⟩
      · have q : True := trivial
        clear q
        by_cases i2 : (64 : Int) < i
        · have q : True := trivial
          have HE := @hideH _ (show ¬ rightR ⟨b, i, s, l, n⟩ from fun h => by have : i ≤ (64 : Int) := h.2.1.2; omega)
          go_wp2
          go_ret
          exact ⟨by rw [decide_eq_false HE.out]; rfl, HK.out⟩
        · have q : True := trivial
          clear q
          by_cases sx : s = 1 ∨ s = 2
          · have S : s = 1 ∨ s = 2 := sx
            have HS := @hideH _ sx
            clear sx
            rcases S with sv | sv
            · subst sv
              by_cases l1 : l < b
              · have q : True := trivial
                have HE := @hideH _ (show ¬ rightR ⟨b, i, 1, l, n⟩ from fun h => by have : b ≤ l := h.2.2.2.1.1; omega)
                go_wp2
                go_ret
                exact ⟨by rw [decide_eq_false HE.out]; rfl, HK.out⟩
              · have q : True := trivial
                clear q
                by_cases l2 : (1152921504606846976 : Int) < l
                · have q : True := trivial
                  have HE := @hideH _ (show ¬ rightR ⟨b, i, 1, l, n⟩ from fun h => by have : l ≤ (1152921504606846976 : Int) := h.2.2.2.1.2; omega)
                  go_wp2
                  go_ret
                  exact ⟨by rw [decide_eq_false HE.out]; rfl, HK.out⟩
                · have q : True := trivial
                  clear q
                  by_cases n0 : n = 0
                  · subst n0
                    have HE := @hideH _ (show rightR ⟨b, i, 1, l, 0⟩ from ⟨⟨by show (1 : Int) ≤ b; omega, by show b ≤ (1152921504606846976 : Int); omega⟩, ⟨by show (1 : Int) ≤ i; omega, by show i ≤ (64 : Int); omega⟩, HS.out, ⟨by show b ≤ l; omega, by show l ≤ (1152921504606846976 : Int); omega⟩, .inl rfl⟩)
                    go_wp2
                    go_ret
                    exact ⟨by rw [decide_eq_true HE.out]; rfl, HK.out⟩
                  · have n0' : (n == 0) = false := by simpa using n0
                    by_cases n1 : b < n
                    · by_cases n2 : n ≤ l
                      · have HN0 := @hideH _ n0
                        clear n0
                        have HE := @hideH _ (show rightR ⟨b, i, 1, l, n⟩ from ⟨⟨by show (1 : Int) ≤ b; omega, by show b ≤ (1152921504606846976 : Int); omega⟩, ⟨by show (1 : Int) ≤ i; omega, by show i ≤ (64 : Int); omega⟩, HS.out, ⟨by show b ≤ l; omega, by show l ≤ (1152921504606846976 : Int); omega⟩, .inr ⟨n1, n2⟩⟩)
                        go_wp2
                        go_ret
                        exact ⟨by rw [decide_eq_true HE.out]; rfl, HK.out⟩
                      · have q : True := trivial
                        have HE := @hideH _ (show ¬ rightR ⟨b, i, 1, l, n⟩ from fun h => by rcases h.2.2.2.2 with q | q; exact n0 q; first | exact n1 q.1 | exact n2 q.2)
                        clear n0
                        go_wp2
                        go_ret
                        exact ⟨by rw [decide_eq_false HE.out]; rfl, HK.out⟩
                    · have q : True := trivial
                      have HE := @hideH _ (show ¬ rightR ⟨b, i, 1, l, n⟩ from fun h => by rcases h.2.2.2.2 with q | q; exact n0 q; first | exact n1 q.1 | exact n2 q.2)
                      clear n0
                      go_wp2
                      go_ret
                      exact ⟨by rw [decide_eq_false HE.out]; rfl, HK.out⟩
            · subst sv
              by_cases l1 : l < b
              · have q : True := trivial
                have HE := @hideH _ (show ¬ rightR ⟨b, i, 2, l, n⟩ from fun h => by have : b ≤ l := h.2.2.2.1.1; omega)
                go_wp2
                go_ret
                exact ⟨by rw [decide_eq_false HE.out]; rfl, HK.out⟩
              · have q : True := trivial
                clear q
                by_cases l2 : (1152921504606846976 : Int) < l
                · have q : True := trivial
                  have HE := @hideH _ (show ¬ rightR ⟨b, i, 2, l, n⟩ from fun h => by have : l ≤ (1152921504606846976 : Int) := h.2.2.2.1.2; omega)
                  go_wp2
                  go_ret
                  exact ⟨by rw [decide_eq_false HE.out]; rfl, HK.out⟩
                · have q : True := trivial
                  clear q
                  by_cases n0 : n = 0
                  · subst n0
                    have HE := @hideH _ (show rightR ⟨b, i, 2, l, 0⟩ from ⟨⟨by show (1 : Int) ≤ b; omega, by show b ≤ (1152921504606846976 : Int); omega⟩, ⟨by show (1 : Int) ≤ i; omega, by show i ≤ (64 : Int); omega⟩, HS.out, ⟨by show b ≤ l; omega, by show l ≤ (1152921504606846976 : Int); omega⟩, .inl rfl⟩)
                    go_wp2
                    go_ret
                    exact ⟨by rw [decide_eq_true HE.out]; rfl, HK.out⟩
                  · have n0' : (n == 0) = false := by simpa using n0
                    by_cases n1 : b < n
                    · by_cases n2 : n ≤ l
                      · have HN0 := @hideH _ n0
                        clear n0
                        have HE := @hideH _ (show rightR ⟨b, i, 2, l, n⟩ from ⟨⟨by show (1 : Int) ≤ b; omega, by show b ≤ (1152921504606846976 : Int); omega⟩, ⟨by show (1 : Int) ≤ i; omega, by show i ≤ (64 : Int); omega⟩, HS.out, ⟨by show b ≤ l; omega, by show l ≤ (1152921504606846976 : Int); omega⟩, .inr ⟨n1, n2⟩⟩)
                        go_wp2
                        go_ret
                        exact ⟨by rw [decide_eq_true HE.out]; rfl, HK.out⟩
                      · have q : True := trivial
                        have HE := @hideH _ (show ¬ rightR ⟨b, i, 2, l, n⟩ from fun h => by rcases h.2.2.2.2 with q | q; exact n0 q; first | exact n1 q.1 | exact n2 q.2)
                        clear n0
                        go_wp2
                        go_ret
                        exact ⟨by rw [decide_eq_false HE.out]; rfl, HK.out⟩
                    · have q : True := trivial
                      have HE := @hideH _ (show ¬ rightR ⟨b, i, 2, l, n⟩ from fun h => by rcases h.2.2.2.2 with q | q; exact n0 q; first | exact n1 q.1 | exact n2 q.2)
                      clear n0
                      go_wp2
                      go_ret
                      exact ⟨by rw [decide_eq_false HE.out]; rfl, HK.out⟩
          · have s1 : (s != 1) = true := by simp; exact fun q => sx (.inl q)
            have s2 : (s != 2) = true := by simp; exact fun q => sx (.inr q)
            have HX := @hideH _ sx
            clear sx
            have HE := @hideH _ (show ¬ rightR ⟨b, i, s, l, n⟩ from fun h => by exact HX.out h.2.2.1)
            go_wp2
            go_ret
            exact ⟨by rw [decide_eq_false HE.out]; rfl, HK.out⟩
end Go.Proofs.Ytbheegphhllogaa

/-
  OWN WORK. The document's table (layer 16): what is asked of it and changes nothing.
-/
namespace Go.Proofs.Ytbheegphhllogaa
open Go.RowKit
set_option linter.unusedVariables false
set_option linter.unusedSimpArgs false

set_option maxRecDepth 20000 in
theorem rAt {g : Nat} {m : Int} {v : Value} {L : List RowR} (b : Int) (w : World) (B : Blk w g 63 [.int .i64 m, v]) (R : Rw w 0 v L) : Calls Try.prog 36 #[.pointer (some ⟨g, 0, none⟩), .int .i64 b] w fun e w' => w' = w ∧ ∃ i : Int, e = .returned (.int .i64 i) ∧ ((i = -1 ∧ findB L b = none) ∨ ∃ (k : Nat) (x : RowR), i = (k : Int) ∧ L[k]? = some x ∧ x.birth = b ∧ findB L b = some x) := by
  obtain ⟨p, c, hv⟩ := R.shape
  subst hv
  obtain ⟨n, hn⟩ : ∃ n, n = L.length := ⟨_, rfl⟩
  have HR := @hideH _ R
  have HN := @hideH _ (And.intro hn R.len)
  rw [← hn] at B
  have c1 := B.cell (j := 1) rfl
  clear R hn B
  go_enter Try.func36, Try.ntmps36
  go_wp2
  go_loopw [5] (fun i wr => ∃ k : Nat, k ≤ n ∧ i = .int .i64 k ∧ wr = w ∧ Hid (∀ (i : Nat) (y : RowR), i < k → L[i]? = some y → y.birth ≠ b)) (fun i _ => n - (intOf i).toNat)
  case atStart => exact ⟨0, Nat.zero_le _, rfl, rfl, fun i y hi => absurd hi (Nat.not_lt_zero i)⟩
  case round =>
    obtain ⟨k, hk, rfl, hw, hh⟩ := hrel
    subst hw
    by_cases hkl : k < n
    · have hkl' : (k : Int) < (n : Int) := by omega
      have h0 : (0 : Int) ≤ (k : Int) := by omega
      have wk : IntKind.i64.wrap ((k : Int) + 1) = (k : Int) + 1 := wrap_i64_of (by omega) (by have e1 := HN.out.1; have e2 := HN.out.2; unfold maxLen at e2; omega)
      obtain ⟨x, hx⟩ : ∃ x, L[k]? = some x := ⟨_, List.getElem?_eq_getElem (by have := HN.out.1; omega)⟩
      obtain ⟨gl, hp, -, -, ⟨d0, -⟩, -⟩ := HR.out.at hx
      subst hp
      have HX := @hideH _ hx
      clear hx
      by_cases e : x.birth = b
      · have HE := @hideH _ (findB_at HX.out e hh.out)
        have HB := @hideH _ e
        rw [e] at d0
        clear e
        go_wp2
        go_ret
        exact ⟨by first | rfl | trivial, _, rfl, .inr ⟨k, x, rfl, HX.out, HB.out, HE.out⟩⟩
      · have e' : (x.birth == b) = false := by simpa using e
        have HB := @hideH _ e
        clear e
        go_wp2
        go_roundw
        case rel => exact ⟨k + 1, by omega, by go_num, by first | rfl | trivial, fun i y hi hy => by
          by_cases c : i = k
          · subst c; rw [HX.out] at hy; cases hy; exact HB.out
          · exact hh.out i y (by omega) hy⟩
        case measure => simp [intOf]; omega
    · have hkl' : ¬ (k : Int) < (n : Int) := by omega
      have HE := @hideH _ (findB_no (l := L) (b := b) (fun i y hi hy => hh.out i y (by have := HN.out.1; omega) hy))
      go_wp2
      go_ret
      exact ⟨by first | rfl | trivial, _, rfl, .inl ⟨rfl, HE.out⟩⟩
set_option maxRecDepth 20000 in
set_option maxHeartbeats 1600000 in
theorem rById {g : Nat} {m : Int} {v : Value} {L : List RowR} (b : Int) (w : World) (B : Blk w g 63 [.int .i64 m, v]) (R : Rw w 0 v L) : Calls Try.prog 28 #[.pointer (some ⟨g, 0, none⟩), .int .i64 b] w fun e w' => e = .returned (.tuple #[(rowOf (findI L b)).v, .bool (findI L b).isSome]) ∧ Kept [] w w' := by
  obtain ⟨p, c, hv⟩ := R.shape
  subst hv
  obtain ⟨n, hn⟩ : ∃ n, n = L.length := ⟨_, rfl⟩
  obtain ⟨w1, hw1⟩ : ∃ wx, wx = w.alloc (.cells #[.int .i64 0, .int .i64 0, .int .i64 0, .int .i64 0, .int .i64 0] 24) := ⟨_, rfl⟩
  have kw1 : Kept [] w w1 := by rw [hw1]; exact (Kept.refl [] w).alloc _
  have Z : Blk w1 w.heap.size 24 rowZ.cs := by rw [hw1]; exact Blk.new w _ _
  have R1 := R.kept kw1 (by simp)
  have B1 := B.kept kw1 (by simp)
  have HN := @hideH _ (And.intro hn R.len)
  have HR := @hideH _ R1
  rw [← hn] at B1
  have c1 := B1.cell (j := 1) rfl
  have HZ := @hideH _ (And.intro Z kw1)
  clear R R1 hn B B1 Z kw1
  go_enter Try.func28, Try.ntmps28
  go_upto_region 1 with fail
  rw [← hw1]
  clear hw1
  go_wp2
  go_loopw [6] (fun i wr => ∃ k : Nat, k ≤ n ∧ i = .int .i64 k ∧ wr = w1 ∧ Hid (∀ (i : Nat) (y : RowR), i < k → L[i]? = some y → y.id ≠ b)) (fun i _ => n - (intOf i).toNat)
  case atStart => exact ⟨0, Nat.zero_le _, rfl, rfl, fun i y hi => absurd hi (Nat.not_lt_zero i)⟩
  case round =>
    obtain ⟨k, hk, rfl, hw, hh⟩ := hrel
    subst hw
    by_cases hkl : k < n
    · have hkl' : (k : Int) < (n : Int) := by omega
      have h0 : (0 : Int) ≤ (k : Int) := by omega
      have wk : IntKind.i64.wrap ((k : Int) + 1) = (k : Int) + 1 := wrap_i64_of (by omega) (by have e1 := HN.out.1; have e2 := HN.out.2; unfold maxLen at e2; omega)
      obtain ⟨x, hx⟩ : ∃ x, L[k]? = some x := ⟨_, List.getElem?_eq_getElem (by have := HN.out.1; omega)⟩
      obtain ⟨gl, hp, -, -, ⟨d0, d1, d2, d3, d4⟩, -⟩ := HR.out.at hx
      subst hp
      have HX := @hideH _ hx
      clear hx
      by_cases e : x.id = b
      · have HE := @hideH _ (findI_at HX.out e hh.out)
        have e' : (x.id == b) = true := by simpa using e
        clear e
        obtain ⟨w2, hw2⟩ : ∃ wx, wx = setBox wr w.heap.size x := ⟨_, rfl⟩
        have S := HZ.out.1.setRow x
        rw [← hw2] at S
        have HS := @hideH _ S
        clear S
        unfold setBox at hw2
        have z0 := HZ.out.1.cell (j := 0) rfl
        have z1 := HZ.out.1.cell (j := 1) rfl
        have z2 := HZ.out.1.cell (j := 2) rfl
        have z3 := HZ.out.1.cell (j := 3) rfl
        have z4 := HZ.out.1.cell (j := 4) rfl
        have f0 := HZ.out.1.free 0
        have f1 := HZ.out.1.free 1
        have f2 := HZ.out.1.free 2
        have f3 := HZ.out.1.free 3
        have f4 := HZ.out.1.free 4
        go_wp2
        rw [← hw2]
        have r0 := HS.out.1.cell (j := 0) rfl
        have r1 := HS.out.1.cell (j := 1) rfl
        have r2 := HS.out.1.cell (j := 2) rfl
        have r3 := HS.out.1.cell (j := 3) rfl
        have r4 := HS.out.1.cell (j := 4) rfl
        refine bodyPost_ret (by simp [results, Try.results28, go_sem, r0, r1, r2, r3, r4]; try rfl) rfl ?_
        exact ⟨by rw [HE.out]; rfl, (HZ.out.2.trans HS.out.2 (fun y hy => .inr (by simp at hy; omega)))⟩
      · have e' : (x.id == b) = false := by simpa using e
        have HB := @hideH _ e
        clear e
        go_wp2
        go_roundw
        case rel => exact ⟨k + 1, by omega, by go_num, by first | rfl | trivial, fun i y hi hy => by
          by_cases c : i = k
          · subst c; rw [HX.out] at hy; cases hy; exact HB.out
          · exact hh.out i y (by omega) hy⟩
        case measure => simp [intOf]; omega
    · have hkl' : ¬ (k : Int) < (n : Int) := by omega
      have HE := @hideH _ (findI_no (l := L) (b := b) (fun i y hi hy => hh.out i y (by have := HN.out.1; omega) hy))
      obtain ⟨w2, hw2⟩ : ∃ wx, wx = setBox wr w.heap.size rowZ := ⟨_, rfl⟩
      have S := HZ.out.1.setRow rowZ
      rw [← hw2] at S
      have HS := @hideH _ S
      clear S
      unfold setBox at hw2
      simp only [rowZ] at hw2
      have z0 := HZ.out.1.cell (j := 0) rfl
      have z1 := HZ.out.1.cell (j := 1) rfl
      have z2 := HZ.out.1.cell (j := 2) rfl
      have z3 := HZ.out.1.cell (j := 3) rfl
      have z4 := HZ.out.1.cell (j := 4) rfl
      have f0 := HZ.out.1.free 0
      have f1 := HZ.out.1.free 1
      have f2 := HZ.out.1.free 2
      have f3 := HZ.out.1.free 3
      have f4 := HZ.out.1.free 4
      simp only [rowZ] at z0 z1 z2 z3 z4
      go_wp2
      rw [← hw2]
      have r0 := HS.out.1.cell (j := 0) rfl
      have r1 := HS.out.1.cell (j := 1) rfl
      have r2 := HS.out.1.cell (j := 2) rfl
      have r3 := HS.out.1.cell (j := 3) rfl
      have r4 := HS.out.1.cell (j := 4) rfl
      refine bodyPost_ret (by simp [results, Try.results28, go_sem, r0, r1, r2, r3, r4]; try rfl) rfl ?_
      exact ⟨by rw [HE.out]; rfl, (HZ.out.2.trans HS.out.2 (fun y hy => .inr (by simp at hy; omega)))⟩
set_option maxRecDepth 20000 in
set_option maxHeartbeats 1600000 in
theorem rGet {g : Nat} {m : Int} {v : Value} {L : List RowR} (b : Int) (w : World) (B : Blk w g 63 [.int .i64 m, v]) (R : Rw w 0 v L) : Calls Try.prog 27 #[.pointer (some ⟨g, 0, none⟩), .int .i64 b] w fun e w' => e = .returned (.tuple #[(rowOf (findB L b)).v, .bool (findB L b).isSome]) ∧ Kept [] w w' := by
  obtain ⟨p, c, hv⟩ := R.shape
  subst hv
  obtain ⟨n, hn⟩ : ∃ n, n = L.length := ⟨_, rfl⟩
  obtain ⟨w1, hw1⟩ : ∃ wx, wx = w.alloc (.cells #[.int .i64 0, .int .i64 0, .int .i64 0, .int .i64 0, .int .i64 0] 24) := ⟨_, rfl⟩
  have kw1 : Kept [] w w1 := by rw [hw1]; exact (Kept.refl [] w).alloc _
  have Z : Blk w1 w.heap.size 24 rowZ.cs := by rw [hw1]; exact Blk.new w _ _
  have R1 := R.kept kw1 (by simp)
  have B1 := B.kept kw1 (by simp)
  have HN := @hideH _ (And.intro hn R.len)
  have hA := rAt b w1 B1 R1
  have HR := @hideH _ R1
  rw [← hn] at B1
  have c1 := B1.cell (j := 1) rfl
  have HZ := @hideH _ (And.intro Z kw1)
  have HA := @hideH _ hA
  clear R R1 hn B B1 Z kw1 hA
  go_enter Try.func27, Try.ntmps27
  go_upto_region 1 with fail
  rw [← hw1]
  clear hw1
  go_wp2_with fail
  refine HA.out.mono ?_
  clear HA
  rintro e wx ⟨hwx, i, rfl, hi⟩
  rw [hwx]
  clear hwx wx
  rcases hi with ⟨rfl, he⟩ | ⟨k, x, rfl, hx, hb, he⟩
  · have HE := @hideH _ he
    clear he
    obtain ⟨w2, hw2⟩ : ∃ wx, wx = setBox w1 w.heap.size rowZ := ⟨_, rfl⟩
    have S := HZ.out.1.setRow rowZ
    rw [← hw2] at S
    have HS := @hideH _ S
    clear S
    unfold setBox at hw2
    simp only [rowZ] at hw2
    have z0 := HZ.out.1.cell (j := 0) rfl
    have z1 := HZ.out.1.cell (j := 1) rfl
    have z2 := HZ.out.1.cell (j := 2) rfl
    have z3 := HZ.out.1.cell (j := 3) rfl
    have z4 := HZ.out.1.cell (j := 4) rfl
    have f0 := HZ.out.1.free 0
    have f1 := HZ.out.1.free 1
    have f2 := HZ.out.1.free 2
    have f3 := HZ.out.1.free 3
    have f4 := HZ.out.1.free 4
    simp only [rowZ] at z0 z1 z2 z3 z4
    go_wp2
    rw [← hw2]
    have r0 := HS.out.1.cell (j := 0) rfl
    have r1 := HS.out.1.cell (j := 1) rfl
    have r2 := HS.out.1.cell (j := 2) rfl
    have r3 := HS.out.1.cell (j := 3) rfl
    have r4 := HS.out.1.cell (j := 4) rfl
    refine bodyPost_ret (by simp [results, Try.results27, go_sem, r0, r1, r2, r3, r4]; try rfl) rfl ?_
    exact ⟨by rw [HE.out]; rfl, (HZ.out.2.trans HS.out.2 (fun y hy => .inr (by simp at hy; omega)))⟩
  · have HE := @hideH _ he
    have hkn : k < n := by have := HN.out.1; have := (List.getElem?_eq_some_iff.1 hx).1; omega
    have hkl' : (k : Int) < (n : Int) := by omega
    have h0 : (0 : Int) ≤ (k : Int) := by omega
    obtain ⟨gl, hp, -, -, ⟨d0, d1, d2, d3, d4⟩, -⟩ := HR.out.at hx
    subst hp
    clear he hx hb hkn
    obtain ⟨w2, hw2⟩ : ∃ wx, wx = setBox w1 w.heap.size x := ⟨_, rfl⟩
    have S := HZ.out.1.setRow x
    rw [← hw2] at S
    have HS := @hideH _ S
    clear S
    unfold setBox at hw2
    have z0 := HZ.out.1.cell (j := 0) rfl
    have z1 := HZ.out.1.cell (j := 1) rfl
    have z2 := HZ.out.1.cell (j := 2) rfl
    have z3 := HZ.out.1.cell (j := 3) rfl
    have z4 := HZ.out.1.cell (j := 4) rfl
    have f0 := HZ.out.1.free 0
    have f1 := HZ.out.1.free 1
    have f2 := HZ.out.1.free 2
    have f3 := HZ.out.1.free 3
    have f4 := HZ.out.1.free 4
    go_wp2
    rw [← hw2]
    have r0 := HS.out.1.cell (j := 0) rfl
    have r1 := HS.out.1.cell (j := 1) rfl
    have r2 := HS.out.1.cell (j := 2) rfl
    have r3 := HS.out.1.cell (j := 3) rfl
    have r4 := HS.out.1.cell (j := 4) rfl
    refine bodyPost_ret (by simp [results, Try.results27, go_sem, r0, r1, r2, r3, r4]; try rfl) rfl ?_
    exact ⟨by rw [HE.out]; rfl, (HZ.out.2.trans HS.out.2 (fun y hy => .inr (by simp at hy; omega)))⟩
end Go.Proofs.Ytbheegphhllogaa

/-
  OWN WORK (by mktb3.py). The document's table (layer 16): New, Put, Set.
-/
namespace Go.Proofs.Ytbheegphhllogaa
open Go.RowKit
set_option linter.unusedVariables false
set_option linter.unusedSimpArgs false

def isM (m : Int) : Prop := 1 ≤ m ∧ m ≤ 8
instance (m : Int) : Decidable (isM m) := inferInstanceAs (Decidable (1 ≤ m ∧ m ≤ 8))
/-- the document's table at block g, in the blocks F: it tells S -/
def Rt (w : World) (g : Nat) (F : List Nat) (m : Int) (S : List RowR) : Prop :=
  ∃ v L, Blk w g 63 [.int .i64 m, v] ∧ Rw w 0 v L ∧ S.Perm L ∧ OkT m S ∧ F = g :: v.ownBlock.toList ∧ ∀ x, v.ownBlock = some x → x ≠ g
theorem own_mem {v : Value} {x : Nat} : x ∈ v.ownBlock.toList ↔ v.ownBlock = some x := by
  cases h : v.ownBlock <;> simp [eq_comm]
theorem Rt.kept {w w' : World} {g : Nat} {F : List Nat} {m : Int} {S : List RowR} {D : List Nat} (h : Rt w g F m S) (k : Kept D w w') (hD : ∀ x ∈ F, x ∉ D) : Rt w' g F m S := by
  obtain ⟨v, L, h1, h2, h3, h4, rfl, h6⟩ := h
  exact ⟨v, L, h1.kept k (hD g (by simp)), h2.kept k (fun x hx => hD x (List.mem_cons_of_mem _ (own_mem.2 hx))), h3, h4, rfl, h6⟩
theorem Rt.lt {w : World} {g : Nat} {F : List Nat} {m : Int} {S : List RowR} (h : Rt w g F m S) : ∀ x ∈ F, x < w.heap.size := by
  obtain ⟨v, L, h1, h2, h3, h4, rfl, h6⟩ := h
  intro x hx
  rcases List.mem_cons.1 hx with rfl | hx
  · exact h1.lt
  · exact (h2.lt (own_mem.1 hx)).2
theorem Rt.ok {w : World} {g : Nat} {F : List Nat} {m : Int} {S : List RowR} (h : Rt w g F m S) : OkT m S := by
  obtain ⟨v, L, h1, h2, h3, h4, h5, h6⟩ := h
  exact h4
/-- what is new lies behind what was there -/
def Fr (w : World) (F F' : List Nat) : Prop := ∀ x ∈ F', x ∈ F ∨ w.heap.size ≤ x
theorem Fr.refl (w : World) (F : List Nat) : Fr w F F := fun x hx => .inl hx
theorem Fr.old {w w' : World} {F F' : List Nat} (h : Fr w' F F') (hs : w.heap.size ≤ w'.heap.size) : Fr w F F' := fun x hx => (h x hx).imp id (fun q => by omega)
theorem rt_append {w w7 w8 : World} {g : Nat} {m : Int} {v v' : Value} {S L : List RowR} {x : RowR} (kw : Kept [] w w7) (B : Blk w g 63 [.int .i64 m, v]) (R : Rw w 0 v L) (pm : S.Perm L) (ok : OkT m S) (hvg : ∀ y, v.ownBlock = some y → y ≠ g) (hp : putT m S x = insB x S) (r8 : Row w8 0 5 v' (L.length + 1) (rcells L ++ x.cs)) (k8 : Kept v.ownBlock.toList w7 w8) (o8 : v'.ownBlock = v.ownBlock ∨ (v'.ownBlock = some w7.heap.size ∧ Kept [] w7 w8)) :
    Blk w8 g 63 [.int .i64 m, v] ∧ Rt (w8.setCell ⟨g, 1, none⟩ v') g (g :: v'.ownBlock.toList) m (putT m S x) ∧ Fr w (g :: v.ownBlock.toList) (g :: v'.ownBlock.toList) ∧ Kept (g :: v.ownBlock.toList) w (w8.setCell ⟨g, 1, none⟩ v') := by
  have B8 := (B.kept kw (by simp)).kept k8 (fun hm => hvg g (own_mem.1 hm) rfl)
  obtain ⟨B9, k9⟩ := B8.set 1 v'
  have hs := kw.size
  have hv' : ∀ y, v'.ownBlock = some y → y ≠ g := fun y hy => by
    rcases o8 with o | ⟨o, -⟩
    · exact hvg y (by rw [← o]; exact hy)
    · rw [o] at hy; cases hy; have := B.lt; omega
  refine ⟨B8, ⟨v', L ++ [x], B9, ?_, ?_, ok.put x, rfl, hv'⟩, fun y hy => ?_, ?_⟩
  · unfold Rw
    rw [List.length_append, rcells_snoc]
    exact Row.kept r8 k9 (fun y hy hm => hv' y hy (by simpa using hm))
  · rw [hp]
    exact (insB_perm x S).trans ((pm.cons x).trans (List.perm_append_comm (l₁ := [x])))
  · rcases List.mem_cons.1 hy with rfl | hy
    · exact .inl (by simp)
    · rcases o8 with o | ⟨o, -⟩
      · rw [o] at hy; exact .inl (List.mem_cons_of_mem _ hy)
      · rw [o] at hy; simp at hy; exact .inr (by omega)
  · exact ((kw.mono (T := g :: v.ownBlock.toList) (by simp)).trans k8 (fun y hy => .inl (List.mem_cons_of_mem _ hy))).trans k9 (fun y hy => .inl (by simp at hy; simp [hy]))
theorem rNew (most : Int) (w : World) : Calls Try.prog 18 #[.int .i64 most] w fun e w' => (isM most ∧ e = .returned (.tuple #[.pointer (some ⟨w.heap.size, 0, none⟩), .int .i64 0]) ∧ Rt w' w.heap.size [w.heap.size] most [] ∧ Kept [] w w') ∨ (¬ isM most ∧ e = .returned (.tuple #[.pointer none, .int .i64 161]) ∧ Kept [] w w') := by
  go_enter Try.func18, Try.ntmps18
  by_cases h1 : most < (1 : Int)
  · have HM := @hideH _ (show ¬ isM most from fun h => by have := h.1; omega)
    go_wp2
    go_ret2
    exact .inr ⟨HM.out, rfl, Kept.refl _ _⟩
  · by_cases h2 : (8 : Int) < most
    · have HM := @hideH _ (show ¬ isM most from fun h => by have := h.2; omega)
      go_wp2
      go_ret2
      exact .inr ⟨HM.out, rfl, Kept.refl _ _⟩
    · have HM := @hideH _ (show isM most from ⟨by omega, by omega⟩)
      go_wp2
      go_ret2
      refine .inl ⟨HM.out, rfl, ⟨_, [], Blk.new w _ [.int .i64 most, .slice none 0 0], Rw.nil _ _, .nil, OkT.new HM.out, rfl, fun x hx => by cases hx⟩, (Kept.refl [] w).alloc _⟩
set_option maxRecDepth 20000 in
set_option maxHeartbeats 1600000 in
theorem rPut {g : Nat} {F : List Nat} {m : Int} {S : List RowR} (x : RowR) (w : World) (h : Rt w g F m S) : Calls Try.prog 25 #[.pointer (some ⟨g, 0, none⟩), x.v] w fun e w' => ∃ F', e = .returned (.int .i64 (putE m S x)) ∧ Rt w' g F' m (putT m S x) ∧ Fr w F F' ∧ Kept F w w' := by
  obtain ⟨v, L, B, R, pm, ok, hF, hvg⟩ := h
  subst hF
  have HFB := @hideH _ (findB_perm ok.dif pm x.birth)
  have HFI := @hideH _ (findI_perm ok.dif pm x.id)
  have HPL := @hideH _ pm.length_eq
  have HOK := @hideH _ ok
  have HPM := @hideH _ pm
  obtain ⟨inf, hin1, hin2, hin3, hin4⟩ := info_parts3 (show (Try.prog.info? 24).map (fun i => (i.zero, i.size, i.bytes)) = some (some (.agg #[.int .i64 0, .int .i64 0, .int .i64 0, .int .i64 0, .int .i64 0]), 5, 40) by kernel_rfl)
  have HI := @hideH _ (And.intro hin1 (And.intro hin2 (And.intro hin3 hin4)))
  clear hin1 hin2 hin3 hin4
  obtain ⟨w1, hw1⟩ : ∃ wx, wx = w.alloc (.cells #[.int .i64 x.birth, .int .i64 x.id, .int .i64 x.state, .int .i64 x.last, .int .i64 x.next] 24) := ⟨_, rfl⟩
  have kw1 : Kept [] w w1 := by rw [hw1]; exact (Kept.refl [] w).alloc _
  have X : Blk w1 w.heap.size 24 x.cs := by rw [hw1]; exact Blk.new w _ _
  have HX := @hideH _ X
  have HK1 := @hideH _ kw1
  have HB := @hideH _ (B.kept kw1 (by simp))
  have HR := @hideH _ (R.kept kw1 (by simp))
  have HRt := @hideH _ (show ∀ w', Kept [] w w' → Rt w' g (g :: v.ownBlock.toList) m S from fun w' k => ⟨v, L, B.kept k (by simp), R.kept k (by simp), pm, ok, rfl, hvg⟩)
  have HVG := @hideH _ hvg
  have H0 := @hideH _ (And.intro B R)
  have HLT := @hideH _ (And.intro B.lt (fun y (hy : v.ownBlock = some y) => (R.lt hy).2))
  have q := rRight x w1
  unfold RowR.v at q
  have HQ := @hideH _ q
  clear B R q X kw1 pm ok hvg
  show Calls Try.prog 25 #[.pointer (some ⟨g, 0, none⟩), .agg #[.int .i64 x.birth, .int .i64 x.id, .int .i64 x.state, .int .i64 x.last, .int .i64 x.next]] w _
  have z0 := HX.out.cell (j := 0) rfl
  have z1 := HX.out.cell (j := 1) rfl
  have z2 := HX.out.cell (j := 2) rfl
  have z3 := HX.out.cell (j := 3) rfl
  have z4 := HX.out.cell (j := 4) rfl
  go_enter Try.func25, Try.ntmps25
  go_upto_region 1 with fail
  rw [← hw1]
  clear hw1
  go_wp2_with fail
  refine HQ.out.mono ?_
  clear HQ
  rintro e w2 ⟨rfl, k2⟩
  by_cases hr : rightR x
  rotate_left
  · have HE := @hideH _ (put_range (m := m) (l := S) hr)
    rw [decide_eq_false hr]
    have HK2 := @hideH _ (HK1.out.then k2)
    clear k2
    go_wp2
    go_ret
    exact ⟨_, by rw [HE.out.1]; rfl, by rw [HE.out.2]; exact HRt.out _ HK2.out, Fr.refl _ _, HK2.out.mono (by simp)⟩
  rw [decide_eq_true hr]
  have HRI := @hideH _ hr
  clear hr
  replace z0 := k2.cell z0 (by simp)
  replace z1 := k2.cell z1 (by simp)
  replace z2 := k2.cell z2 (by simp)
  replace z3 := k2.cell z3 (by simp)
  replace z4 := k2.cell z4 (by simp)
  have HB2 := @hideH _ (HB.out.kept k2 (by simp))
  have HR2 := @hideH _ (HR.out.kept k2 (by simp))
  have HK2 := @hideH _ (HK1.out.then k2)
  have q := rById x.id w2 HB2.out HR2.out
  unfold RowR.v at q
  have HI := @hideH _ q
  clear q
  go_wp2_with fail
  refine HI.out.mono ?_
  clear HI
  rintro e w3 ⟨rfl, k3⟩
  obtain ⟨y, hy⟩ : ∃ y, y = rowOf (findI L x.id) := ⟨_, rfl⟩
  rw [← hy]
  obtain ⟨bi, hbi⟩ : ∃ bi, bi = (findI L x.id).isSome := ⟨_, rfl⟩
  rw [← hbi]
  have HBI := @hideH _ hbi
  clear hy hbi
  replace z0 := k3.cell z0 (by simp)
  replace z1 := k3.cell z1 (by simp)
  replace z2 := k3.cell z2 (by simp)
  replace z3 := k3.cell z3 (by simp)
  replace z4 := k3.cell z4 (by simp)
  obtain ⟨w4, hw4⟩ : ∃ wx, wx = w3.alloc (.cells #[.int .i64 y.birth, .int .i64 y.id, .int .i64 y.state, .int .i64 y.last, .int .i64 y.next] 24) := ⟨_, rfl⟩
  have kw4 : Kept [] w3 w4 := by rw [hw4]; exact (Kept.refl [] w3).alloc _
  have Y : Blk w4 w3.heap.size 24 y.cs := by rw [hw4]; exact Blk.new w3 _ _
  have HK5 := @hideH _ (k3.then kw4)
  have HK25 := @hideH _ (HK2.out.then HK5.out)
  replace z0 := kw4.cell z0 (by simp)
  replace z1 := kw4.cell z1 (by simp)
  replace z2 := kw4.cell z2 (by simp)
  replace z3 := kw4.cell z3 (by simp)
  replace z4 := kw4.cell z4 (by simp)
  clear k3 kw4 k2 Y
  go_upto_region 4 with fail
  rw [← hw4]
  clear hw4
  have HB5 := @hideH _ (HB2.out.kept HK5.out (by simp))
  have HR5 := @hideH _ (HR2.out.kept HK5.out (by simp))
  cases bi with
  | true =>
    have HE := @hideH _ (put_txn (m := m) (l := S) HRI.out (.inr (by rw [HFI.out]; exact HBI.out.symm)))
    go_wp2
    go_ret
    exact ⟨_, by rw [HE.out.1]; rfl, by rw [HE.out.2]; exact HRt.out _ HK25.out, Fr.refl _ _, HK25.out.mono (by simp)⟩
  | false =>
    have HNI := @hideH _ (show findI S x.id = none by rw [HFI.out]; have := HBI.out; cases h : findI L x.id with | none => rfl | some y => rw [h] at this; cases this)
    have HA := @hideH _ (rAt x.birth w4 HB5.out HR5.out)
    go_wp2_with fail
    refine HA.out.mono ?_
    clear HA
    rintro e wx ⟨hwx, i, rfl, hi⟩
    rw [hwx]
    clear hwx wx
    rcases hi with ⟨rfl, he⟩ | ⟨k, y', rfl, hx, hb, he⟩
    rotate_left
    · have HE := @hideH _ (put_txn (m := m) (l := S) HRI.out (.inl (by rw [HFB.out, he]; rfl)))
      have hk0 : (0 : Int) ≤ (k : Int) := by omega
      clear hx hb he
      go_wp2
      go_ret
      exact ⟨_, by rw [HE.out.1]; rfl, by rw [HE.out.2]; exact HRt.out _ HK25.out, Fr.refl _ _, HK25.out.mono (by simp)⟩
    have HNB := @hideH _ (show findB S x.birth = none by rw [HFB.out]; exact he)
    clear he
    obtain ⟨p, c, hv⟩ := HR5.out.shape
    subst hv
    obtain ⟨n, hn⟩ : ∃ n, n = L.length := ⟨_, rfl⟩
    have HN := @hideH _ (And.intro hn HR5.out.len)
    have B5 := HB5.out
    rw [← hn] at B5
    have c0 := B5.cell (j := 0) rfl
    have c1 := B5.cell (j := 1) rfl
    clear B5 hn
    by_cases hm : (n : Int) = m
    · have hm' : ((n : Int) == m) = true := by simpa using hm
      have HE := @hideH _ (put_full (m := m) HRI.out HNB.out HNI.out (by rw [HPL.out, ← HN.out.1]; omega))
      clear hm
      go_wp2
      go_quiet (fail)
      go_wp2
      go_ret
      exact ⟨_, by rw [HE.out.1]; rfl, by rw [HE.out.2]; exact HRt.out _ (HK25.out.drewN' _), Fr.refl _ _, (HK25.out.drewN' _).mono (by simp)⟩
    have hm' : ((n : Int) == m) = false := by simpa using hm
    have HE := @hideH _ (put_ok (m := m) HRI.out HNB.out HNI.out (by rw [HPL.out, ← HN.out.1]; intro q; have e1 := HOK.out.len; rw [HPL.out, ← HN.out.1] at e1; omega))
    have H8 := @hideH _ (show n ≤ 8 by have e1 := HOK.out.len; have e2 := HOK.out.most; rw [HPL.out, ← HN.out.1] at e1; omega)
    clear hm
    go_upto_region 6 with fail
    go_quiet (fail)
    go_upto_region 8 with fail
    obtain ⟨w6, hw6⟩ : ∃ wx, wx = (w4.drewN nq).drew := ⟨_, rfl⟩
    have k6 : Kept [] w4 w6 := by rw [hw6]; exact ((Kept.refl [] w4).drewN' _).drew
    have hS : (fun w' => w'.cell? ⟨g, 1, none⟩ = some (.slice p n c) ∧ w'.cell? ⟨w.heap.size, 0, none⟩ = some (.int .i64 x.birth) ∧ w'.cell? ⟨w.heap.size, 1, none⟩ = some (.int .i64 x.id) ∧ w'.cell? ⟨w.heap.size, 2, none⟩ = some (.int .i64 x.state) ∧ w'.cell? ⟨w.heap.size, 3, none⟩ = some (.int .i64 x.last) ∧ w'.cell? ⟨w.heap.size, 4, none⟩ = some (.int .i64 x.next)) w6 := ⟨k6.cell c1 (by simp), k6.cell z0 (by simp), k6.cell z1 (by simp), k6.cell z2 (by simp), k6.cell z3 (by simp), k6.cell z4 (by simp)⟩
    try dsimp only at hS
    refine wp_region_late (fun w' => w'.cell? ⟨g, 1, none⟩ = some (.slice p n c) ∧ w'.cell? ⟨w.heap.size, 0, none⟩ = some (.int .i64 x.birth) ∧ w'.cell? ⟨w.heap.size, 1, none⟩ = some (.int .i64 x.id) ∧ w'.cell? ⟨w.heap.size, 2, none⟩ = some (.int .i64 x.state) ∧ w'.cell? ⟨w.heap.size, 3, none⟩ = some (.int .i64 x.last) ∧ w'.cell? ⟨w.heap.size, 4, none⟩ = some (.int .i64 x.next)) 10 (by kernel_rfl) ?_
    rw [← hw6]
    clear hw6 c0 c1 z0 z1 z2 z3 z4
    refine wpAnyZ_take 0 (v := ?va0) rfl (by kernel_rfl) (by kernel_rfl) (by kernel_rfl) (by kernel_rfl) (fun _ _ _ h => h) (by rfl) ?hya0 hS ?resta0
    case hya0 => (intro wx hSx; obtain ⟨s1, s2, s3, s4, s5, s6⟩ := hSx; go_simp; (try with_reducible rfl))
    (try simp only [Act.put, List.setIfInBounds_toArray, List.set_cons_zero, List.set_cons_succ])
    refine wpAnyZ_take 1 (v := ?va1) rfl (by kernel_rfl) (by kernel_rfl) (by kernel_rfl) (by kernel_rfl) (fun _ _ _ h => h) (by rfl) ?hya1 hS ?resta1
    case hya1 => (intro wx hSx; obtain ⟨s1, s2, s3, s4, s5, s6⟩ := hSx; go_simp; (try with_reducible rfl))
    (try simp only [Act.put, List.setIfInBounds_toArray, List.set_cons_zero, List.set_cons_succ])
    refine wpAnyZ_take 2 (v := ?va2) rfl (by kernel_rfl) (by kernel_rfl) (by kernel_rfl) (by kernel_rfl) (fun _ _ _ h => h) (by rfl) ?hya2 hS ?resta2
    case hya2 => (intro wx hSx; obtain ⟨s1, s2, s3, s4, s5, s6⟩ := hSx; go_simp; (try with_reducible rfl))
    (try simp only [Act.put, List.setIfInBounds_toArray, List.set_cons_zero, List.set_cons_succ])
    refine wpAnyZ_take 3 (v := ?va3) rfl (by kernel_rfl) (by kernel_rfl) (by kernel_rfl) (by kernel_rfl) (fun _ _ _ h => h) (by rfl) ?hya3 hS ?resta3
    case hya3 => (intro wx hSx; obtain ⟨s1, s2, s3, s4, s5, s6⟩ := hSx; go_simp; (try with_reducible rfl))
    (try simp only [Act.put, List.setIfInBounds_toArray, List.set_cons_zero, List.set_cons_succ])
    refine wpAnyZ_take 4 (v := ?va4) rfl (by kernel_rfl) (by kernel_rfl) (by kernel_rfl) (by kernel_rfl) (fun _ _ _ h => h) (by rfl) ?hya4 hS ?resta4
    case hya4 => (intro wx hSx; obtain ⟨s1, s2, s3, s4, s5, s6⟩ := hSx; go_simp; (try with_reducible rfl))
    (try simp only [Act.put, List.setIfInBounds_toArray, List.set_cons_zero, List.set_cons_succ])
    refine wpAnyZ_take 5 (v := ?va5) rfl (by kernel_rfl) (by kernel_rfl) (by kernel_rfl) (by kernel_rfl) (fun _ _ _ h => h) (by rfl) ?hya5 hS ?resta5
    case hya5 => (intro wx hSx; obtain ⟨s1, s2, s3, s4, s5, s6⟩ := hSx; go_simp; (try with_reducible rfl))
    (try simp only [Act.put, List.setIfInBounds_toArray, List.set_cons_zero, List.set_cons_succ])
    obtain ⟨w7, hw7⟩ : ∃ wx, wx = w6.alloc (.cells #[.int .i64 x.birth, .int .i64 x.id, .int .i64 x.state, .int .i64 x.last, .int .i64 x.next] 24) := ⟨_, rfl⟩
    have k7 : Kept [] w6 w7 := by rw [hw7]; exact (Kept.refl [] w6).alloc _
    have hS7 := hS
    replace hS7 := (⟨k7.cell hS7.1 (by simp), k7.cell hS7.2.1 (by simp), k7.cell hS7.2.2.1 (by simp), k7.cell hS7.2.2.2.1 (by simp), k7.cell hS7.2.2.2.2.1 (by simp), k7.cell hS7.2.2.2.2.2 (by simp)⟩ : (fun w' => w'.cell? ⟨g, 1, none⟩ = some (.slice p n c) ∧ w'.cell? ⟨w.heap.size, 0, none⟩ = some (.int .i64 x.birth) ∧ w'.cell? ⟨w.heap.size, 1, none⟩ = some (.int .i64 x.id) ∧ w'.cell? ⟨w.heap.size, 2, none⟩ = some (.int .i64 x.state) ∧ w'.cell? ⟨w.heap.size, 3, none⟩ = some (.int .i64 x.last) ∧ w'.cell? ⟨w.heap.size, 4, none⟩ = some (.int .i64 x.next)) w7)
    try dsimp only at hS7
    refine wpAnyZ_one 6 rfl (by kernel_rfl) (fun K hK => ?_)
    go_simp
    refine hK _ _ (fun _ => by rw [← hw7]; exact hS7) ?_
    clear hK K
    (try simp only [Act.put, List.setIfInBounds_toArray, List.set_cons_zero, List.set_cons_succ])
    have hsrc := src_row (P := Try.prog) w6 26 24 Try.underlying26 x
    unfold RowR.cs at hsrc
    try dsimp only at hsrc
    rw [← hw7] at hsrc
    rw [← hw7]
    clear hw7
    have k47 := k6.then k7
    have R7 := HR5.out.kept k47 (by simp)
    unfold Rw at R7
    have hlL := HN.out.1
    refine wpAnyZ_one 7 rfl (by kernel_rfl) (fun K hK => ?_)
    refine step_append_row2 rfl (.tmp 39) (.tmp 41) 26 rfl 0 24 inf (.agg #[.int .i64 0, .int .i64 0, .int .i64 0, .int .i64 0, .int .i64 0]) 5 40 Try.underlying26 HI.out.1 HI.out.2.1 HI.out.2.2.1 HI.out.2.2.2 rfl _ _ _ (by rfl) (by rw [hlL]; exact R7) _ 1 _ (by rfl) hsrc (by have e1 := H8.out; have e2 := HN.out.1; omega) (by have e1 := H8.out; have e2 := HN.out.1; unfold maxLen; omega) (by have e1 := H8.out; have e2 := HN.out.1; omega) (Nat.zero_le _) ?_
    intro v' w8 r8 k8 o8
    obtain ⟨p', c', hv', -⟩ := Row.shape r8
    subst hv'
    try rw [hlL] at r8
    try rw [hlL] at k8
    try rw [hlL] at o8
    have FIN := rt_append (HK25.out.then k47) H0.out.1 H0.out.2 HPM.out HOK.out HVG.out HE.out.2 r8 k8 o8
    have B8 := FIN.1
    rw [← hlL] at B8
    have c1 := B8.cell (j := 1) rfl
    have f1 := B8.free 1
    have HFIN := @hideH _ FIN.2
    clear FIN B8 r8 o8
    have nX : w.heap.size ∉ (Value.slice p L.length c).ownBlock.toList := fun hm => by have := HLT.out.2 _ (own_mem.1 hm); omega
    have hS8 := (⟨c1, k8.cell hS7.2.1 nX, k8.cell hS7.2.2.1 nX, k8.cell hS7.2.2.2.1 nX, k8.cell hS7.2.2.2.2.1 nX, k8.cell hS7.2.2.2.2.2 nX⟩ : (fun w' => w'.cell? ⟨g, 1, none⟩ = some (.slice p n c) ∧ w'.cell? ⟨w.heap.size, 0, none⟩ = some (.int .i64 x.birth) ∧ w'.cell? ⟨w.heap.size, 1, none⟩ = some (.int .i64 x.id) ∧ w'.cell? ⟨w.heap.size, 2, none⟩ = some (.int .i64 x.state) ∧ w'.cell? ⟨w.heap.size, 3, none⟩ = some (.int .i64 x.last) ∧ w'.cell? ⟨w.heap.size, 4, none⟩ = some (.int .i64 x.next)) w8)
    try dsimp only at hS8
    clear k8 R7 hsrc k47 hS7 k7 hS k6 nX
    refine hK _ _ (fun _ => hS8) ?_
    clear hK K
    (try simp only [Act.put, List.setIfInBounds_toArray, List.set_cons_zero, List.set_cons_succ])
    refine wpAnyZ_one 8 rfl (by kernel_rfl) (fun K hK => ?_)
    go_simp
    refine hK _ _ (fun _ => hS8) ?_
    clear hK K
    (try simp only [Act.put, List.setIfInBounds_toArray, List.set_cons_zero, List.set_cons_succ])
    refine wpAnyZ_one 9 rfl (by kernel_rfl) (fun K hK => ?_)
    go_simp
    refine hK _ _ (fun _ => hS8) ?_
    clear hK K
    (try simp only [Act.put, List.setIfInBounds_toArray, List.set_cons_zero, List.set_cons_succ])
    refine wpAnyZ_one 10 rfl (by kernel_rfl) (fun K hK => ?_)
    go_simp
    refine hK _ _ (fun h => absurd rfl h) ?_
    clear hK K
    (try simp only [Act.put, List.setIfInBounds_toArray, List.set_cons_zero, List.set_cons_succ])
    refine wpAnyZ_done (by kernel_rfl) ?_ _
    obtain ⟨w9, hw9⟩ : ∃ wx, wx = w8.setCell ⟨g, 1, none⟩ (.slice p' (L.length + 1) c') := ⟨_, rfl⟩
    rw [← hw9] at HFIN
    rw [← hw9]
    clear hw9 hS8 c1 f1 hlL
    go_wp2
    go_ret
    exact ⟨_, by rw [HE.out.1]; rfl, HFIN.out.1, HFIN.out.2.1, HFIN.out.2.2⟩
theorem rt_set {w w6 : World} {g : Nat} {m : Int} {gl n c : Nat} {S L : List RowR} {x y : RowR} {k : Nat} (kw : Kept [] w w6) (B : Blk w g 63 [.int .i64 m, .slice (some ⟨gl, 0, none⟩) n c]) (R : Rw w 0 (.slice (some ⟨gl, 0, none⟩) n c) L) (pm : S.Perm L) (ok : OkT m S) (hvg : ∀ y, (Value.slice (some ⟨gl, 0, none⟩) n c).ownBlock = some y → y ≠ g) (hp : setT S x = setL S x) (hk : L[k]? = some y) (hb : y.birth = x.birth) :
    Rt (setRow w6 gl (k * 5) x) g (g :: (Value.slice (some ⟨gl, 0, none⟩) n c).ownBlock.toList) m (setT S x) ∧ Kept (g :: (Value.slice (some ⟨gl, 0, none⟩) n c).ownBlock.toList) w (setRow w6 gl (k * 5) x) := by
  obtain ⟨r, k7⟩ := (R.kept kw (by simp)).set (List.getElem?_eq_some_iff.1 hk).1 x
  have hg : gl ≠ g := hvg gl rfl
  refine ⟨⟨_, L.set k x, (B.kept kw (by simp)).kept k7 (by simp; omega), r, ?_, ok.set x, rfl, hvg⟩, (kw.mono (T := g :: (Value.slice (some ⟨gl, 0, none⟩) n c).ownBlock.toList) (by simp)).trans k7 (fun y hy => .inl (by simp at hy; simp [Value.ownBlock, hy]))⟩
  rw [hp, ← setL_at (ok.dif.perm pm) hk hb]
  exact pm.map _
set_option maxRecDepth 20000 in
set_option maxHeartbeats 1600000 in
theorem rSet {g : Nat} {F : List Nat} {m : Int} {S : List RowR} (x : RowR) (w : World) (h : Rt w g F m S) : Calls Try.prog 26 #[.pointer (some ⟨g, 0, none⟩), x.v] w fun e w' => ∃ F', e = .returned (.int .i64 (setE S x)) ∧ Rt w' g F' m (setT S x) ∧ Fr w F F' ∧ Kept F w w' := by
  obtain ⟨v, L, B, R, pm, ok, hF, hvg⟩ := h
  subst hF
  have HFB := @hideH _ (findB_perm ok.dif pm x.birth)
  have HFI := @hideH _ (findI_perm ok.dif pm x.id)
  have HPL := @hideH _ pm.length_eq
  have HOK := @hideH _ ok
  have HPM := @hideH _ pm
  obtain ⟨inf, hin1, hin2, hin3, hin4⟩ := info_parts3 (show (Try.prog.info? 24).map (fun i => (i.zero, i.size, i.bytes)) = some (some (.agg #[.int .i64 0, .int .i64 0, .int .i64 0, .int .i64 0, .int .i64 0]), 5, 40) by kernel_rfl)
  have HI := @hideH _ (And.intro hin1 (And.intro hin2 (And.intro hin3 hin4)))
  clear hin1 hin2 hin3 hin4
  obtain ⟨w1, hw1⟩ : ∃ wx, wx = w.alloc (.cells #[.int .i64 x.birth, .int .i64 x.id, .int .i64 x.state, .int .i64 x.last, .int .i64 x.next] 24) := ⟨_, rfl⟩
  have kw1 : Kept [] w w1 := by rw [hw1]; exact (Kept.refl [] w).alloc _
  have X : Blk w1 w.heap.size 24 x.cs := by rw [hw1]; exact Blk.new w _ _
  have HX := @hideH _ X
  have HK1 := @hideH _ kw1
  have HB := @hideH _ (B.kept kw1 (by simp))
  have HR := @hideH _ (R.kept kw1 (by simp))
  have HRt := @hideH _ (show ∀ w', Kept [] w w' → Rt w' g (g :: v.ownBlock.toList) m S from fun w' k => ⟨v, L, B.kept k (by simp), R.kept k (by simp), pm, ok, rfl, hvg⟩)
  have HVG := @hideH _ hvg
  have H0 := @hideH _ (And.intro B R)
  have HLT := @hideH _ (And.intro B.lt (fun y (hy : v.ownBlock = some y) => (R.lt hy).2))
  have q := rRight x w1
  unfold RowR.v at q
  have HQ := @hideH _ q
  clear B R q X kw1 pm ok hvg
  show Calls Try.prog 26 #[.pointer (some ⟨g, 0, none⟩), .agg #[.int .i64 x.birth, .int .i64 x.id, .int .i64 x.state, .int .i64 x.last, .int .i64 x.next]] w _
  have z0 := HX.out.cell (j := 0) rfl
  have z1 := HX.out.cell (j := 1) rfl
  have z2 := HX.out.cell (j := 2) rfl
  have z3 := HX.out.cell (j := 3) rfl
  have z4 := HX.out.cell (j := 4) rfl
  go_enter Try.func26, Try.ntmps26
  go_upto_region 1 with fail
  rw [← hw1]
  clear hw1
  go_wp2_with fail
  refine HQ.out.mono ?_
  clear HQ
  rintro e w2 ⟨rfl, k2⟩
  by_cases hr : rightR x
  rotate_left
  · have HE := @hideH _ (set_range (l := S) hr)
    rw [decide_eq_false hr]
    have HK2 := @hideH _ (HK1.out.then k2)
    clear k2
    go_wp2
    go_ret
    exact ⟨_, by rw [HE.out.1]; rfl, by rw [HE.out.2]; exact HRt.out _ HK2.out, Fr.refl _ _, HK2.out.mono (by simp)⟩
  rw [decide_eq_true hr]
  have HRI := @hideH _ hr
  clear hr
  replace z0 := k2.cell z0 (by simp)
  replace z1 := k2.cell z1 (by simp)
  replace z2 := k2.cell z2 (by simp)
  replace z3 := k2.cell z3 (by simp)
  replace z4 := k2.cell z4 (by simp)
  have HB2 := @hideH _ (HB.out.kept k2 (by simp))
  have HR2 := @hideH _ (HR.out.kept k2 (by simp))
  have HK2 := @hideH _ (HK1.out.then k2)
  have HA := @hideH _ (rAt x.birth w2 HB2.out HR2.out)
  obtain ⟨p, c, hv⟩ := HR2.out.shape
  subst hv
  obtain ⟨n, hn⟩ : ∃ n, n = L.length := ⟨_, rfl⟩
  have HN := @hideH _ (And.intro hn HR2.out.len)
  have B2 := HB2.out
  rw [← hn] at B2
  have c1 := B2.cell (j := 1) rfl
  clear B2 hn
  go_wp2_with fail
  refine HA.out.mono ?_
  clear HA k2
  rintro e wx ⟨hwx, i, rfl, hi⟩
  rw [hwx]
  clear hwx wx
  rcases hi with ⟨rfl, he⟩ | ⟨k, y, rfl, hx, hb, he⟩
  · have HE := @hideH _ (set_none (l := S) HRI.out (by rw [HFB.out]; exact he))
    clear he
    go_wp2
    go_quiet (fail)
    go_wp2
    go_ret
    exact ⟨_, by rw [HE.out.1]; rfl, by rw [HE.out.2]; exact HRt.out _ (HK2.out.drewN' _), Fr.refl _ _, (HK2.out.drewN' _).mono (by simp)⟩
  · have hkn : k < n := by have := HN.out.1; have := (List.getElem?_eq_some_iff.1 hx).1; omega
    have hkl' : (k : Int) < (n : Int) := by omega
    have h0 : (0 : Int) ≤ (k : Int) := by omega
    have h0' : ¬ (k : Int) < (0 : Int) := by omega
    obtain ⟨gl, hp, -, -, ⟨d0, d1, d2, d3, d4⟩, -⟩ := HR2.out.at hx
    subst hp
    have HKX := @hideH _ (And.intro hx (And.intro hb he))
    clear hx hb he hkn
    by_cases hid : y.id = x.id
    rotate_left
    · have HE := @hideH _ (set_other (l := S) HRI.out (by rw [HFB.out]; exact HKX.out.2.2) hid)
      have hid' : (y.id != x.id) = true := by simpa using hid
      clear hid
      go_wp2
      go_quiet (fail)
      go_wp2
      go_ret
      exact ⟨_, by rw [HE.out.1]; rfl, by rw [HE.out.2]; exact HRt.out _ (HK2.out.drewN' _), Fr.refl _ _, (HK2.out.drewN' _).mono (by simp)⟩
    have HE := @hideH _ (set_ok (l := S) HRI.out (by rw [HFB.out]; exact HKX.out.2.2) hid)
    have hid' : (y.id != x.id) = false := by simpa using hid
    clear hid
    go_upto_region 4 with fail
    go_quiet (fail)
    go_upto_region 6 with fail
    obtain ⟨w6, hw6⟩ : ∃ wx, wx = (w2.drewN nq).drew := ⟨_, rfl⟩
    have k6 : Kept [] w2 w6 := by rw [hw6]; exact ((Kept.refl [] w2).drewN' _).drew
    have hS : (fun w' => w'.cell? ⟨g, 1, none⟩ = some (.slice (some ⟨gl, 0, none⟩) n c) ∧ w'.cell? ⟨w.heap.size, 0, none⟩ = some (.int .i64 x.birth) ∧ w'.cell? ⟨w.heap.size, 1, none⟩ = some (.int .i64 x.id) ∧ w'.cell? ⟨w.heap.size, 2, none⟩ = some (.int .i64 x.state) ∧ w'.cell? ⟨w.heap.size, 3, none⟩ = some (.int .i64 x.last) ∧ w'.cell? ⟨w.heap.size, 4, none⟩ = some (.int .i64 x.next)) w6 := ⟨k6.cell c1 (by simp), k6.cell z0 (by simp), k6.cell z1 (by simp), k6.cell z2 (by simp), k6.cell z3 (by simp), k6.cell z4 (by simp)⟩
    try dsimp only at hS
    refine wp_region_late (fun w' => w'.cell? ⟨g, 1, none⟩ = some (.slice (some ⟨gl, 0, none⟩) n c) ∧ w'.cell? ⟨w.heap.size, 0, none⟩ = some (.int .i64 x.birth) ∧ w'.cell? ⟨w.heap.size, 1, none⟩ = some (.int .i64 x.id) ∧ w'.cell? ⟨w.heap.size, 2, none⟩ = some (.int .i64 x.state) ∧ w'.cell? ⟨w.heap.size, 3, none⟩ = some (.int .i64 x.last) ∧ w'.cell? ⟨w.heap.size, 4, none⟩ = some (.int .i64 x.next)) 7 (by kernel_rfl) ?_
    rw [← hw6]
    clear hw6 c1 z0 z1 z2 z3 z4 d0 d1 d2 d3 d4
    obtain ⟨gl', hp, -, -, ⟨d0, d1, d2, d3, d4⟩, f0, f1, f2, f3, f4⟩ := (HR2.out.kept k6 (by simp)).at HKX.out.1
    cases hp
    have HFIN := @hideH _ (rt_set (HK2.out.then k6) H0.out.1 H0.out.2 HPM.out HOK.out HVG.out HE.out.2 HKX.out.1 HKX.out.2.1)
    refine wpAnyZ_take 0 (v := ?va0) rfl (by kernel_rfl) (by kernel_rfl) (by kernel_rfl) (by kernel_rfl) (fun _ _ _ h => h) (by rfl) ?hya0 hS ?resta0
    case hya0 => (intro wx hSx; obtain ⟨s1, s2, s3, s4, s5, s6⟩ := hSx; go_simp; (try with_reducible rfl))
    (try simp only [Act.put, List.setIfInBounds_toArray, List.set_cons_zero, List.set_cons_succ])
    refine wpAnyZ_take 1 (v := ?va1) rfl (by kernel_rfl) (by kernel_rfl) (by kernel_rfl) (by kernel_rfl) (fun _ _ _ h => h) (by rfl) ?hya1 hS ?resta1
    case hya1 => (intro wx hSx; obtain ⟨s1, s2, s3, s4, s5, s6⟩ := hSx; go_simp; (try with_reducible rfl))
    (try simp only [Act.put, List.setIfInBounds_toArray, List.set_cons_zero, List.set_cons_succ])
    refine wpAnyZ_take 2 (v := ?va2) rfl (by kernel_rfl) (by kernel_rfl) (by kernel_rfl) (by kernel_rfl) (fun _ _ _ h => h) (by rfl) ?hya2 hS ?resta2
    case hya2 => (intro wx hSx; obtain ⟨s1, s2, s3, s4, s5, s6⟩ := hSx; go_simp; (try with_reducible rfl))
    (try simp only [Act.put, List.setIfInBounds_toArray, List.set_cons_zero, List.set_cons_succ])
    refine wpAnyZ_take 3 (v := ?va3) rfl (by kernel_rfl) (by kernel_rfl) (by kernel_rfl) (by kernel_rfl) (fun _ _ _ h => h) (by rfl) ?hya3 hS ?resta3
    case hya3 => (intro wx hSx; obtain ⟨s1, s2, s3, s4, s5, s6⟩ := hSx; go_simp; (try with_reducible rfl))
    (try simp only [Act.put, List.setIfInBounds_toArray, List.set_cons_zero, List.set_cons_succ])
    refine wpAnyZ_take 4 (v := ?va4) rfl (by kernel_rfl) (by kernel_rfl) (by kernel_rfl) (by kernel_rfl) (fun _ _ _ h => h) (by rfl) ?hya4 hS ?resta4
    case hya4 => (intro wx hSx; obtain ⟨s1, s2, s3, s4, s5, s6⟩ := hSx; go_simp; (try with_reducible rfl))
    (try simp only [Act.put, List.setIfInBounds_toArray, List.set_cons_zero, List.set_cons_succ])
    refine wpAnyZ_take 5 (v := ?va5) rfl (by kernel_rfl) (by kernel_rfl) (by kernel_rfl) (by kernel_rfl) (fun _ _ _ h => h) (by rfl) ?hya5 hS ?resta5
    case hya5 => (intro wx hSx; obtain ⟨s1, s2, s3, s4, s5, s6⟩ := hSx; go_simp; (try with_reducible rfl))
    (try simp only [Act.put, List.setIfInBounds_toArray, List.set_cons_zero, List.set_cons_succ])
    refine wpAnyZ_one 6 rfl (by kernel_rfl) (fun K hK => ?_)
    go_simp
    refine hK _ _ (fun _ => hS) ?_
    clear hK K
    (try simp only [Act.put, List.setIfInBounds_toArray, List.set_cons_zero, List.set_cons_succ])
    refine wpAnyZ_one 7 rfl (by kernel_rfl) (fun K hK => ?_)
    go_simp
    refine hK _ _ (fun h => absurd rfl h) ?_
    clear hK K
    (try simp only [Act.put, List.setIfInBounds_toArray, List.set_cons_zero, List.set_cons_succ])
    refine wpAnyZ_done (by kernel_rfl) ?_ _
    obtain ⟨w9, hw9⟩ : ∃ wx, wx = setRow w6 gl (k * 5) x := ⟨_, rfl⟩
    rw [← hw9] at HFIN
    unfold setRow at hw9
    rw [← hw9]
    clear hw9 hS d0 d1 d2 d3 d4 f0 f1 f2 f3 f4 k6
    go_wp2
    go_ret
    exact ⟨_, by rw [HE.out.1]; rfl, HFIN.out.1, Fr.refl _ _, HFIN.out.2⟩
end Go.Proofs.Ytbheegphhllogaa

