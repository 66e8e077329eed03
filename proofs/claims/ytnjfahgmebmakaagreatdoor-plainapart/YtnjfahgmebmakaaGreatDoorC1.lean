import Derived.WalkKit
import Derived.WalkSpells
import Derived.WalkLawsBesides
import Derived.Laws.CopyOwn
import Derived.Laws.AppendOwnNone
import Derived.Laws.BytesArg
import Derived.Deep.AppendLies
import Derived.Test.YtnjfahgmebmakaaGreatDoorRows
import Derived.ProofKit
import Derived.OpenShut
import Derived.JoinedCond
import Derived.SizedLaws
import Derived.Deep.Matrix
import Derived.Laws.Bits64
import Derived.Deep.Upon
import Derived.Deep.RegionHeld3
import Derived.Deep.QuietTactic
import Derived.BigQuiet
import Derived.Handy
import Derived.Deep.DeepCutAuto
import Derived.Deep.CutBlock
import Derived.Laws.StructEq
import Derived.ChangeKeysEq
/-
  OWN WORK. Words for byte slices in memory, whatever the program: 'Bs w v l' (the value v is a slice of the bytes l in w), 'Kept S w w'' (what was there is as it was, but for the blocks of S).
-/
namespace Go.Proofs.YtnjfahgmebmakaaGreatDoor
open Go.RowKit
set_option linter.unusedVariables false

/-- the cells that hold these bytes -/
def u8s (l : List UInt8) : List Value := l.map fun x => Value.int .u8 (x.toNat : Int)
theorem u8s_length (l : List UInt8) : (u8s l).length = l.length := by simp [u8s]
theorem u8s_append (a b : List UInt8) : u8s (a ++ b) = u8s a ++ u8s b := by simp [u8s]
theorem u8s_one (l : List UInt8) (u : Value) : u ∈ u8s l → u.oneCell' = true := by
  intro h
  obtain ⟨x, _, rfl⟩ := List.mem_map.1 h
  rfl
theorem u8s_at {l : List UInt8} {j : Nat} {u : Value} (h : (u8s l)[j]? = some u) : ∃ x, l[j]? = some x ∧ u = .int .u8 (x.toNat : Int) := by
  simp only [u8s, List.getElem?_map, Option.map_eq_some_iff] at h
  obtain ⟨x, hx, rfl⟩ := h
  exact ⟨x, hx, rfl⟩

structure Kept (S : List Nat) (w w' : World) : Prop where
  os : w'.os = w.os
  tape : w'.tape = w.tape
  output : w'.output = w.output
  size : w.heap.size ≤ w'.heap.size
  block : ∀ k, k < w.heap.size → k ∉ S → w'.heap[k]? = w.heap[k]?

theorem Kept.refl (S : List Nat) (w : World) : Kept S w w := ⟨rfl, rfl, rfl, Nat.le_refl _, fun _ _ _ => rfl⟩
theorem Kept.trans {S T : List Nat} {a b c : World} (h : Kept S a b) (k : Kept T b c) (hT : ∀ x ∈ T, x ∈ S ∨ a.heap.size ≤ x) : Kept S a c :=
  ⟨k.os.trans h.os, k.tape.trans h.tape, k.output.trans h.output, Nat.le_trans h.size k.size, fun x hx hn =>
    (k.block x (Nat.lt_of_lt_of_le hx h.size) (fun hm => by rcases hT x hm with h' | h'; exact hn h'; omega)).trans (h.block x hx hn)⟩
theorem Kept.then {S : List Nat} {a b c : World} (h : Kept S a b) (k : Kept [] b c) : Kept S a c := h.trans k (by simp)
theorem Kept.mono {S T : List Nat} {a b : World} (h : Kept S a b) (hT : ∀ x ∈ S, x ∈ T) : Kept T a b :=
  ⟨h.os, h.tape, h.output, h.size, fun x hx hn => h.block x hx fun hm => hn (hT x hm)⟩
theorem Kept.alloc {S : List Nat} {a w : World} (h : Kept S a w) (o : Obj) : Kept S a (w.alloc o) :=
  h.trans (T := []) ⟨rfl, rfl, rfl, by simp, fun x hx _ => Below.heap_alloc w o x hx⟩ (by simp)
theorem Kept.drew {S : List Nat} {a w : World} (h : Kept S a w) : Kept S a w.drew := ⟨h.os, h.tape, h.output, h.size, h.block⟩
theorem Kept.below {w w' : World} (h : Kept [] w w') : Below w.heap.size w w' := ⟨h.os, h.tape, h.output, h.size, fun x hx => h.block x hx (by simp)⟩
theorem Kept.ofBelow {w w' : World} (h : Below w.heap.size w w') : Kept [] w w' := ⟨h.os, h.tape, h.output, h.size, fun x hx _ => h.block x hx⟩
theorem Kept.ofGrown {w w' : World} {r : Option Nat} {S : List Nat} (h : w.grownBy w' r) (hr : ∀ k, r = some k → k < w.heap.size → k ∈ S) : Kept S w w' :=
  ⟨h.os, h.tape, h.output, h.size, fun x hx hn => h.block x hx fun e => hn (hr x e.symm hx)⟩
/-- a row of the call's own grew -/
theorem Kept.grown {S : List Nat} {a w w' : World} {r : Option Nat} (h : Kept S a w) (hg : w.grownBy w' r) (hr : ∀ k, r = some k → k ∈ S ∨ a.heap.size ≤ k) : Kept S a w' :=
  h.trans (T := r.toList) (Kept.ofGrown hg (by intro k e _; subst e; simp)) (by intro x hx; exact hr x (by simpa using hx))
theorem Kept.setCell {S : List Nat} {a w : World} (h : Kept S a w) {p : Addr} (hp : p.block ∈ S ∨ a.heap.size ≤ p.block) (u : Value) : Kept S a (w.setCell p u) :=
  h.trans (T := [p.block]) ⟨rfl, rfl, rfl, by simp, fun x hx hn => Below.heap_setCell w p u x (by simpa using hn)⟩ (by intro x hx; simp at hx; subst hx; exact hp)

theorem lt_of_cell {w : World} {a : Addr} {v : Value} (h : w.cell? a = some v) : a.block < w.heap.size := by
  rcases Nat.lt_or_ge a.block w.heap.size with hl | hl
  · exact hl
  · simp [World.cell?, Array.getElem?_eq_none hl] at h
theorem spot_of_cell {w : World} {a : Addr} {v : Value} (h : w.cell? a = some v) : a.spot = none := by
  unfold World.cell? at h
  split at h
  · split at h
    · cases h
    · rename_i hs; simpa using hs
  · cases h
theorem Kept.cell {S : List Nat} {w w' : World} (h : Kept S w w') {a : Addr} {v : Value} (hc : w.cell? a = some v) (hn : a.block ∉ S) : w'.cell? a = some v := by
  rw [World.cell?_of_block (h.block a.block (lt_of_cell hc) hn)]; exact hc
theorem add_block (a : Addr) (i : Nat) : (a.add i).block = a.block := by unfold Addr.add; split <;> rfl
theorem add_none {a : Addr} (h : a.spot = none) (i : Nat) : a.add i = ⟨a.block, a.off + i, none⟩ := by
  obtain ⟨b, o, s⟩ := a
  simp only at h; subst h
  unfold Addr.add; split <;> simp_all

theorem add_add (a : Addr) (k i : Nat) : (a.add k).add i = a.add (k + i) := by
  obtain ⟨b, o, s⟩ := a
  by_cases hk : k = 0
  · subst hk; simp [Addr.add]
  · by_cases hi : i = 0
    · subst hi; simp [Addr.add]
    · simp [Addr.add, hk, hi, Nat.add_assoc]

/-- THE VALUE v IS A SLICE OF THE BYTES l IN w. -/
def Bs (w : World) (v : Value) (l : List UInt8) : Prop :=
  ∃ (p : Option Addr) (c : Nat), v = .slice p l.length c ∧ l.length ≤ c ∧ c ≤ maxLen ∧ (p = none → c = 0) ∧
    ∀ a, p = some a → ∀ (i : Nat) x, l[i]? = some x → w.cell? (a.add i) = some (.int .u8 (x.toNat : Int))

/-- of one byte or more: where it lies -/
theorem Bs.pos {w : World} {v : Value} {l : List UInt8} (h : Bs w v l) (hl : 0 < l.length) :
    ∃ b o c, v = .slice (some ⟨b, o, none⟩) l.length c ∧ l.length ≤ c ∧ c ≤ maxLen ∧ b < w.heap.size ∧ ∀ (i : Nat) x, l[i]? = some x → w.cell? ⟨b, o + i, none⟩ = some (.int .u8 (x.toNat : Int)) := by
  obtain ⟨p, c, rfl, h1, h2, h3, h4⟩ := h
  cases p with
  | none => have := h3 rfl; omega
  | some a =>
    have hc := h4 a rfl 0 l[0] (List.getElem?_eq_getElem hl)
    have hs := spot_of_cell hc
    have hs' : a.spot = none := by
      unfold Addr.add at hs
      split at hs <;> simp_all
    have hb := lt_of_cell hc
    rw [add_block] at hb
    refine ⟨a.block, a.off, c, by obtain ⟨b, o, s⟩ := a; simp_all, h1, h2, hb, fun i x hx => ?_⟩
    rw [← add_none hs' i]
    exact h4 a rfl i x hx

theorem Bs.nil (w : World) : Bs w (.slice none 0 0) [] := ⟨none, 0, rfl, Nat.le_refl _, by simp [maxLen], fun _ => rfl, fun a h => (by cases h)⟩
theorem Bs.mk {w : World} {b o c : Nat} {l : List UInt8} (h1 : l.length ≤ c) (h2 : c ≤ maxLen) (h : ∀ (i : Nat) x, l[i]? = some x → w.cell? ⟨b, o + i, none⟩ = some (.int .u8 (x.toNat : Int))) : Bs w (.slice (some ⟨b, o, none⟩) l.length c) l :=
  ⟨_, c, rfl, h1, h2, fun e => (by cases e), fun a e i x hx => (by cases e; rw [add_none rfl]; exact h i x hx)⟩
/-- carried to a world in which its cells are as they were -/
theorem Bs.carry {w w' : World} {v : Value} {l : List UInt8} (h : Bs w v l) (hc : ∀ (a : Addr) (x : UInt8), w.cell? a = some (.int .u8 (x.toNat : Int)) → v.ownBlock = some a.block → w'.cell? a = some (.int .u8 (x.toNat : Int))) : Bs w' v l := by
  obtain ⟨p, c, rfl, h1, h2, h3, h4⟩ := h
  exact ⟨p, c, rfl, h1, h2, h3, fun a e i x hx => hc _ x (h4 a e i x hx) (by subst e; simp [Value.ownBlock, add_block])⟩
theorem Bs.kept {w w' : World} {v : Value} {l : List UInt8} (h : Bs w v l) (k : Kept [] w w') : Bs w' v l := h.carry fun a x hx _ => k.cell hx (by simp)
/-- block k holds one slice and nothing else: a box that no byte lies in -/
def Box (w : World) (k : Nat) : Prop := ∃ p n c t m, w.heap[k]? = some (.cells #[.slice p n c] t m)
theorem Bs.keptBox {w w' : World} {v : Value} {l : List UInt8} {S : List Nat} (h : Bs w v l) (k : Kept S w w') (hS : ∀ x ∈ S, Box w x ∨ w.heap.size ≤ x) : Bs w' v l := h.carry fun a x hx _ => k.cell hx fun hm => by
  rcases hS _ hm with ⟨p, n, c, t, m, hb⟩ | hb
  · simp only [World.cell?, hb] at hx
    split at hx
    · cases hx
    · rcases ha : a.off with _ | j
      · simp [ha] at hx
      · simp [ha] at hx
  · have := lt_of_cell hx; omega
/-- behind 'kept but for v's own elder rows': its own block is not among those let go -/
theorem Bs.keptOwn {w w' : World} {v : Value} {l : List UInt8} {S : List Nat} (h : Bs w v l) (k : Kept S w w') (hS : ∀ x, v.ownBlock = some x → x ∉ S) : Bs w' v l := h.carry fun a x hx ho => k.cell hx (hS _ ho)

/-- an owned row of bytes is a slice of them -/
theorem Bs.ofOwn {w : World} {base e : Nat} {v : Value} {n : Nat} {l : List UInt8} (h : w.ownsRow base e 1 v n (u8s l)) : Bs w v l := by
  have hn : n = l.length := by have := h.1; rw [u8s_length] at this; omega
  subst hn
  rcases h.2 with ⟨rfl, h0⟩ | ⟨g, cap, cur, rfl, _, hg, h1, h2, h3, h4⟩
  · have : l = [] := List.eq_nil_of_length_eq_zero h0
    subst this
    exact Bs.nil w
  · refine Bs.mk h1 h2 fun i x hx => ?_
    have hc := h.cells (g := g) rfl i (.int .u8 (x.toNat : Int)) (by simp [u8s, hx])
    rw [add_none rfl] at hc
    exact hc
theorem own_ge {w : World} {base e size : Nat} {v : Value} {n : Nat} {xs : List Value} (h : w.ownsRow base e size v n xs) (k : Nat) (hk : v.ownBlock = some k) : base ≤ k := (h.lt k hk).1

/-- 'string(b)' -/
theorem Bs.convert {P : Program} {w : World} {v : Value} {l : List UInt8} (h : Bs w v l) {src dst e : TypeId} (hs : P.underlying src = some (.slice e)) (he : P.underlying e = some (.int .u8)) (hd : P.underlying dst = some .string) :
    (convert src dst v).run P w = .ok (.string ⟨l.toArray⟩) w := by
  obtain ⟨p, c, rfl, h1, h2, h3, h4⟩ := h
  cases p with
  | none =>
    have hc := h3 rfl
    have : l = [] := List.eq_nil_of_length_eq_zero (by omega)
    subst this
    rw [run_convert_bytes_nil w src e hs he _ _ dst hd]
    rfl
  | some a =>
    have hl : (loadCells a l.length).run P w = .ok ((l.map fun x => (x.toNat : Int)).map (Value.int .u8)).toArray w := by
      have := run_loadCells_list (P := P) w a ((l.map fun x => (x.toNat : Int)).map (Value.int .u8)) (fun j v hj => by
        simp only [List.getElem?_map, Option.map_eq_some_iff] at hj
        obtain ⟨_, ⟨x, hx, rfl⟩, rfl⟩ := hj
        exact h4 a rfl j x hx)
      simpa using this
    rw [run_convert_bytes_string w src dst e _ _ c hs he hd, run_bytesToString w _ _ c _ hl, foldl_push_bytes]
    simp [ByteArray.empty, ByteArray.emptyWithCapacity, List.map_map]
    congr 1
    rw [show (List.map ((fun n => UInt8.ofNat n.toNat) ∘ fun x : UInt8 => (x.toNat : Int)) l) = l from by
      conv => rhs; rw [← List.map_id l]
      exact List.map_congr_left (fun x _ => by simp)]
    rfl

/-- 'b[:k]' and 'b[k:]' -/
theorem Bs.cut {P : Program} {w : World} {p : Option Addr} {c : Nat} {l : List UInt8} (h : Bs w (.slice p l.length c) l) {k : Nat} (hk : k ≤ l.length) :
    Bs w (.slice p k c) (l.take k) ∧ Bs w (.slice (if c = k then p else p.map (·.add k)) (l.length - k) (c - k)) (l.drop k) := by
  obtain ⟨p', c', e, h1, h2, h3, h4⟩ := h
  cases e
  refine ⟨⟨p, c, by simp [Nat.min_eq_left hk], by simp; omega, h2, h3, fun a e i x hx => h4 a e i x ?_⟩, ⟨(if c = k then p else p.map (·.add k)), c - k, by rw [List.length_drop], by simp; omega, by omega, ?_, ?_⟩⟩
  · rw [List.getElem?_take] at hx; split at hx
    · exact hx
    · cases hx
  · intro e
    by_cases hc : c = k
    · omega
    · rw [if_neg hc] at e
      have := h3 (by simpa using e)
      omega
  · intro a e i x hx
    have hi : i < l.length - k := by simpa using (List.getElem?_eq_some_iff.1 hx).1
    by_cases hc : c = k
    · omega
    · rw [if_neg hc] at e
      obtain ⟨a', rfl, rfl⟩ := Option.map_eq_some_iff.1 e
      rw [List.getElem?_drop] at hx
      have := h4 a' rfl (k + i) x hx
      have e2 : (a'.add k).add i = a'.add (k + i) := add_add a' k i
      rw [e2]; exact this

/-- an index into a constant text, where its run is known -/
theorem wpList_index_str {P : Program} {w : World} {ops : Array Oper} {rest : List Oper} {o : Oper} {a : Act} {Q : Exit → Act → World → Prop} (hgd : o.guard = none) (t : TypeId) (S : ByteArray) (x : Operand)
    (ho : o.op = .index t (.const (.string S)) x) (k : IntKind) (i : Int) (n : Int) (hx : a.eval x = .int k i) (hr : ∀ w, (Instr.index t (.string S) (.int k i)).run P w = .ok (.int .u8 n) w)
    (h : wpList P ops Q rest (a.put o.dst (.int .u8 n)) w) : wpList P ops Q (o :: rest) a w := by
  refine wpList_plain hgd fun K hK => ?_
  unfold Oper.wp
  have e : a.eval (.const (.string S)) = .string S := rfl
  simp [execOp, ho, hx, hr, e, Result.andThen]
  exact hK _ _ h
end Go.Proofs.YtnjfahgmebmakaaGreatDoor

/-
  OWN WORK. append, copy, make and the cuts of byte slices as laws for the walk, whatever the program.
-/
namespace Go.Proofs.YtnjfahgmebmakaaGreatDoor
open Go.RowKit
set_option linter.unusedVariables false

/-- 'append(out, b...)': out the call's own row of bytes, b any slice of bytes (nil too). -/
theorem wpList_append_bs {P : Program} {w : World} {ops : Array Oper} {rest : List Oper} {o : Oper} {a : Act} {Q : Exit → Act → World → Prop} (hgd : o.guard = none) (s x : Operand) (t : TypeId)
    (ho : o.op = .call { callee := .builtin .append, args := #[s, x], argTypes := #[t, t] }) (base : Nat) (e : TypeId) (hu : P.underlying t = some (.slice e))
    (hinf : (P.info? e).map (fun i => (i.zero, i.size, i.bytes)) = some (some (.int .u8 0), 1, 1))
    (v : Value) (n : Nat) (xs : List Value) (hs : a.eval s = v) (hown : w.ownsRow base e 1 v n xs) (sv : Value) (l : List UInt8) (hx : a.eval x = sv) (hb : Bs w sv l)
    (hroom : n + l.length ≤ 140737488355328) (hbase : base ≤ w.heap.size)
    (h : ∀ v' w', w'.ownsRow base e 1 v' (n + l.length) (xs ++ u8s l) → w.grownBy w' v.ownBlock → (v'.ownBlock = v.ownBlock ∨ v'.ownBlock = some w.heap.size) → wpList P ops Q rest (a.put o.dst v') w') :
    wpList P ops Q (o :: rest) a w := by
  obtain ⟨i, hi, hz, hsz, hby⟩ := info_parts hinf
  obtain ⟨p, c, rfl, h1, h2, h3, h4⟩ := hb
  cases p with
  | none =>
    have hc := h3 rfl
    subst hc
    obtain rfl : l = [] := List.eq_nil_of_length_eq_zero (by omega)
    refine wpList_append_own_none hgd s x t ho base e i 1 hu hi v n xs hs hown hx ?_
    exact h v w (by simpa [u8s] using hown) (World.grownBy.refl _ _) (.inl rfl)
  | some ad =>
    refine wpList_plain hgd fun K hK => ?_
    obtain ⟨v', w', hr, k1, k2, _, k4⟩ := run_append_own_at (P := P) w base t o.type e i (.int .u8 0) 1 1 hu hi hz hsz hby rfl (by decide) v n xs hown ad l.length c (u8s l) (by simp [u8s])
      (fun j u hj => by obtain ⟨y, hy, rfl⟩ := u8s_at hj; exact h4 ad rfl j y hy) (u8s_one l) (by unfold maxLen; omega) (by omega) hbase
    unfold Oper.wp execOp
    simp only [ho, resolve, invoke, builtin, Sem.run_bind, Sem.run_pure, Result.andThen_ok, List.map_toArray, List.map_cons, List.map_nil, hs, hx, hr]
    exact hK _ _ (h v' w' k1 k2 k4)

/-- the same at a step of a region that draws its order -/
theorem step_append_bs {P : Program} {w : World} {ops : Array Oper} {o : Oper} {a : Act} {K : Act → World → Prop} {Q : Exit → Act → World → Prop} {E : Prop} (hgd : o.guard = none) (s x : Operand) (t : TypeId)
    (ho : o.op = .call { callee := .builtin .append, args := #[s, x], argTypes := #[t, t] }) (base : Nat) (e : TypeId) (hu : P.underlying t = some (.slice e))
    (hinf : (P.info? e).map (fun i => (i.zero, i.size, i.bytes)) = some (some (.int .u8 0), 1, 1))
    (v : Value) (n : Nat) (xs : List Value) (hs : a.eval s = v) (hown : w.ownsRow base e 1 v n xs) (sv : Value) (l : List UInt8) (hx : a.eval x = sv) (hb : Bs w sv l)
    (hroom : n + l.length ≤ 140737488355328) (hbase : base ≤ w.heap.size)
    (h : ∀ v' w', w'.ownsRow base e 1 v' (n + l.length) (xs ++ u8s l) → w.grownBy w' v.ownBlock → (v'.ownBlock = v.ownBlock ∨ v'.ownBlock = some w.heap.size) → K (a.put o.dst v') w') :
    if Region.wanted o (yielded ops a.tmps) = true then Oper.wp P o a w K Q else E := by
  have hw : Region.wanted o (yielded ops a.tmps) = true := by simp [Region.wanted, hgd]
  rw [if_pos hw]
  obtain ⟨i, hi, hz, hsz, hby⟩ := info_parts hinf
  obtain ⟨p, c, rfl, h1, h2, h3, h4⟩ := hb
  cases p with
  | none =>
    have hc := h3 rfl
    subst hc
    obtain rfl : l = [] := List.eq_nil_of_length_eq_zero (by omega)
    have hrun := run_append_owned_none (P := P) (w := w) base t o.type e i 1 hu hi v n xs hown
    have hx' : a.eval x = .slice none 0 0 := hx
    unfold Oper.wp execOp
    simp only [ho, resolve, invoke, builtin, Sem.run_bind, Sem.run_pure, Result.andThen_ok, List.map_toArray, List.map_cons, List.map_nil, hs, hx', hrun]
    exact h v w (by simpa [u8s] using hown) (World.grownBy.refl _ _) (.inl rfl)
  | some ad =>
    obtain ⟨v', w', hr, k1, k2, _, k4⟩ := run_append_own_at (P := P) w base t o.type e i (.int .u8 0) 1 1 hu hi hz hsz hby rfl (by decide) v n xs hown ad l.length c (u8s l) (by simp [u8s])
      (fun j u hj => by obtain ⟨y, hy, rfl⟩ := u8s_at hj; exact h4 ad rfl j y hy) (u8s_one l) (by unfold maxLen; omega) (by omega) hbase
    unfold Oper.wp execOp
    simp only [ho, resolve, invoke, builtin, Sem.run_bind, Sem.run_pure, Result.andThen_ok, List.map_toArray, List.map_cons, List.map_nil, hs, hx, hr]
    exact h v' w' k1 k2 k4
/-- 'copy(out, b)': out the call's own row, as long as b. -/
theorem wpList_copy_bs {P : Program} {w : World} {ops : Array Oper} {rest : List Oper} {o : Oper} {a : Act} {Q : Exit → Act → World → Prop} (hgd : o.guard = none) (d s : Operand) (t : TypeId)
    (ho : o.op = .call { callee := .builtin .copy, args := #[d, s], argTypes := #[t, t] }) (base : Nat) (e : TypeId) (hu : P.underlying t = some (.slice e))
    (hsz : (P.info? e).map (·.size) = some 1)
    (v : Value) (n : Nat) (xs : List Value) (hd : a.eval d = v) (hown : w.ownsRow base e 1 v n xs) (sv : Value) (l : List UInt8) (hx : a.eval s = sv) (hb : Bs w sv l) (hn : l.length = n)
    (h : ∀ w', w'.ownsRow base e 1 v n (u8s l) → w.grownBy w' v.ownBlock → wpList P ops Q rest (a.put o.dst (goInt n)) w') : wpList P ops Q (o :: rest) a w := by
  subst hn
  obtain ⟨p, c, rfl, h1, h2, h3, h4⟩ := hb
  by_cases h0 : l.length = 0
  · obtain rfl : l = [] := List.eq_nil_of_length_eq_zero h0
    have hxs : xs = [] := List.eq_nil_of_length_eq_zero (by simpa using hown.1)
    subst hxs
    obtain ⟨dp, dc, rfl⟩ : ∃ dp dc, v = .slice dp 0 dc := by
      rcases hown.2 with ⟨rfl, _⟩ | ⟨g, cap, cur, rfl, _⟩
      · exact ⟨_, _, rfl⟩
      · exact ⟨_, _, rfl⟩
    refine wpList_copy_nothing hgd d s t t ho e hu hsz dp p 0 dc 0 c hd hx rfl ?_
    exact h w hown (World.grownBy.refl _ _)
  · cases p with
    | none => have := h3 rfl; omega
    | some ad =>
      rcases hown.2 with ⟨rfl, hz⟩ | ⟨g, cap, cur, rfl, hbg, hg, hnc, hcm, hcs, htk⟩
      · omega
      · refine wpList_copy_own hgd d s t t ho e hu hsz g 0 l.length cap ad l.length c hd hx cur e hg (u8s l) (by simp [u8s]) (fun j u hj => by obtain ⟨y, hy, rfl⟩ := u8s_at hj; exact h4 ad rfl j y hy) (by rw [u8s_length]; omega) (u8s_one l) ?_
        rw [u8s_length]
        have hgl : g < w.heap.size := (Array.getElem?_eq_some_iff.1 hg).1
        refine h _ ⟨by simp [u8s], .inr ⟨g, cap, _, rfl, hbg, setRow_heap w g cur _ e (0, 0) hg, hnc, hcm, ?_, ?_⟩⟩ ⟨rfl, rfl, rfl, by simp [World.setRow], fun k hk hne => setRow_other w g k _ (by intro e2; subst e2; exact hne rfl)⟩
        · simp [u8s_length]; omega
        · simp
          rw [List.take_append_of_le_length (by rw [u8s_length]; omega)]
          exact List.take_of_length_le (by rw [u8s_length]; omega)

/-- 'make([]byte, n, c)' -/
theorem run_make_bs {P : Program} (w : World) (t e : TypeId) (hu : P.underlying t = some (.slice e)) (hinf : (P.info? e).map (fun i => (i.zero, i.size, i.bytes)) = some (some (.int .u8 0), 1, 1))
    (n c : Nat) (hnc : n ≤ c) (hc : c ≤ 281474976710656) :
    (Instr.makeSlice t (.int .i64 (n : Int)) (.int .i64 (c : Int))).run P w = .ok (.slice (some ⟨w.heap.size, 0, none⟩) n c) (w.alloc (.cells (madeCells #[.int .u8 0] c) e)) := by
  obtain ⟨i, hi, hz, hsz, hby⟩ := info_parts hinf
  have h := run_make (P := P) w t e i (.int .u8 0) hu hi hz .i64 .i64 (n : Int) (c : Int) (by omega) (by omega) (by rw [hby]; omega) (by omega)
  rw [h, hsz]
  simp [Value.cells]
theorem own_made (w : World) (e base n c : Nat) (hb : base ≤ w.heap.size) (hnc : n ≤ c) (hc : c ≤ maxLen) :
    (w.alloc (.cells (madeCells #[.int .u8 0] c) e)).ownsRow base e 1 (.slice (some ⟨w.heap.size, 0, none⟩) n c) n (u8s (List.replicate n 0)) := by
  refine ⟨by simp [u8s], .inr ⟨w.heap.size, c, _, rfl, hb, heap_alloc_new w _, hnc, hc, by simp [size_madeCells], ?_⟩⟩
  rw [toList_madeCells_one]
  simp [u8s, Nat.min_eq_left hnc]
/-- one byte in a block of its own, as 'append(out, x)' lays it -/
theorem Bs.one (w : World) (e : TypeId) (n : Int) (y : UInt8) (hn : n = (y.toNat : Int)) : Bs (w.alloc (.cells #[.int .u8 n] e)) (.slice (some ⟨w.heap.size, 0, none⟩) 1 1) [y] := by
  subst hn
  exact Bs.mk (l := [y]) (by simp) (by simp [maxLen]) fun i x hx => by
    rcases i with _ | i
    · simp at hx; subst hx
      have := World.news_of_block (heap_alloc_new w (.cells #[.int .u8 (y.toNat : Int)] e)) 0 (.int .u8 (y.toNat : Int)) (by simp)
      rwa [add_none rfl] at this
    · simp at hx
/-- a literal's bytes in a block of their own -/
theorem Bs.lit (w : World) (e : TypeId) (l : List UInt8) (cs : Array Value) (hcs : cs = (u8s l).toArray) (hl : l.length ≤ maxLen) : Bs (w.alloc (.cells cs e)) (.slice (some ⟨w.heap.size, 0, none⟩) l.length l.length) l := by
  subst hcs
  exact Bs.mk (Nat.le_refl _) hl fun i x hx => by
    have := World.news_of_block (heap_alloc_new w (.cells (u8s l).toArray e)) i (.int .u8 (x.toNat : Int)) (by simp [u8s, hx])
    rwa [add_none rfl] at this
theorem Bs.litAt (w : World) (e : TypeId) (l : List UInt8) (cs : Array Value) (hcs : cs = (u8s l).toArray) (hl : l.length ≤ maxLen) (H : Nat) (hH : w.heap.size = H) : Bs (w.alloc (.cells cs e)) (.slice (some ⟨H, 0, none⟩) l.length l.length) l := by
  subst hH
  exact Bs.lit w e l cs hcs hl
theorem own_of_lit (w : World) (e base : Nat) (l : List UInt8) (hb : base ≤ w.heap.size) (hl : l.length ≤ maxLen) : (w.alloc (.cells (u8s l).toArray e)).ownsRow base e 1 (.slice (some ⟨w.heap.size, 0, none⟩) l.length l.length) l.length (u8s l) :=
  ⟨by simp [u8s], .inr ⟨w.heap.size, l.length, _, rfl, hb, heap_alloc_new w _, Nat.le_refl _, hl, by simp [u8s], by simp only [Nat.mul_one]; exact List.take_of_length_le (by simp [u8s])⟩⟩
end Go.Proofs.YtnjfahgmebmakaaGreatDoor

/-
  OWN WORK. The cuts 'b[:k]', 'b[k:]' of a slice of bytes, run; a reader's box.
-/
namespace Go.Proofs.YtnjfahgmebmakaaGreatDoor
open Go.RowKit
set_option linter.unusedVariables false

theorem run_cut_to {P : Program} (w : World) (t e : TypeId) (hu : P.underlying t = some (.slice e)) (hsz : (P.info? e).map (·.size) = some 1) (p : Option Addr) (n c k : Nat) (hk : k ≤ c) :
    (Instr.slice t (.slice p n c) none (some (.int .i64 (k : Int))) none).run P w = .ok (.slice p k c) w := by
  obtain ⟨i, hi, hs⟩ := Option.map_eq_some_iff.1 hsz
  have e0 : Option.map (fun x : Addr => x.add 0) p = p := by cases p <;> simp [Addr.add]
  simp [Instr.slice, run_underlying hu, Instr.sliceBounds, run_sliceBound, sizeOf, typeInfo, hi, e0, (by omega : (k : Int) ≤ (c : Int))]
theorem run_cut_from {P : Program} (w : World) (t e : TypeId) (hu : P.underlying t = some (.slice e)) (hsz : (P.info? e).map (·.size) = some 1) (p : Option Addr) (n c k : Nat) (hk : k ≤ n) :
    (Instr.slice t (.slice p n c) (some (.int .i64 (k : Int))) none none).run P w = .ok (.slice (if c = k then p else p.map (·.add k)) (n - k) (c - k)) w := by
  obtain ⟨i, hi, hs⟩ := Option.map_eq_some_iff.1 hsz
  simp [Instr.slice, run_underlying hu, Instr.sliceBounds, run_sliceBound, sizeOf, typeInfo, hi, hs, (by omega : (k : Int) ≤ (n : Int))]

theorem run_cut_mid {P : Program} (w : World) (t e : TypeId) (hu : P.underlying t = some (.slice e)) (hsz : (P.info? e).map (·.size) = some 1) (p : Option Addr) (n c k m : Nat) (hm : k + m ≤ c) :
    (Instr.slice t (.slice p n c) (some (.int .i64 (k : Int))) (some (.int .i64 ((k : Int) + (m : Int)))) none).run P w = .ok (.slice (if c = k then p else p.map (·.add k)) m (c - k)) w := by
  obtain ⟨i, hi, hs⟩ := Option.map_eq_some_iff.1 hsz
  have e1 : ((k : Int) + (m : Int)).toNat = k + m := by omega
  simp [Instr.slice, run_underlying hu, Instr.sliceBounds, run_sliceBound, sizeOf, typeInfo, hi, hs, e1, (by omega : (k : Int) + (m : Int) ≤ (c : Int)), (by omega : 0 ≤ (k : Int) + (m : Int))]
  rw [run_sliceBound (P := P) w .i64 (k : Int) (k + m) .sliceB (by omega) (by omega)]
  simp [Result.andThen]
theorem Bs.heap {w w' : World} {v : Value} {l : List UInt8} (hw : w'.heap = w.heap) (h : Bs w v l) : Bs w' v l := h.carry fun a x hx _ => by rw [World.cell?_of_block (w := w) (by rw [hw])]; exact hx
/-- 'b[k:k+m]' -/
theorem Bs.mid {P : Program} (t e : TypeId) (hu : P.underlying t = some (.slice e)) (hsz : (P.info? e).map (·.size) = some 1) {w : World} {p : Option Addr} {n c : Nat} {l : List UInt8} (h : Bs w (.slice p n c) l) (k m : Nat) (hk : k + m ≤ n) :
    ∃ p2, (∀ u, (Instr.slice t (.slice p n c) (some (.int .i64 (k : Int))) (some (.int .i64 ((k : Int) + (m : Int)))) none).run P u = .ok (.slice p2 m (c - k)) u) ∧ Bs w (.slice p2 m (c - k)) ((l.drop k).take m) := by
  obtain ⟨p', c', e', h1, h2, -⟩ := id h
  cases e'
  have hc := (h.cut (P := P) (k := k) (by omega)).2
  have hd := (Bs.cut (P := P) (c := c - k) (l := l.drop k) (by simpa using hc) (k := m) (by simp; omega)).1
  exact ⟨_, fun u => run_cut_mid u t e hu hsz p _ c k m (by omega), hd⟩
/-- both cuts of a slice of bytes, with what they hold -/
theorem Bs.cuts {P : Program} (t e : TypeId) (hu : P.underlying t = some (.slice e)) (hsz : (P.info? e).map (·.size) = some 1) {w : World} {p : Option Addr} {n c : Nat} {l : List UInt8} (h : Bs w (.slice p n c) l) (k : Nat) (hk : k ≤ n) :
    ∃ p2, (∀ u, (Instr.slice t (.slice p n c) none (some (.int .i64 (k : Int))) none).run P u = .ok (.slice p k c) u) ∧
      (∀ u, (Instr.slice t (.slice p n c) (some (.int .i64 (k : Int))) none none).run P u = .ok (.slice p2 (n - k) (c - k)) u) ∧ Bs w (.slice p k c) (l.take k) ∧ Bs w (.slice p2 (n - k) (c - k)) (l.drop k) := by
  obtain ⟨p', c', e', h1, h2, -⟩ := id h
  cases e'
  have hc := h.cut (P := P) hk
  exact ⟨_, fun u => run_cut_to u t e hu hsz p _ c k (by omega), fun u => run_cut_from u t e hu hsz p _ c k hk, hc.1, hc.2⟩

/-- A READER: block g holds one slice, of the bytes l that are left. -/
def Rd (t : TypeId) (w : World) (g : Nat) (l : List UInt8) : Prop :=
  ∃ p n c, w.heap[g]? = some (.cells #[.slice p n c] t (0, 0)) ∧ Bs w (.slice p n c) l
theorem Rd.box {t : TypeId} {w : World} {g : Nat} {l : List UInt8} (h : Rd t w g l) : Box w g := by
  obtain ⟨p, n, c, h1, _⟩ := h
  exact ⟨p, n, c, t, _, h1⟩
theorem Rd.lt {t : TypeId} {w : World} {g : Nat} {l : List UInt8} (h : Rd t w g l) : g < w.heap.size := by
  obtain ⟨p, n, c, h1, _⟩ := h
  exact (Array.getElem?_eq_some_iff.1 h1).1
/-- a reader is as it was where neither it nor a byte was touched -/
theorem Rd.kept {t : TypeId} {w w' : World} {g : Nat} {l : List UInt8} {S : List Nat} (h : Rd t w g l) (k : Kept S w w') (hS : ∀ x ∈ S, x ≠ g ∧ (Box w x ∨ w.heap.size ≤ x)) : Rd t w' g l := by
  have hl := h.lt
  obtain ⟨p, n, c, h1, h2⟩ := h
  exact ⟨p, n, c, (k.block g hl (fun hm => (hS g hm).1 rfl)).trans h1, h2.keptBox k fun x hx => (hS x hx).2⟩
theorem Box.kept {w w' : World} {x : Nat} {S : List Nat} (h : Box w x) (k : Kept S w w') (hn : x ∉ S) : Box w' x := by
  obtain ⟨p, n, c, t, m, hb⟩ := h
  exact ⟨p, n, c, t, m, (k.block x (Array.getElem?_eq_some_iff.1 hb).1 hn).trans hb⟩
theorem Rd.fresh {t : TypeId} {w : World} {p : Option Addr} {n c : Nat} {l : List UInt8} (h : Bs w (.slice p n c) l) : Rd t (w.alloc (.cells #[.slice p n c] t)) w.heap.size l :=
  ⟨p, n, c, heap_alloc_new w _, h.kept ((Kept.refl [] w).alloc _)⟩
theorem Rd.cell {t : TypeId} {w : World} {g : Nat} {p : Option Addr} {n c : Nat} (h : w.heap[g]? = some (.cells #[.slice p n c] t (0, 0))) : w.cell? ⟨g, 0, none⟩ = some (.slice p n c) ∧ w.frozen? ⟨g, 0, none⟩ = false :=
  ⟨cell_of_one h, free_of_one h⟩
/-- the reader's box is written: the new slice in it -/
theorem Rd.set {t : TypeId} {w : World} {g : Nat} {p p' : Option Addr} {n c n' c' : Nat} {l' : List UInt8} (h : w.heap[g]? = some (.cells #[.slice p n c] t (0, 0))) (hb : Bs w (.slice p' n' c') l') :
    Rd t (w.setCell ⟨g, 0, none⟩ (.slice p' n' c')) g l' ∧ Kept [g] w (w.setCell ⟨g, 0, none⟩ (.slice p' n' c')) := by
  have hk : Kept [g] w (w.setCell ⟨g, 0, none⟩ (.slice p' n' c')) := (Kept.refl [g] w).setCell (.inl (by simp)) _
  refine ⟨⟨p', n', c', one_setCell h, hb.keptBox hk fun x hx => .inl ?_⟩, hk⟩
  simp at hx; subst hx
  exact ⟨p, n, c, t, _, h⟩
theorem own_mono {w : World} {b b' e size : Nat} {v : Value} {n : Nat} {xs : List Value} (h : w.ownsRow b e size v n xs) (hb : b' ≤ b) : w.ownsRow b' e size v n xs := by
  refine ⟨h.1, ?_⟩
  rcases h.2 with h | ⟨g, cap, cur, h1, h2, h3⟩
  · exact .inl h
  · exact .inr ⟨g, cap, cur, h1, Nat.le_trans hb h2, h3⟩
end Go.Proofs.YtnjfahgmebmakaaGreatDoor

/-
  OWN WORK. A slice of slices of bytes; rows of the call's own.
-/
namespace Go.Proofs.YtnjfahgmebmakaaGreatDoor
open Go.RowKit
set_option linter.unusedVariables false

theorem Kept.drewN' {S : List Nat} {a w : World} (h : Kept S a w) (n : Nat) : Kept S a (w.drewN n) := ⟨h.os, h.tape, h.output, h.size, h.block⟩
/-- THE VALUE v IS A SLICE OF SLICES OF THESE BYTES IN w. -/
def Bss (w : World) (v : Value) (ls : List (List UInt8)) : Prop :=
  ∃ (p : Option Addr) (c : Nat), v = .slice p ls.length c ∧ ls.length ≤ c ∧ c ≤ maxLen ∧ (p = none → c = 0) ∧
    ∀ a, p = some a → ∀ (i : Nat) l, ls[i]? = some l → ∃ q d, w.cell? (a.add i) = some (.slice q l.length d) ∧ Bs w (.slice q l.length d) l
theorem Bss.pos {w : World} {v : Value} {ls : List (List UInt8)} (h : Bss w v ls) (hl : 0 < ls.length) :
    ∃ b o c, v = .slice (some ⟨b, o, none⟩) ls.length c ∧ ls.length ≤ c ∧ c ≤ maxLen ∧ b < w.heap.size ∧
      ∀ (i : Nat) l, ls[i]? = some l → ∃ q d, w.cell? ⟨b, o + i, none⟩ = some (.slice q l.length d) ∧ Bs w (.slice q l.length d) l := by
  obtain ⟨p, c, rfl, h1, h2, h3, h4⟩ := h
  cases p with
  | none => have := h3 rfl; omega
  | some a =>
    obtain ⟨q, d, hc, _⟩ := h4 a rfl 0 ls[0] (List.getElem?_eq_getElem hl)
    have hs := spot_of_cell hc
    have hs' : a.spot = none := by
      unfold Addr.add at hs
      split at hs <;> simp_all
    have hb := lt_of_cell hc
    rw [add_block] at hb
    refine ⟨a.block, a.off, c, by obtain ⟨b, o, s⟩ := a; simp_all, h1, h2, hb, fun i x hx => ?_⟩
    rw [← add_none hs' i]
    exact h4 a rfl i x hx
theorem Bss.kept {w w' : World} {v : Value} {ls : List (List UInt8)} (h : Bss w v ls) (k : Kept [] w w') : Bss w' v ls := by
  obtain ⟨p, c, rfl, h1, h2, h3, h4⟩ := h
  refine ⟨p, c, rfl, h1, h2, h3, fun a e i l hl => ?_⟩
  obtain ⟨q, d, hc, hb⟩ := h4 a e i l hl
  exact ⟨q, d, k.cell hc (by simp), hb.kept k⟩
/-- a literal's slices in a block of their own -/
theorem Bss.lit (w : World) (e : TypeId) (vs : List Value) (ls : List (List UInt8)) (hl : vs.length = ls.length) (hm : ls.length ≤ maxLen) (hB : ∀ (i : Nat) v l, vs[i]? = some v → ls[i]? = some l → Bs w v l) (H : Nat) (hH : w.heap.size = H) :
    Bss (w.alloc (.cells vs.toArray e)) (.slice (some ⟨H, 0, none⟩) ls.length ls.length) ls := by
  subst hH
  refine ⟨_, ls.length, rfl, Nat.le_refl _, hm, fun e => (by cases e), fun a ha i l hi => ?_⟩
  cases ha
  have hv : i < vs.length := by rw [hl]; exact (List.getElem?_eq_some_iff.1 hi).1
  have hb := hB i vs[i] l (List.getElem?_eq_getElem hv) hi
  obtain ⟨q, d, hq, -⟩ := id hb
  refine ⟨q, d, ?_, ?_⟩
  · have := World.news_of_block (heap_alloc_new w (.cells vs.toArray e)) i vs[i] (by simp)
    rw [← hq]
    exact this
  · rw [← hq]
    exact hb.kept ((Kept.refl [] w).alloc _)
/-- the rows one behind the other -/
def flat (ls : List (List UInt8)) : List UInt8 := ls.flatten
theorem flat_nil : flat [] = [] := rfl
theorem flat_take (ls : List (List UInt8)) (k : Nat) (l : List UInt8) (h : ls[k]? = some l) : flat (ls.take (k + 1)) = flat (ls.take k) ++ l := by
  obtain ⟨hk, rfl⟩ := List.getElem?_eq_some_iff.1 h
  unfold flat
  rw [List.take_succ_eq_append_getElem hk, List.flatten_append]
  simp
theorem flat_le (ls : List (List UInt8)) (k : Nat) : (flat (ls.take k)).length ≤ (flat ls).length := by
  unfold flat
  have : ls.flatten = (ls.take k).flatten ++ (ls.drop k).flatten := by rw [← List.flatten_append, List.take_append_drop]
  rw [this, List.length_append]; omega

theorem own_shape2 {w : World} {base e size : Nat} {v : Value} {n : Nat} {xs : List Value} (h : w.ownsRow base e size v n xs) : ∃ p c, v = .slice p n c := by
  rcases h.2 with ⟨rfl, rfl⟩ | ⟨g, cap, cur, rfl, _⟩
  · exact ⟨_, _, rfl⟩
  · exact ⟨_, _, rfl⟩
theorem Bss.lit1 (w : World) (e : TypeId) (a : Value) (la : List UInt8) (ha : Bs w a la) (H : Nat) (hH : w.heap.size = H) : Bss (w.alloc (.cells #[a] e)) (.slice (some ⟨H, 0, none⟩) 1 1) [la] :=
  Bss.lit w e [a] [la] rfl (by simp [maxLen]) (by
    intro i v l h1 h2
    match i, h1, h2 with
    | 0, h1, h2 => simp at h1 h2; subst h1; subst h2; exact ha
    | i + 1, h1, h2 => simp at h1) H hH
theorem Bss.lit2 (w : World) (e : TypeId) (a b : Value) (la lb : List UInt8) (ha : Bs w a la) (hb : Bs w b lb) (H : Nat) (hH : w.heap.size = H) : Bss (w.alloc (.cells #[a, b] e)) (.slice (some ⟨H, 0, none⟩) 2 2) [la, lb] :=
  Bss.lit w e [a, b] [la, lb] rfl (by simp [maxLen]) (by
    intro i v l h1 h2
    match i, h1, h2 with
    | 0, h1, h2 => simp at h1 h2; subst h1; subst h2; exact ha
    | 1, h1, h2 => simp at h1 h2; subst h1; subst h2; exact hb
    | i + 2, h1, h2 => simp at h1) H hH
theorem Bss.lit3 (w : World) (e : TypeId) (a b c : Value) (la lb lc : List UInt8) (ha : Bs w a la) (hb : Bs w b lb) (hc : Bs w c lc) (H : Nat) (hH : w.heap.size = H) : Bss (w.alloc (.cells #[a, b, c] e)) (.slice (some ⟨H, 0, none⟩) 3 3) [la, lb, lc] :=
  Bss.lit w e [a, b, c] [la, lb, lc] rfl (by simp [maxLen]) (by
    intro i v l h1 h2
    match i, h1, h2 with
    | 0, h1, h2 => simp at h1 h2; subst h1; subst h2; exact ha
    | 1, h1, h2 => simp at h1 h2; subst h1; subst h2; exact hb
    | 2, h1, h2 => simp at h1 h2; subst h1; subst h2; exact hc
    | i + 3, h1, h2 => simp at h1) H hH
/-- rows made behind a literal's block -/
theorem own_late {w w' : World} {o : Obj} {e n : Nat} {v : Value} {xs : List Value} (h : w'.ownsRow (w.alloc o).heap.size e 1 v n xs) : w'.ownsRow w.heap.size e 1 v n xs := by
  refine ⟨h.1, ?_⟩
  rcases h.2 with h1 | ⟨g, cap, cur, h1, h2, h3⟩
  · exact .inl h1
  · exact .inr ⟨g, cap, cur, h1, Nat.le_trans (by simp) h2, h3⟩

end Go.Proofs.YtnjfahgmebmakaaGreatDoor

/-
  OWN WORK. What a reading of an argument says in the words of 'Bs' and 'Bss', and what the bound gives of it.
-/
namespace Go.Proofs.YtnjfahgmebmakaaGreatDoor
open Go.ChangeShapes Go.WideShapes Go.ChangeAt Go.RowKit Go.Deep
set_option linter.unusedVariables false

theorem own : ownKnob Tryz.prog.godebug = none := by kernel_rfl
theorem laidOut : laidOutB Tryz.prog = true := by kernel_rfl

theorem bulk_one {H : Type} (d : DataW H) : 1 ≤ Rows.uptoBulk d := by
  cases d with
  | lit l => cases l <;> simp [Rows.uptoBulk]
  | nil => simp [Rows.uptoBulk]
  | ptr d => simp [Rows.uptoBulk]
  | slice elems spare => simp [Rows.uptoBulk]
  | agg parts => simp [Rows.uptoBulk]
  | iface t d => simp [Rows.uptoBulk]
  | map entries => simp [Rows.uptoBulk]
  | held h => simp [Rows.uptoBulk]
theorem bulk_length {H : Type} (l : List (DataW H)) : l.length ≤ Rows.uptoBulkAll l := by
  induction l with
  | nil => simp [Rows.uptoBulkAll]
  | cons x r ih => have := bulk_one x; simp only [Rows.uptoBulkAll, List.length_cons]; omega
theorem bulk_append {H : Type} (l r : List (DataW H)) : Rows.uptoBulkAll (l ++ r) = Rows.uptoBulkAll l + Rows.uptoBulkAll r := by
  induction l with
  | nil => simp [Rows.uptoBulkAll]
  | cons x l ih => simp only [List.cons_append, Rows.uptoBulkAll, ih]; omega

/-- the bytes that these numbers are -/
def bytesOfInts (zs : List Int) : List UInt8 := zs.map fun n => UInt8.ofNat n.toNat
theorem bytes_length (zs : List Int) : (bytesOfInts zs).length = zs.length := by simp [bytesOfInts]
theorem byte_wf {n : Int} (h : (Lit.int .u8 n).wf = true) : ((UInt8.ofNat n.toNat).toNat : Int) = n := by
  have hx : 0 ≤ n ∧ n ≤ 255 := by simpa [Lit.wf, IntKind.min, IntKind.max, IntKind.signed, IntKind.bits] using h
  rw [UInt8.toNat_ofNat']
  omega
theorem bs_cells {w : World} {ao : Option Addr} {len cap : Nat} {zs : List Int} (hl : len ≤ cap) (hm : cap ≤ maxLen) (hz : zs.length = cap) (hn : ao = none → cap = 0)
    (hc : ∀ a, ao = some a → ∀ i, i < cap → w.cell? (a.add i) = some (.int .u8 (zs.getD i 0))) (hw : ∀ n ∈ zs, (Lit.int .u8 n).wf = true) : Bs w (.slice ao len cap) (bytesOfInts (zs.take len)) := by
  have hlen : (bytesOfInts (zs.take len)).length = len := by rw [bytes_length, List.length_take]; omega
  refine ⟨ao, cap, by rw [hlen], by omega, hm, hn, fun a ha i x hx => ?_⟩
  have hi : i < len := by rw [← hlen]; exact (List.getElem?_eq_some_iff.1 hx).1
  rw [hc a ha i (by omega)]
  have e : x = UInt8.ofNat (zs.getD i 0).toNat := by
    simp only [bytesOfInts, List.getElem?_map, List.getElem?_take, hi, if_true] at hx
    obtain ⟨y, hy, rfl⟩ := Option.map_eq_some_iff.1 hx
    simp [List.getD, hy]
  rw [e, byte_wf (hw _ ?_)]
  rw [List.getD, List.getElem?_eq_getElem (by omega)]
  exact List.getElem_mem _

theorem bs_open {H : Type} {enc : TypeId × Value → H} {W : World} {t e : TypeId} {ao : Option Addr} {len cap : Nat} {d : DataW H} {p : List MemPlace} (ht : Tryz.prog.underlying t = some (.slice e)) (he : Tryz.prog.underlying e = some (.int .u8)) (hc : Tryz.prog.cellsOf e = 1)
    (h : DataW.Trod enc Tryz.prog W 0 (fun _ => true) true t (.slice ao len cap) d p) : ∃ l : List UInt8, l.length = len ∧ Bs W (.slice ao len cap) l ∧ l.length + 1 ≤ Rows.uptoBulk d ∧ (d = .nil ∧ len = 0 ∨ ∃ el sp, d = .slice el sp ∧ el.length = len) := by
  obtain ⟨fuel, hf⟩ := h
  rcases open_ints ht he hc hf with ⟨hcs, hx⟩ | ⟨x, n, c, zs, hcs, _, hl, hm, hz, hx, hcell, hwz⟩
  · simp [Value.cells] at hcs
    obtain ⟨rfl, rfl, rfl⟩ := hcs
    obtain ⟨rfl, rfl⟩ := Prod.mk.inj hx
    exact ⟨[], rfl, Bs.nil W, by simp [Rows.uptoBulk], .inl ⟨rfl, rfl⟩⟩
  · simp [Value.cells] at hcs
    obtain ⟨rfl, rfl, rfl⟩ := hcs
    obtain ⟨rfl, rfl⟩ := Prod.mk.inj hx
    have hz' : zs.length = cap := by simpa using hz
    have hlen : (bytesOfInts (zs.take len)).length = len := by rw [bytes_length, List.length_take]; omega
    refine ⟨bytesOfInts (zs.take len), hlen, bs_cells hl hm hz' (fun e => by cases e) (fun a ha i hi => by cases ha; exact hcell i (by omega)) hwz, ?_, .inr ⟨_, _, rfl, by simp [lits]; omega⟩⟩
    rw [hlen]
    have h1 := bulk_length (lits (H := H) .u8 (zs.take len))
    simp only [Rows.uptoBulk]
    simp only [lits, List.length_map, List.length_take] at h1 ⊢
    omega

/-- the form's own reach, of a slice of bytes -/
theorem sized_len {H : Type} {ts : List TypeId} {ds : List (DataW H)} {j : Nat} {t e : TypeId} {d : DataW H} {len : Nat} (hsz : (DataW.weightsEach Tryz.prog ts ds).all (· ≤ reachBytes) = true) (ht : ts[j]? = some t) (hd : ds[j]? = some d)
    (hu : Tryz.prog.underlying t = some (.slice e)) (hb : Tryz.prog.bytesOf e = 1) (h : d = .nil ∧ len = 0 ∨ ∃ el sp, d = .slice el sp ∧ el.length = len) : len ≤ 140737488351232 := by
  rcases h with ⟨_, rfl⟩ | ⟨el, sp, rfl, rfl⟩
  · omega
  · have := sized_slice hsz ht hd hu
    rw [hb] at this
    simp only [reachBytes] at this
    omega

theorem bss_open {H : Type} {enc : TypeId × Value → H} {W : World} {t e q : TypeId} {ao : Option Addr} {len cap : Nat} {d : DataW H} {p : List MemPlace} (ht : Tryz.prog.underlying t = some (.slice e)) (he : Tryz.prog.underlying e = some (.slice q)) (hq : Tryz.prog.underlying q = some (.int .u8))
    (ce : Tryz.prog.cellsOf e = 1) (cq : Tryz.prog.cellsOf q = 1) (h : DataW.Trod enc Tryz.prog W 0 (fun _ => true) true t (.slice ao len cap) d p) : ∃ ls : List (List UInt8), Bss W (.slice ao len cap) ls ∧ (flat ls).length + ls.length + 1 ≤ Rows.uptoBulk d := by
  obtain ⟨fuel, hf⟩ := h
  rcases open_int_rows ht he hq ce cq hf with ⟨hcs, hx⟩ | ⟨a, n, c, A, L, C, Z, hcs, _, hl, hm, hx, hr⟩
  · simp [Value.cells] at hcs
    obtain ⟨rfl, rfl, rfl⟩ := hcs
    obtain ⟨rfl, rfl⟩ := Prod.mk.inj hx
    exact ⟨[], ⟨none, 0, rfl, Nat.le_refl _, by simp [maxLen], fun _ => rfl, fun a e => (by cases e)⟩, by simp [Rows.uptoBulk, flat]⟩
  · simp [Value.cells] at hcs
    obtain ⟨rfl, rfl, rfl⟩ := hcs
    obtain ⟨rfl, rfl⟩ := Prod.mk.inj hx
    have hlr : ∀ r, r < cap → (bytesOfInts ((Z r).take (L r))).length = L r := fun r h => by
      obtain ⟨_, h1, _, h3, _⟩ := hr r h
      rw [bytes_length, List.length_take]; omega
    refine ⟨(List.range len).map fun r => bytesOfInts ((Z r).take (L r)), ⟨some a, cap, by simp, by simpa using hl, hm, fun e => (by cases e), fun a' e i l hi => ?_⟩, ?_⟩
    · cases e
      simp only [List.getElem?_map] at hi
      obtain ⟨r, hr1, rfl⟩ := Option.map_eq_some_iff.1 hi
      obtain ⟨hr2, rfl⟩ := List.getElem?_eq_some_iff.1 hr1
      have hr3 : i < len := by simpa using hr2
      simp only [List.getElem_range]
      obtain ⟨k1, k2, k3, k4, k5, k6, k7⟩ := hr i (by omega)
      rw [hlr i (by omega)]
      exact ⟨A i, C i, k1, bs_cells k2 k3 k4 k6 (fun a' ha j hj => (k7 a' ha).2 j hj) k5⟩
    · have key : ∀ (m : Nat), m ≤ len → (flat ((List.range m).map fun r => bytesOfInts ((Z r).take (L r)))).length + m ≤ Rows.uptoBulkAll ((List.range m).map fun r => intRow (H := H) .u8 (A r) (L r) (Z r)) := by
        intro m
        induction m with
        | zero => intro _; simp [flat, Rows.uptoBulkAll]
        | succ m ih =>
          intro hm'
          have := ih (by omega)
          rw [List.range_succ, List.map_append, List.map_append, bulk_append]
          have e1 : (flat (((List.range m).map fun r => bytesOfInts ((Z r).take (L r))) ++ [m].map fun r => bytesOfInts ((Z r).take (L r)))).length = (flat ((List.range m).map fun r => bytesOfInts ((Z r).take (L r)))).length + L m := by
            unfold flat
            rw [List.flatten_append, List.length_append]
            simp only [List.map_cons, List.map_nil, List.flatten_cons, List.flatten_nil, List.append_nil]
            rw [hlr m (by omega)]
          rw [e1]
          have e2 : L m + 1 ≤ Rows.uptoBulkAll ([m].map fun r => intRow (H := H) .u8 (A r) (L r) (Z r)) := by
            obtain ⟨k1, k2, k3, k4, k5, k6, k7⟩ := hr m (by omega)
            simp only [List.map_cons, List.map_nil, Rows.uptoBulkAll]
            cases ha : A m with
            | none => have := k6 ha; simp [intRow, Rows.uptoBulk]; omega
            | some y =>
              have h1 := bulk_length (lits (H := H) .u8 ((Z m).take (L m)))
              simp only [intRow, Rows.uptoBulk]
              simp only [lits, List.length_map, List.length_take] at h1 ⊢
              omega
          omega
      have := key len (Nat.le_refl _)
      simp only [Rows.uptoBulk, List.length_map, List.length_range]
      omega
end Go.Proofs.YtnjfahgmebmakaaGreatDoor

/-
  OWN WORK. The model (layer 18) in plain words: changes, open transactions, what keys have, a slot's bytes, sums.
-/
namespace Go.Proofs.YtnjfahgmebmakaaGreatDoor
set_option linter.unusedVariables false

structure Chg where
  key : Int
  val : Int
  gone : Bool
  deriving DecidableEq
structure Tn where
  id : Int
  pages : List Int
  chs : List Chg
  lens : List Int
  deriving DecidableEq
structure Cf where
  pages : Int
  slots : Int
  log : Int
  frames : Int
  table : Int
  keys : Int
  deriving DecidableEq
structure St where
  done : List (List Chg)
  opn : List Tn
  used : Int
def mayC (c : Cf) : Prop := (1 ≤ c.pages ∧ c.pages ≤ 16) ∧ (1 ≤ c.slots ∧ c.slots ≤ 8) ∧ (1024 ≤ c.log ∧ c.log ≤ 65536) ∧ (2 ≤ c.frames ∧ c.frames ≤ 16) ∧ (1 ≤ c.table ∧ c.table ≤ 8) ∧ (1 ≤ c.keys ∧ c.keys ≤ 1048576)
instance (c : Cf) : Decidable (mayC c) := by unfold mayC; exact inferInstance
def findO (l : List Tn) (id : Int) : Option Tn := l.find? fun t => t.id == id
def sumL : List Int → Int
  | [] => 0
  | n :: r => 46 + n + sumL r
def Tn.kept (t : Tn) : Int := 99 + sumL t.lens
def keptO : List Tn → Int
  | [] => 0
  | t :: r => t.kept + keptO r
def fitsS (c : Cf) (s : St) (more keep : Int) : Bool := decide (s.used + more + keptO s.opn + keep ≤ c.log)
def isId (id : Int) : Prop := 1 ≤ id ∧ id ≤ 64
instance (id : Int) : Decidable (isId id) := inferInstanceAs (Decidable (1 ≤ id ∧ id ≤ 64))
def begE (c : Cf) (s : St) (id : Int) : Int := if ¬ isId id ∨ (findO s.opn id).isSome = true then 160 else if c.table ≤ (s.opn.length : Int) then 161 else if fitsS c s 34 99 = true then 0 else 170
def begS (c : Cf) (s : St) (id : Int) : St := if begE c s id = 0 then ⟨s.done, s.opn ++ [⟨id, [], [], []⟩], s.used + 34⟩ else s
/-- another one holds the page -/
def busy (l : List Tn) (id page : Int) : Bool := l.any fun t => t.id != id && t.pages.contains page
def askE (c : Cf) (s : St) (id key : Int) : Int := if (findO s.opn id).isSome = false then 160 else if key < 0 ∨ c.keys ≤ key then 50 else if busy s.opn id (key % c.pages) = true then 150 else 0
def stepV (key : Int) (p : Int × Bool) (c : Chg) : Int × Bool := if c.key = key then (c.val, !c.gone) else p
def shutV (p : Int × Bool) : Int × Bool := (if p.2 = true then p.1 else 0, p.2)
def valueL (l : List Chg) (key : Int) (p : Int × Bool) : Int × Bool := shutV (l.foldl (stepV key) p)
def seesD (ls : List (List Chg)) (key : Int) : Int × Bool := ls.foldl (fun p l => valueL l key p) (0, false)
def seesT (s : St) (t : Tn) (key : Int) : Int × Bool := valueL t.chs key (seesD s.done key)
def allC (s : St) (t : Tn) : List Chg := s.done.flatten ++ t.chs
/-- the i-th is the last of its key, there, and of the page -/
def lastC (pages page : Int) (l : List Chg) (i : Nat) : Bool := match l[i]? with
  | none => false
  | some c => c.key % pages == page && !c.gone && (l.drop (i + 1)).all fun d => d.key != c.key
def countTo (pages page : Int) (l : List Chg) : Nat → Int
  | 0 => 0
  | i + 1 => countTo pages page l i + (if lastC pages page l i = true then 1 else 0)
def countS (c : Cf) (s : St) (t : Tn) (page : Int) : Int := countTo c.pages page (allC s t) (allC s t).length
def setO (l : List Tn) (t : Tn) : List Tn := l.map fun x => if x.id = t.id then t else x
def dropO (l : List Tn) (id : Int) : List Tn := l.filter fun x => x.id != id
def heldT (t : Tn) (page : Int) : Tn := if t.pages.contains page = true then t else ⟨t.id, t.pages ++ [page], t.chs, t.lens⟩
def zeros (n : Nat) : List Int := List.replicate n 0
def digits : Nat → Int → List Int
  | 0, _ => []
  | n + 1, v => v % 256 :: digits n (v / 256)
def slotL (key v : Int) (there : Bool) : List Int := if there = true then [1, 0, 0, 0] ++ digits 4 key ++ digits 8 v else zeros 16
/-- how many are alike at the front -/
def alikeN : List Int → List Int → Nat
  | x :: a, y :: b => if x = y then 1 + alikeN a b else 0
  | _, _ => 0
def lengthL (a b : List Int) : Int := if a = b then 0 else ((16 - alikeN a.reverse b.reverse : Nat) : Int) - (alikeN a b : Int)
def lenC (s : St) (t : Tn) (x : Chg) : Int := let p := seesT s t x.key; lengthL (slotL x.key p.1 p.2) (slotL x.key x.val (!x.gone))
def undoS (s : St) (t : Tn) : St := ⟨s.done, dropO s.opn t.id, s.used + 66 + sumL t.lens⟩
def chgE (c : Cf) (s : St) (t : Tn) (x : Chg) : Int := let n := lenC s t x; if 0 < n ∧ fitsS c s (38 + 2 * n) (46 + n) = false then 170 else 0
def chgS (c : Cf) (s : St) (t : Tn) (page : Int) (x : Chg) : St :=
  let n := lenC s t x
  if 0 < n then (if fitsS c s (38 + 2 * n) (46 + n) = true then ⟨s.done, setO s.opn (heldT ⟨t.id, t.pages, t.chs ++ [x], t.lens ++ [n]⟩ page), s.used + 38 + 2 * n⟩ else undoS s t)
  else ⟨s.done, setO s.opn (heldT t page), s.used⟩
def txO (o : Option Tn) : Tn := o.getD ⟨0, [], [], []⟩
def pageC (c : Cf) (key : Int) : Int := key % c.pages
def getA (c : Cf) (s : St) (id key : Int) : Int × Bool × Int := if askE c s id key = 0 then ((seesT s (txO (findO s.opn id)) key).1, (seesT s (txO (findO s.opn id)) key).2, 0) else (0, false, askE c s id key)
def getS (c : Cf) (s : St) (id key : Int) : St := if askE c s id key = 0 then ⟨s.done, setO s.opn (heldT (txO (findO s.opn id)) (pageC c key)), s.used⟩ else s
def full (c : Cf) (s : St) (t : Tn) (key : Int) : Bool := !(seesT s t key).2 && decide (c.slots ≤ countS c s t (pageC c key))
def putE (c : Cf) (s : St) (id key v : Int) : Int := if askE c s id key = 0 then (if full c s (txO (findO s.opn id)) key = true then 42 else chgE c s (txO (findO s.opn id)) ⟨key, v, false⟩) else askE c s id key
def putS (c : Cf) (s : St) (id key v : Int) : St := if askE c s id key = 0 then (if full c s (txO (findO s.opn id)) key = true then s else chgS c s (txO (findO s.opn id)) (pageC c key) ⟨key, v, false⟩) else s
def delE (c : Cf) (s : St) (id key : Int) : Int := if askE c s id key = 0 then (if (seesT s (txO (findO s.opn id)) key).2 = true then chgE c s (txO (findO s.opn id)) ⟨key, 0, true⟩ else 0) else askE c s id key
def delB (c : Cf) (s : St) (id key : Int) : Bool := decide (askE c s id key = 0) && (seesT s (txO (findO s.opn id)) key).2 && decide (delE c s id key = 0)
def delS (c : Cf) (s : St) (id key : Int) : St := if askE c s id key = 0 then (if (seesT s (txO (findO s.opn id)) key).2 = true then chgS c s (txO (findO s.opn id)) (pageC c key) ⟨key, 0, true⟩ else ⟨s.done, setO s.opn (heldT (txO (findO s.opn id)) (pageC c key)), s.used⟩) else s
def endE (s : St) (id : Int) : Int := if (findO s.opn id).isSome = true then 0 else 160
def comS (s : St) (id : Int) : St := match findO s.opn id with
  | none => s
  | some t => ⟨s.done ++ [t.chs], dropO s.opn id, s.used + 66⟩
def aboS (s : St) (id : Int) : St := match findO s.opn id with
  | none => s
  | some t => undoS s t
def dirtyC (c : Cf) (d : Int) : Int := if d < 0 then 0 else if c.pages < d then c.pages else d
def chkN (c : Cf) (s : St) (d : Int) : Int := 35 + 26 * (s.opn.length : Int) + 9 * dirtyC c d
def chkE (c : Cf) (s : St) (d : Int) : Int := if fitsS c s (chkN c s d) 0 = true then 0 else 170
def chkS (c : Cf) (s : St) (d : Int) : St := if fitsS c s (chkN c s d) 0 = true then ⟨s.done, s.opn, s.used + chkN c s d⟩ else s
def renE (s : St) : Int := if s.opn = [] then 0 else 210
def renS (s : St) : St := if s.opn = [] then ⟨s.done, s.opn, 0⟩ else s
/-- one change laid into a rising list -/
def layE (x : Chg) : Bool → List (Int × Int) → List (Int × Int)
  | laid, [] => if laid = true then [] else [(x.key, x.val)]
  | laid, e :: r => (if laid = false ∧ x.key ≤ e.1 then [(x.key, x.val)] else []) ++ (if e.1 = x.key then [] else [e]) ++ layE x (laid || decide (x.key ≤ e.1)) r
def foldE (out : List (Int × Int)) (l : List Chg) : List (Int × Int) := l.foldl (fun o x => layE x x.gone o) out
def foldL (ls : List (List Chg)) : List (Int × Int) := ls.foldl foldE []
def idsTo (l : List Tn) : Nat → List Int
  | 0 => []
  | i + 1 => idsTo l i ++ (if (findO l ((i + 1 : Nat) : Int)).isSome = true then [((i + 1 : Nat) : Int)] else [])
def idsS (s : St) : List Int := idsTo s.opn 64
end Go.Proofs.YtnjfahgmebmakaaGreatDoor

/-
  OWN WORK. The model (layer 18) in plain words: what holds of a state at all times, and how each step keeps it.
-/
namespace Go.Proofs.YtnjfahgmebmakaaGreatDoor
set_option linter.unusedVariables false
def okC (c : Cf) (x : Chg) : Prop := (0 ≤ x.key ∧ x.key < c.keys) ∧ (0 ≤ x.val ∧ x.val < 18446744073709551616)
structure OkTn (c : Cf) (t : Tn) : Prop where
  id : isId t.id
  lens : ∀ n ∈ t.lens, 1 ≤ n ∧ n ≤ 16
  chs : ∀ x ∈ t.chs, okC c x
  pgs : t.pages.Nodup ∧ ∀ p ∈ t.pages, 0 ≤ p ∧ p < c.pages
  cln : t.chs.length = t.lens.length
/-- what holds of a state at all times -/
structure OkS (c : Cf) (s : St) : Prop where
  may : mayC c
  dif : s.opn.Pairwise fun x y => x.id ≠ y.id
  len : (s.opn.length : Int) ≤ c.table
  low : 0 ≤ s.used
  log : s.used + keptO s.opn ≤ c.log
  keyD : ∀ l ∈ s.done, ∀ x ∈ l, okC c x
  tns : ∀ t ∈ s.opn, OkTn c t
theorem OkS.lens {c : Cf} {s : St} (h : OkS c s) : ∀ t ∈ s.opn, ∀ n ∈ t.lens, 1 ≤ n ∧ n ≤ 16 := fun t ht => (h.tns t ht).lens
theorem OkS.ids {c : Cf} {s : St} (h : OkS c s) : ∀ t ∈ s.opn, isId t.id := fun t ht => (h.tns t ht).id
theorem sumL_append (a b : List Int) : sumL (a ++ b) = sumL a + sumL b := by
  induction a with
  | nil => simp [sumL]
  | cons n r ih => simp only [List.cons_append, sumL, ih]; omega
theorem keptO_append (a b : List Tn) : keptO (a ++ b) = keptO a + keptO b := by
  induction a with
  | nil => simp [keptO]
  | cons n r ih => simp only [List.cons_append, keptO, ih]; omega
theorem sumL_pos {l : List Int} (h : ∀ n ∈ l, 1 ≤ n ∧ n ≤ 16) : 0 ≤ sumL l := by
  induction l with
  | nil => simp [sumL]
  | cons n r ih => have e1 := h n (by simp); have e2 := ih (fun x hx => h x (by simp [hx])); simp only [sumL]; omega
theorem sumL_len {l : List Int} (h : ∀ n ∈ l, 1 ≤ n ∧ n ≤ 16) : 47 * (l.length : Int) ≤ sumL l := by
  induction l with
  | nil => simp [sumL]
  | cons n r ih => have e1 := h n (by simp); have e2 := ih (fun x hx => h x (by simp [hx])); simp only [sumL, List.length_cons]; omega
theorem keptO_pos {l : List Tn} (h : ∀ t ∈ l, ∀ n ∈ t.lens, 1 ≤ n ∧ n ≤ 16) : 0 ≤ keptO l := by
  induction l with
  | nil => simp [keptO]
  | cons t r ih => have e1 := sumL_pos (h t (by simp)); have e2 := ih (fun x hx => h x (by simp [hx])); simp only [keptO, Tn.kept]; omega
theorem OkS.kept {c : Cf} {s : St} (h : OkS c s) : 0 ≤ keptO s.opn ∧ keptO s.opn ≤ 65536 ∧ s.used ≤ 65536 := by
  have e1 := keptO_pos h.lens; have e2 := h.log; have e3 := h.low; have e4 := h.may.2.2.1.2; omega
theorem split_at {α : Type} {l : List α} {k : Nat} {x : α} (hk : l[k]? = some x) : l = l.take k ++ x :: l.drop (k + 1) := by
  obtain ⟨hl, hx⟩ := List.getElem?_eq_some_iff.1 hk
  rw [← hx, List.getElem_cons_drop]
  exact (List.take_append_drop k l).symm
theorem set_split {α : Type} {l : List α} {k : Nat} {x : α} (hk : l[k]? = some x) (y : α) : l.set k y = l.take k ++ y :: l.drop (k + 1) := by
  have hl := (List.getElem?_eq_some_iff.1 hk).1
  rw [List.set_eq_take_append_cons_drop, if_pos hl]
theorem erase_split {α : Type} {l : List α} {k : Nat} : l.eraseIdx k = l.take k ++ l.drop (k + 1) := List.eraseIdx_eq_take_drop_succ ..
theorem keptO_at {l : List Tn} {k : Nat} {x : Tn} (hk : l[k]? = some x) : keptO l = keptO (l.take k) + x.kept + keptO (l.drop (k + 1)) := by
  conv => lhs; rw [split_at hk]
  rw [keptO_append]; simp only [keptO]; omega
theorem keptO_set {l : List Tn} {k : Nat} {x : Tn} (hk : l[k]? = some x) (y : Tn) : keptO (l.set k y) = keptO l - x.kept + y.kept := by
  rw [keptO_at hk, set_split hk, keptO_append]; simp only [keptO]; omega
theorem keptO_erase {l : List Tn} {k : Nat} {x : Tn} (hk : l[k]? = some x) : keptO (l.eraseIdx k) = keptO l - x.kept := by
  rw [keptO_at hk, erase_split, keptO_append]; omega
/-- one's sum is a part of all -/
theorem OkS.one {c : Cf} {s : St} (h : OkS c s) {k : Nat} {t : Tn} (hk : s.opn[k]? = some t) : 0 ≤ sumL t.lens ∧ 99 + sumL t.lens ≤ keptO s.opn := by
  have e0 := sumL_pos (h.lens t (List.mem_of_getElem? hk))
  have e1 := keptO_at hk
  have e2 := keptO_pos (l := s.opn.take k) (fun x hx => h.lens x (List.mem_of_mem_take hx))
  have e3 := keptO_pos (l := s.opn.drop (k + 1)) (fun x hx => h.lens x (List.mem_of_mem_drop hx))
  unfold Tn.kept at e1; omega
theorem OkS.few {c : Cf} {s : St} (h : OkS c s) {k : Nat} {t : Tn} (hk : s.opn[k]? = some t) : t.lens.length ≤ 1400 ∧ t.chs.length ≤ 1400 ∧ t.pages.length ≤ 16 := by
  have t1 := h.tns t (List.mem_of_getElem? hk)
  have e1 := sumL_len t1.lens; have e2 := h.one hk; have e3 := h.kept; have e4 := t1.cln
  refine ⟨by omega, by omega, ?_⟩
  have q : (t.pages.map Int.toNat).Nodup := by
    refine List.pairwise_map.2 (List.Pairwise.imp_of_mem (fun {a b} ha hb hne e => ?_) t1.pgs.1)
    have := t1.pgs.2 a ha; have := t1.pgs.2 b hb; exact hne (by omega)
  have sub : (t.pages.map Int.toNat) ⊆ List.range 16 := by
    intro x hx
    obtain ⟨p, hp, rfl⟩ := List.mem_map.1 hx
    have := t1.pgs.2 p hp; have := h.may.1.2
    exact List.mem_range.2 (by omega)
  have := List.Nodup.length_le_of_subset q sub
  simpa using this
theorem OkS.lenN {c : Cf} {s : St} (h : OkS c s) : s.opn.length ≤ 8 := by have := h.len; have := h.may.2.2.2.2.1.2; omega
/-- one of the open ones is another -/
theorem OkS.set {c : Cf} {s : St} (h : OkS c s) {k : Nat} {t t' : Tn} (hk : s.opn[k]? = some t) (hid : t'.id = t.id) (ht : OkTn c t') {u : Int} (h0 : 0 ≤ u) (hu : u + (keptO s.opn - t.kept + t'.kept) ≤ c.log) : OkS c ⟨s.done, s.opn.set k t', u⟩ := by
  have hl := (List.getElem?_eq_some_iff.1 hk).1
  have hx := (List.getElem?_eq_some_iff.1 hk).2
  refine ⟨h.may, ?_, by rw [List.length_set]; exact h.len, h0, by show u + keptO (s.opn.set k t') ≤ c.log; rw [keptO_set hk]; exact hu, h.keyD, fun x hx => ?_⟩
  · refine List.pairwise_iff_getElem.2 fun i j hi hj hij => ?_
    rw [List.length_set] at hi hj
    have q := List.pairwise_iff_getElem.1 h.dif i j hi hj hij
    rw [List.getElem_set, List.getElem_set]
    by_cases c1 : k = i
    · subst c1; rw [if_pos rfl, if_neg (by omega), hid, ← hx]; exact q
    · rw [if_neg c1]
      by_cases c2 : k = j
      · subst c2; rw [if_pos rfl, hid, ← hx]; exact q
      · rw [if_neg c2]; exact q
  · rcases List.mem_or_eq_of_mem_set hx with q | q
    · exact h.tns x q
    · rw [q]; exact ht
/-- one of them is open no more -/
theorem OkS.erase {c : Cf} {s : St} (h : OkS c s) {k : Nat} {t : Tn} (hk : s.opn[k]? = some t) {u : Int} (h0 : 0 ≤ u) (hu : u + (keptO s.opn - t.kept) ≤ c.log) {d : List (List Chg)} (hd : ∀ l ∈ d, ∀ x ∈ l, okC c x) : OkS c ⟨d, s.opn.eraseIdx k, u⟩ := by
  have sb : (s.opn.eraseIdx k).Sublist s.opn := List.eraseIdx_sublist ..
  exact ⟨h.may, h.dif.sublist sb, by have := sb.length_le; have := h.len; show ((s.opn.eraseIdx k).length : Int) ≤ _; omega, h0, by show u + keptO (s.opn.eraseIdx k) ≤ c.log; rw [keptO_erase hk]; exact hu, hd, fun x hx => h.tns x (sb.subset hx)⟩
theorem findO_none {l : List Tn} {b : Int} : findO l b = none ↔ ∀ x ∈ l, x.id ≠ b := by simp [findO]
theorem findO_at {l : List Tn} {k : Nat} {x : Tn} {b : Int} (hk : l[k]? = some x) (e : x.id = b) (hn : ∀ i y, i < k → l[i]? = some y → y.id ≠ b) : findO l b = some x := by
  have es := split_at hk
  unfold findO
  rw [es, List.find?_append, List.find?_eq_none.2 fun y hy => ?_]
  · simp [e]
  · obtain ⟨i, hi, rfl⟩ := List.getElem_of_mem hy
    have hik : i < k := by simp at hi; omega
    have hl := (List.getElem?_eq_some_iff.1 hk).1
    have := hn i l[i] hik (List.getElem?_eq_getElem (by omega))
    simpa using this
theorem findO_no {l : List Tn} {b : Int} (hn : ∀ i y, i < l.length → l[i]? = some y → y.id ≠ b) : findO l b = none := findO_none.2 fun x hx => by
  obtain ⟨i, hi, rfl⟩ := List.getElem_of_mem hx
  exact hn i _ hi (List.getElem?_eq_getElem hi)
theorem findO_some {l : List Tn} {b : Int} {x : Tn} (h : findO l b = some x) : x ∈ l ∧ x.id = b := ⟨List.mem_of_find?_eq_some h, by have := List.find?_some h; simpa using this⟩
theorem setO_at {l : List Tn} (h : l.Pairwise fun x y => x.id ≠ y.id) {k : Nat} {x t : Tn} (hk : l[k]? = some x) (e : x.id = t.id) : setO l t = l.set k t := by
  obtain ⟨hl, hx⟩ := List.getElem?_eq_some_iff.1 hk
  apply List.ext_getElem (by simp [setO])
  intro i h1 h2
  simp only [setO, List.getElem_map, List.getElem_set]
  have hi : i < l.length := by simpa [setO] using h1
  by_cases c : k = i
  · subst c; rw [if_pos (by rw [hx]; exact e), if_pos rfl]
  · rw [if_neg c, if_neg]
    intro q
    have hne : (l[i]).id ≠ (l[k]).id := by
      rcases Nat.lt_or_gt_of_ne c with c | c
      · exact fun e => (List.pairwise_iff_getElem.1 h k i hl hi c) e.symm
      · exact List.pairwise_iff_getElem.1 h i k hi hl c
    exact hne (by rw [q, hx, e])
theorem dropO_at {l : List Tn} (h : l.Pairwise fun x y => x.id ≠ y.id) {k : Nat} {x : Tn} (hk : l[k]? = some x) : dropO l x.id = l.eraseIdx k := by
  have es := split_at hk
  have hd := h
  rw [es] at hd
  obtain ⟨p1, p2, p3⟩ := List.pairwise_append.1 hd
  obtain ⟨p4, p5⟩ := List.pairwise_cons.1 p2
  rw [erase_split]
  unfold dropO
  conv => lhs; rw [es]
  rw [List.filter_append, List.filter_cons, if_neg (by simp), List.filter_eq_self.2 fun y hy => ?_, List.filter_eq_self.2 fun y hy => ?_]
  · have := p4 y hy; simpa using fun q => this q.symm
  · have := p3 y hy x (by simp); simpa using this
/-! the steps -/
theorem OkS.new {c : Cf} (h : mayC c) : OkS c ⟨[], [], 0⟩ := ⟨h, .nil, by have := h.2.2.2.2.1.1; simp; omega, Int.le_refl _, by have := h.2.2.1.1; simp [keptO]; omega, by simp, by simp⟩
theorem fits_iff {c : Cf} {s : St} {more keep : Int} : fitsS c s more keep = true ↔ s.used + more + keptO s.opn + keep ≤ c.log := by simp [fitsS]
theorem beg_ok {c : Cf} {s : St} {id : Int} (h : begE c s id = 0) : isId id ∧ findO s.opn id = none ∧ (s.opn.length : Int) < c.table ∧ fitsS c s 34 99 = true := by
  unfold begE at h
  split at h
  · exact absurd h (by decide)
  · rename_i q1
    split at h
    · exact absurd h (by decide)
    · rename_i q2
      split at h
      · rename_i q3
        rw [not_or] at q1
        exact ⟨Decidable.not_not.1 q1.1, by simpa using q1.2, by omega, q3⟩
      · exact absurd h (by decide)
theorem OkS.beg {c : Cf} {s : St} (h : OkS c s) (id : Int) : OkS c (begS c s id) := by
  unfold begS
  split
  · rename_i e
    obtain ⟨h1, h2, h3, h4⟩ := beg_ok e
    have h5 := fits_iff.1 h4
    refine ⟨h.may, List.pairwise_append.2 ⟨h.dif, by simp, fun x hx y hy => ?_⟩, by simp; omega, by have := h.low; show 0 ≤ s.used + 34; omega, ?_, h.keyD, fun t ht => ?_⟩
    · simp at hy; subst hy; exact findO_none.1 h2 x hx
    · show s.used + 34 + keptO (s.opn ++ [⟨id, [], [], []⟩]) ≤ c.log
      rw [keptO_append]; simp only [keptO, Tn.kept, sumL]; omega
    · rcases List.mem_append.1 ht with q | q
      · exact h.tns t q
      · simp at q; subst q; exact ⟨h1, by simp, by simp, by simp, rfl⟩
  · exact h
theorem OkTn.held {c : Cf} {t : Tn} (h : OkTn c t) {p : Int} (hp : 0 ≤ p ∧ p < c.pages) : OkTn c (heldT t p) := by
  unfold heldT
  split
  · exact h
  · rename_i q
    refine ⟨h.id, h.lens, h.chs, ⟨List.nodup_append.2 ⟨h.pgs.1, by simp, fun x hx y hy => ?_⟩, fun x hx => ?_⟩, h.cln⟩
    · simp at hy; subst hy; intro e; subst e; exact q (by simpa using hx)
    · rcases List.mem_append.1 hx with q | q
      · exact h.pgs.2 x q
      · simp at q; subst q; exact hp
theorem heldT_id (t : Tn) (p : Int) : (heldT t p).id = t.id ∧ (heldT t p).kept = t.kept ∧ (heldT t p).chs = t.chs ∧ (heldT t p).lens = t.lens := by unfold heldT; split <;> exact ⟨rfl, rfl, rfl, rfl⟩
theorem alikeN_le : ∀ (a b : List Int), alikeN a b ≤ a.length
  | [], b => by simp [alikeN]
  | x :: a, [] => by simp [alikeN]
  | x :: a, y :: b => by
    have := alikeN_le a b
    unfold alikeN
    split
    · simp; omega
    · omega
theorem lengthL_le (a b : List Int) : lengthL a b ≤ 16 := by
  unfold lengthL
  split
  · omega
  · omega
theorem lenC_le (s : St) (t : Tn) (x : Chg) : lenC s t x ≤ 16 := lengthL_le _ _
/-- behind a change -/
theorem OkS.chg {c : Cf} {s : St} (h : OkS c s) {k : Nat} {t : Tn} (hk : s.opn[k]? = some t) {x : Chg} (hx : okC c x) {p : Int} (hp : 0 ≤ p ∧ p < c.pages) {n : Int} (hn : 1 ≤ n ∧ n ≤ 16) (hf : fitsS c s (38 + 2 * n) (46 + n) = true) : OkS c ⟨s.done, s.opn.set k (heldT ⟨t.id, t.pages, t.chs ++ [x], t.lens ++ [n]⟩ p), s.used + 38 + 2 * n⟩ := by
  have t1 := h.tns t (List.mem_of_getElem? hk)
  have f := fits_iff.1 hf
  have e : ((⟨t.id, t.pages, t.chs ++ [x], t.lens ++ [n]⟩ : Tn)).kept = t.kept + 46 + n := by simp only [Tn.kept, sumL_append, sumL]; omega
  have ok' : OkTn c ⟨t.id, t.pages, t.chs ++ [x], t.lens ++ [n]⟩ := by
    refine ⟨t1.id, fun m hm => ?_, fun y hy => ?_, t1.pgs, by simp [t1.cln]⟩
    · rcases List.mem_append.1 hm with q | q
      · exact t1.lens m q
      · simp at q; subst q; exact hn
    · rcases List.mem_append.1 hy with q | q
      · exact t1.chs y q
      · simp at q; subst q; exact hx
  exact h.set (t' := heldT ⟨t.id, t.pages, t.chs ++ [x], t.lens ++ [n]⟩ p) (u := s.used + 38 + 2 * n) hk (heldT_id _ _).1 (ok'.held hp) (by have := h.low; omega) (by rw [(heldT_id _ _).2.1, e]; omega)
theorem OkS.hold {c : Cf} {s : St} (h : OkS c s) {k : Nat} {t : Tn} (hk : s.opn[k]? = some t) {p : Int} (hp : 0 ≤ p ∧ p < c.pages) : OkS c ⟨s.done, s.opn.set k (heldT t p), s.used⟩ :=
  h.set hk (heldT_id _ _).1 ((h.tns t (List.mem_of_getElem? hk)).held hp) h.low (by rw [(heldT_id _ _).2.1]; have := h.log; omega)
theorem OkS.undo {c : Cf} {s : St} (h : OkS c s) {k : Nat} {t : Tn} (hk : s.opn[k]? = some t) : OkS c ⟨s.done, s.opn.eraseIdx k, s.used + 66 + sumL t.lens⟩ := by
  have e := h.one hk; have l := h.log
  exact h.erase hk (by have := h.low; omega) (by unfold Tn.kept; omega) h.keyD
theorem OkS.commit {c : Cf} {s : St} (h : OkS c s) {k : Nat} {t : Tn} (hk : s.opn[k]? = some t) : OkS c ⟨s.done ++ [t.chs], s.opn.eraseIdx k, s.used + 66⟩ := by
  have e := h.one hk; have l := h.log
  refine h.erase hk (by have := h.low; omega) (by unfold Tn.kept; omega) (fun m hm x hx => ?_)
  rcases List.mem_append.1 hm with q | q
  · exact h.keyD m q x hx
  · simp at q; subst q; exact (h.tns t (List.mem_of_getElem? hk)).chs x hx
theorem OkS.chk {c : Cf} {s : St} (h : OkS c s) (d : Int) : OkS c (chkS c s d) := by
  unfold chkS
  split
  · rename_i q
    have f := fits_iff.1 q
    have : 0 ≤ chkN c s d := by unfold chkN dirtyC; have := h.may.1.1; split; omega; split <;> omega
    exact ⟨h.may, h.dif, h.len, by have := h.low; show 0 ≤ s.used + chkN c s d; omega, by show s.used + chkN c s d + keptO s.opn ≤ c.log; omega, h.keyD, h.tns⟩
  · exact h
theorem OkS.ren {c : Cf} {s : St} (h : OkS c s) : OkS c (renS s) := by
  unfold renS
  split
  · exact ⟨h.may, h.dif, h.len, Int.le_refl _, by have := h.log; have := h.low; show 0 + keptO s.opn ≤ c.log; omega, h.keyD, h.tns⟩
  · exact h
end Go.Proofs.YtnjfahgmebmakaaGreatDoor

/-
  OWN WORK. The model (layer 18) in plain words: the open ones' numbers; sums behind each step.
-/
namespace Go.Proofs.YtnjfahgmebmakaaGreatDoor
set_option linter.unusedVariables false
theorem mem_idsTo {l : List Tn} : ∀ {n : Nat} {x : Int}, x ∈ idsTo l n ↔ (1 ≤ x ∧ x ≤ (n : Int)) ∧ (findO l x).isSome = true
  | 0, x => by simp [idsTo]; omega
  | n + 1, x => by
    unfold idsTo
    rw [List.mem_append, mem_idsTo (n := n)]
    constructor
    · rintro (⟨h1, h2⟩ | h)
      · exact ⟨⟨h1.1, by omega⟩, h2⟩
      · split at h
        · rename_i q; simp at h; subst h; exact ⟨⟨by omega, by omega⟩, q⟩
        · simp at h
    · rintro ⟨h1, h2⟩
      by_cases c : x = ((n + 1 : Nat) : Int)
      · right; subst c; rw [if_pos h2]; simp
      · exact .inl ⟨⟨h1.1, by omega⟩, h2⟩
theorem idsTo_up {l : List Tn} : ∀ n : Nat, (idsTo l n).Pairwise (· < ·)
  | 0 => .nil
  | n + 1 => by
    unfold idsTo
    refine List.pairwise_append.2 ⟨idsTo_up n, by split <;> simp, fun x hx y hy => ?_⟩
    have := (mem_idsTo.1 hx).1
    split at hy
    · simp at hy; omega
    · simp at hy
theorem findO_mem {l : List Tn} {x : Int} : (findO l x).isSome = true ↔ x ∈ l.map Tn.id := by
  rw [List.mem_map]
  constructor
  · intro h
    obtain ⟨t, ht⟩ := Option.isSome_iff_exists.1 h
    obtain ⟨h1, h2⟩ := findO_some ht
    exact ⟨t, h1, h2⟩
  · rintro ⟨t, h1, h2⟩
    cases e : findO l x with
    | none => exact absurd h2 (findO_none.1 e t h1)
    | some y => rfl
theorem idsS_perm {c : Cf} {s : St} (h : OkS c s) : (idsS s).Perm (s.opn.map Tn.id) := by
  refine (List.perm_ext_iff_of_nodup ((idsTo_up 64).imp fun {a b} q => by omega) ?_).2 fun x => ?_
  · exact List.pairwise_map.2 h.dif
  · skip
    rw [mem_idsTo, findO_mem]
    refine ⟨fun q => q.2, fun q => ⟨?_, q⟩⟩
    obtain ⟨t, h1, h2⟩ := List.mem_map.1 q
    have := h.ids t h1; unfold isId at this; rw [h2] at this; omega
theorem idsS_length {c : Cf} {s : St} (h : OkS c s) : (idsS s).length = s.opn.length := by rw [(idsS_perm h).length_eq, List.length_map]
theorem idsS_up (s : St) : (idsS s).Pairwise (· < ·) := idsTo_up 64
theorem keptO_low {l : List Tn} (h : ∀ t ∈ l, ∀ n ∈ t.lens, 1 ≤ n ∧ n ≤ 16) : 99 * (l.length : Int) ≤ keptO l := by
  induction l with
  | nil => simp [keptO]
  | cons t r ih => have e1 := sumL_pos (h t (by simp)); have e2 := ih (fun x hx => h x (by simp [hx])); simp only [keptO, Tn.kept, List.length_cons]; omega
theorem kept_zero {c : Cf} {s : St} (h : OkS c s) : (s.opn.length = 0 ↔ keptO s.opn = 0) := by
  have := keptO_low h.lens
  constructor
  · intro e; rw [List.eq_nil_of_length_eq_zero e]; rfl
  · intro e; omega
end Go.Proofs.YtnjfahgmebmakaaGreatDoor

/-
  OWN WORK. Plain arithmetic: numbers as bytes, the lowest first.
-/
namespace Go.Proofs.YtnjfahgmebmakaaGreatDoor
set_option linter.unusedVariables false

/-- the number that these bytes are -/
def low : List UInt8 → Nat
  | [] => 0
  | x :: r => x.toNat + 256 * low r
/-- n bytes of a number, the lowest first -/
def lay (n v : Nat) : List UInt8 := (List.range n).map fun i => UInt8.ofNat (v / 256 ^ i)

theorem low_lt (l : List UInt8) : low l < 256 ^ l.length := by
  induction l with
  | nil => simp [low]
  | cons x r ih =>
    have := x.toNat_lt
    simp only [low, List.length_cons, Nat.pow_succ]
    omega
theorem low_append (a b : List UInt8) : low (a ++ b) = low a + 256 ^ a.length * low b := by
  induction a with
  | nil => simp [low]
  | cons x r ih =>
    simp only [List.cons_append, low, ih, List.length_cons, Nat.pow_succ, Nat.mul_add]
    rw [Nat.mul_comm (256 ^ r.length) 256, Nat.mul_assoc]
    omega
theorem low_take (l : List UInt8) (k : Nat) (h : k < l.length) : low (l.take (k + 1)) = low (l.take k) + l[k].toNat * 256 ^ k := by
  rw [List.take_succ_eq_append_getElem h, low_append]
  have : (l.take k).length = k := by simp; omega
  rw [this]
  simp [low, Nat.mul_comm]
theorem low_take_lt (l : List UInt8) (k : Nat) (h : k ≤ l.length) : low (l.take k) < 256 ^ k := by
  have := low_lt (l.take k)
  rwa [show (l.take k).length = k by simp; omega] at this
theorem pow256 (k : Nat) : 256 ^ k = 2 ^ (8 * k) := by rw [Nat.pow_mul]
theorem low_lt64 (l : List UInt8) (h : l.length ≤ 8) : low l < 18446744073709551616 := by
  have h1 := low_lt l
  have h2 : 256 ^ l.length ≤ 256 ^ 8 := Nat.pow_le_pow_right (by omega) h
  have h3 : 256 ^ 8 = 18446744073709551616 := by decide
  omega

theorem bits_or_u64_nat (a b : Nat) (ha : a < 18446744073709551616) (hb : b < 18446744073709551616) :
    bits .or .u64 (a : Int) (b : Int) = ((a ||| b : Nat) : Int) := by
  have hx : a ||| b < 2 ^ 64 := Nat.or_lt_two_pow (by omega) (by omega)
  have h1 : (BitVec.ofInt 64 (a : Int)).toNat = a := by
    rw [BitVec.ofInt_natCast, BitVec.toNat_ofNat]; exact Nat.mod_eq_of_lt (by omega)
  have h2 : (BitVec.ofInt 64 (b : Int)).toNat = b := by
    rw [BitVec.ofInt_natCast, BitVec.toNat_ofNat]; exact Nat.mod_eq_of_lt (by omega)
  show IntKind.u64.wrap ((BitVec.ofInt 64 (a : Int) ||| BitVec.ofInt 64 (b : Int)).toNat : Int) = _
  rw [BitVec.toNat_or, h1, h2, IntKind.wrap_u64]
  omega
theorem bits_and_u64_nat (a b : Nat) (ha : a < 18446744073709551616) (hb : b < 18446744073709551616) :
    bits .and .u64 (a : Int) (b : Int) = ((a &&& b : Nat) : Int) := by
  have hx : a &&& b < 2 ^ 64 := Nat.and_lt_two_pow _ (by omega)
  have h1 : (BitVec.ofInt 64 (a : Int)).toNat = a := by
    rw [BitVec.ofInt_natCast, BitVec.toNat_ofNat]; exact Nat.mod_eq_of_lt (by omega)
  have h2 : (BitVec.ofInt 64 (b : Int)).toNat = b := by
    rw [BitVec.ofInt_natCast, BitVec.toNat_ofNat]; exact Nat.mod_eq_of_lt (by omega)
  show IntKind.u64.wrap ((BitVec.ofInt 64 (a : Int) &&& BitVec.ofInt 64 (b : Int)).toNat : Int) = _
  rw [BitVec.toNat_and, h1, h2, IntKind.wrap_u64]
  omega

/-- one byte more, from above: 'v |= uint64(x) << (8 * i)' -/
theorem or_byte (a k : Nat) (x : UInt8) (h : a < 256 ^ k) (hk : k < 8) :
    bits .or .u64 (a : Int) (IntKind.u64.wrap (IntKind.u64.wrap (x.toNat : Int) * 2 ^ (8 * k))) = ((a + x.toNat * 256 ^ k : Nat) : Int) := by
  have hx := x.toNat_lt
  have h1 : IntKind.u64.wrap (x.toNat : Int) = (x.toNat : Int) := by rw [IntKind.wrap_u64]; omega
  have hp : 256 ^ (k + 1) ≤ 256 ^ 8 := Nat.pow_le_pow_right (by omega) (by omega)
  have h8 : 256 ^ 8 = 18446744073709551616 := by decide
  have hpk : 0 < 256 ^ k := Nat.pow_pos (by omega)
  have hm : x.toNat * 256 ^ k ≤ 255 * 256 ^ k := Nat.mul_le_mul_right _ (by omega)
  have hs : 256 ^ (k + 1) = 256 ^ k * 256 := Nat.pow_succ ..
  have h2 : IntKind.u64.wrap ((x.toNat : Int) * 2 ^ (8 * k)) = ((x.toNat * 256 ^ k : Nat) : Int) := by
    have e : ((x.toNat : Int) * 2 ^ (8 * k)) = ((x.toNat * 256 ^ k : Nat) : Int) := by rw [pow256]; simp
    rw [e, IntKind.wrap_u64]
    omega
  rw [h1, h2, bits_or_u64_nat _ _ (by omega) (by omega)]
  have := Nat.two_pow_add_eq_or_of_lt (i := 8 * k) (b := a) (by rw [← pow256]; exact h) x.toNat
  rw [Nat.or_comm, Nat.mul_comm, pow256, ← this, Nat.add_comm]
theorem low_or (l : List UInt8) (k : Nat) (h : k < l.length) (h8 : l.length ≤ 8) :
    bits .or .u64 (low (l.take k) : Int) (IntKind.u64.wrap (IntKind.u64.wrap (l[k].toNat : Int) * 2 ^ (8 * k))) = (low (l.take (k + 1)) : Int) := by
  rw [or_byte _ _ _ (low_take_lt l k (by omega)) (by omega), low_take l k h]

theorem lay_length (n v : Nat) : (lay n v).length = n := by simp [lay]
theorem lay_succ (n v : Nat) : lay (n + 1) v = lay n v ++ [UInt8.ofNat (v / 256 ^ n)] := by simp [lay, List.range_succ]
theorem lay_zero (v : Nat) : lay 0 v = [] := rfl
theorem low_lay (n v : Nat) : low (lay n v) = v % 256 ^ n := by
  induction n with
  | zero => simp [lay, low, Nat.mod_one]
  | succ n ih =>
    rw [lay_succ, low_append, ih, lay_length]
    simp only [low, Nat.mul_zero, Nat.add_zero, UInt8.toNat_ofNat']
    have e : v % 256 ^ (n + 1) = v % 256 ^ n + 256 ^ n * (v / 256 ^ n % 256) := by rw [Nat.pow_succ, Nat.mod_mul]
    rw [e]
theorem lay_cons (n v : Nat) : lay (n + 1) v = UInt8.ofNat v :: lay n (v / 256) := by
  simp only [lay, List.range_succ_eq_map, List.map_cons, List.map_map]
  simp only [Nat.pow_zero, Nat.div_one]
  congr 1
  apply List.map_congr_left
  intro i _
  simp only [Function.comp]
  rw [Nat.div_div_eq_div_mul, Nat.pow_succ, Nat.mul_comm]
theorem byte_of (x k : Nat) : (x : Int) / 2 ^ (8 * k) % 256 = ((UInt8.ofNat (x / 256 ^ k)).toNat : Int) := by
  rw [UInt8.toNat_ofNat', pow256]
  have : ((2 : Int) ^ (8 * k)) = ((2 ^ (8 * k) : Nat) : Int) := by simp
  rw [this]
  generalize 2 ^ (8 * k) = m
  rw [← Int.natCast_ediv]
  show ((x / m : Nat) : Int) % ((256 : Nat) : Int) = _
  rw [← Int.natCast_emod]
theorem wrap_u8 {x : Nat} (h : x < 256 ^ 1) : IntKind.u8.wrap (x : Int) = (x : Int) := by
  simp only [IntKind.wrap, IntKind.bits, IntKind.signed]
  have : 256 ^ 1 = 256 := by decide
  simp
  omega
theorem wrap_u16 {x : Nat} (h : x < 256 ^ 2) : IntKind.u16.wrap (x : Int) = (x : Int) := by
  simp only [IntKind.wrap, IntKind.bits, IntKind.signed]
  have : 256 ^ 2 = 65536 := by decide
  simp
  omega
theorem wrap_u32 {x : Nat} (h : x < 256 ^ 4) : IntKind.u32.wrap (x : Int) = (x : Int) := by
  simp only [IntKind.wrap, IntKind.bits, IntKind.signed]
  have : 256 ^ 4 = 4294967296 := by decide
  simp
  omega
theorem byte_mod (z : Nat) : (z : Int) % 256 = ((UInt8.ofNat z).toNat : Int) := by
  rw [UInt8.toNat_ofNat']
  omega
theorem low_drop (l : List UInt8) (j : Nat) (h : j < l.length) : low (l.drop j) = l[j].toNat + 256 * low (l.drop (j + 1)) := by
  rw [List.drop_eq_getElem_cons h, low]
theorem get_step (z : Nat) (x : UInt8) (h : x.toNat + 256 * z < 18446744073709551616) :
    IntKind.u64.wrap (IntKind.u64.wrap ((z : Int) * 256) + IntKind.u64.wrap (x.toNat : Int)) = ((x.toNat + 256 * z : Nat) : Int) := by
  rw [IntKind.wrap_u64, IntKind.wrap_u64, IntKind.wrap_u64]
  omega
theorem div_step (z : Nat) (h : z < 18446744073709551616) : IntKind.u64.wrap ((z : Int) / 256) = ((z / 256 : Nat) : Int) := by
  rw [IntKind.wrap_u64]
  omega
theorem get_bound (l : List UInt8) (n j : Nat) (hl : n ≤ l.length) (hj : j < n) (h8 : n ≤ 8) : low ((l.take n).drop j) = l[j].toNat + 256 * low ((l.take n).drop (j + 1)) ∧ low ((l.take n).drop j) < 18446744073709551616 := by
  have hlen : (l.take n).length = n := by simp; omega
  refine ⟨?_, low_lt64 _ (by simp; omega)⟩
  rw [low_drop _ j (by omega)]
  simp
/-- 'v & (1<<(8*width) - 1)' -/
theorem and_mask (x n : Nat) (hx : x < 18446744073709551616) (h8 : n ≤ 8) : bits .and .u64 (x : Int) ((256 ^ n - 1 : Nat) : Int) = ((x % 256 ^ n : Nat) : Int) := by
  have h2 : 256 ^ n ≤ 256 ^ 8 := Nat.pow_le_pow_right (by omega) h8
  have h3 : 256 ^ 8 = 18446744073709551616 := by decide
  have h4 : 0 < 256 ^ n := Nat.pow_pos (by decide)
  rw [bits_and_u64_nat _ _ hx (by omega), pow256, Nat.and_two_pow_sub_one_eq_mod]
theorem low_lay_lt (n m : Nat) (h : m < 256 ^ n) : low (lay n m) = m := by rw [low_lay, Nat.mod_eq_of_lt h]
theorem low_lay_take (n m : Nat) (h : m < 256 ^ n) : low ((lay n m).take n) = m := by
  rw [List.take_of_length_le (by rw [lay_length]; omega)]
  exact low_lay_lt n m h
theorem take_left {α : Type} (a b : List α) : (a ++ b).take a.length = a := by simp
theorem drop_left {α : Type} (a b : List α) : (a ++ b).drop a.length = b := by simp
end Go.Proofs.YtnjfahgmebmakaaGreatDoor

/-
  OWN WORK. copy into a part of an owned row; a byte list laid over another.
-/
namespace Go.Proofs.YtnjfahgmebmakaaGreatDoor
open Go.RowKit
set_option linter.unusedVariables false

/-- r laid over L from the place off on -/
def over (L : List UInt8) (off : Nat) (r : List UInt8) : List UInt8 := L.take off ++ (r ++ L.drop (off + r.length))
theorem over_length (L : List UInt8) (off : Nat) (r : List UInt8) (h : off + r.length ≤ L.length) : (over L off r).length = L.length := by simp [over]; omega
theorem over_nil (L : List UInt8) (off : Nat) : over L off [] = L := by simp [over]
theorem over_at (L : List UInt8) (off : Nat) (r : List UInt8) (h : off + r.length ≤ L.length) (i : Nat) : (over L off r)[i]? = if off ≤ i ∧ i < off + r.length then r[i - off]? else L[i]? := by
  unfold over
  by_cases h1 : i < off
  · rw [List.getElem?_append_left (by simp; omega), List.getElem?_take, if_pos h1, if_neg (by omega)]
  · rw [List.getElem?_append_right (by simp; omega)]
    have e : (L.take off).length = off := by simp; omega
    rw [e]
    by_cases h2 : i < off + r.length
    · rw [List.getElem?_append_left (by omega), if_pos ⟨by omega, h2⟩]
    · rw [List.getElem?_append_right (by omega), List.getElem?_drop, if_neg (by omega)]
      congr 1; omega
/-- 'copy(out[off:..], b)': out the call's own row; what is cut is at least as long as b. -/
theorem wpList_copy_part {P : Program} {w : World} {ops : Array Oper} {rest : List Oper} {o : Oper} {a : Act} {Q : Exit → Act → World → Prop} (hgd : o.guard = none) (d s : Operand) (t : TypeId)
    (ho : o.op = .call { callee := .builtin .copy, args := #[d, s], argTypes := #[t, t] }) (base : Nat) (e : TypeId) (hu : P.underlying t = some (.slice e))
    (hsz : (P.info? e).map (·.size) = some 1)
    (v : Value) (n : Nat) (L : List UInt8) (hown : w.ownsRow base e 1 v n (u8s L)) (off : Nat) (dp : Option Addr) (dLen dCap : Nat) (hd : a.eval d = .slice dp dLen dCap)
    (hdp : 0 < dLen → ∃ g, v.ownBlock = some g ∧ dp = some ⟨g, off, none⟩) (sv : Value) (r : List UInt8) (hx : a.eval s = sv) (hb : Bs w sv r) (hr : r.length ≤ dLen) (hfit : off + dLen ≤ n)
    (h : ∀ w', w'.ownsRow base e 1 v n (u8s (over L off r)) → w.grownBy w' v.ownBlock → wpList P ops Q rest (a.put o.dst (goInt r.length)) w') : wpList P ops Q (o :: rest) a w := by
  obtain ⟨p, c, rfl, h1, h2, h3, h4⟩ := hb
  by_cases h0 : r.length = 0
  · obtain rfl : r = [] := List.eq_nil_of_length_eq_zero h0
    refine wpList_copy_nothing hgd d s t t ho e hu hsz dp p dLen dCap 0 c hd hx (by simp) ?_
    exact h w (by rw [over_nil]; exact hown) (World.grownBy.refl _ _)
  · obtain ⟨g, hgv, rfl⟩ := hdp (by omega)
    cases p with
    | none => have := h3 rfl; omega
    | some ad =>
      have hn : n = L.length := by have := hown.1; rw [u8s_length] at this; omega
      subst hn
      rcases hown.2 with ⟨rfl, hz⟩ | ⟨g', cap, cur, rfl, hbg, hg, hnc, hcm, hcs, htk⟩
      · simp [Value.ownBlock] at hgv
      · have e1 : g' = g := by simpa [Value.ownBlock] using hgv
        subst e1
        refine wpList_copy_own hgd d s t t ho e hu hsz g' off dLen dCap ad r.length c hd hx cur e hg (u8s r) (by rw [u8s_length]; simp [Nat.min_def]; omega) (fun j u hj => by obtain ⟨y, hy, rfl⟩ := u8s_at hj; exact h4 ad rfl j y hy) (by rw [u8s_length]; omega) (u8s_one r) ?_
        rw [u8s_length]
        have hgl : g' < w.heap.size := (Array.getElem?_eq_some_iff.1 hg).1
        refine h _ ⟨by rw [u8s_length, over_length _ _ _ (by omega)]; omega, .inr ⟨g', cap, _, rfl, hbg, setRow_heap w g' cur _ e (0, 0) hg, hnc, hcm, ?_, ?_⟩⟩ ⟨rfl, rfl, rfl, by simp [World.setRow], fun k hk hne => setRow_other w g' k _ (by intro e2; subst e2; exact hne rfl)⟩
        · simp [u8s_length]; omega
        · simp only [Nat.mul_one] at htk ⊢
          have hT : cur.toList.take L.length = u8s L := htk
          have hsz' : cur.toList.length = cap := by simp [hcs]
          apply List.ext_getElem?
          intro j
          have hcur : ∀ j, j < L.length → cur.toList[j]? = (u8s L)[j]? := fun j hj => by rw [← hT, List.getElem?_take, if_pos hj]
          by_cases hj : j < L.length
          · rw [List.getElem?_take, if_pos hj]
            have e3 : (u8s (over L off r))[j]? = if off ≤ j ∧ j < off + r.length then (u8s r)[j - off]? else (u8s L)[j]? := by
              simp only [u8s, List.getElem?_map, over_at L off r (by omega) j]
              split <;> rfl
            rw [e3]
            by_cases c1 : j < off
            · rw [List.getElem?_append_left (by simp; omega), List.getElem?_take, if_pos c1, if_neg (by omega), hcur j hj]
            · rw [List.getElem?_append_right (by simp; omega)]
              have e4 : (cur.toList.take off).length = off := by simp; omega
              rw [e4]
              by_cases c2 : j < off + r.length
              · rw [List.getElem?_append_left (by rw [u8s_length]; omega), if_pos ⟨by omega, c2⟩]
              · rw [List.getElem?_append_right (by rw [u8s_length]; omega), List.getElem?_drop, if_neg (by omega), u8s_length, ← hcur j hj]
                congr 1; omega
          · rw [List.getElem?_eq_none (by simp; omega), List.getElem?_eq_none (by rw [u8s_length, over_length _ _ _ (by omega)]; omega)]
end Go.Proofs.YtnjfahgmebmakaaGreatDoor

/-
  OWN WORK. Rows of the call's own whose elements have several cells, told by their cells: also a front of one, with no spare.
-/
namespace Go.Proofs.YtnjfahgmebmakaaGreatDoor
open Go.RowKit
set_option linter.unusedVariables false

/-- v: n elements of sz cells each, the cells cs, in a block of the call's own (at base or behind), from its beginning on -/
def Row (w : World) (base sz : Nat) (v : Value) (n : Nat) (cs : List Value) : Prop :=
  cs.length = n * sz ∧ (∀ u ∈ cs, u.oneCell' = true) ∧ ∃ p c, v = .slice p n c ∧ n ≤ c ∧ c ≤ maxLen ∧ ((p = none ∧ c = 0) ∨ ∃ g, p = some ⟨g, 0, none⟩ ∧ base ≤ g ∧ g < w.heap.size ∧
    (∀ (j : Nat) u, cs[j]? = some u → w.cell? ⟨g, j, none⟩ = some u) ∧ ∀ j, j < c * sz → (w.cell? ⟨g, j, none⟩).isSome = true ∧ w.frozen? ⟨g, j, none⟩ = false)
theorem Row.nil (w : World) (base sz : Nat) : Row w base sz (.slice none 0 0) 0 [] := ⟨by simp, by simp, none, 0, rfl, Nat.le_refl _, by simp [maxLen], .inl ⟨rfl, rfl⟩⟩
theorem frozen_of_block {w w' : World} {a : Addr} (h : w'.heap[a.block]? = w.heap[a.block]?) : w'.frozen? a = w.frozen? a := World.frozen?_of_block h
theorem Row.kept {w w' : World} {base sz : Nat} {v : Value} {n : Nat} {cs : List Value} {S : List Nat} (h : Row w base sz v n cs) (k : Kept S w w') (hS : ∀ x, v.ownBlock = some x → x ∉ S) : Row w' base sz v n cs := by
  obtain ⟨h1, h2, p, c, rfl, h3, h4, h5⟩ := h
  refine ⟨h1, h2, p, c, rfl, h3, h4, ?_⟩
  rcases h5 with h5 | ⟨g, rfl, h6, h7, h8, h9⟩
  · exact .inl h5
  · have e := k.block g h7 (hS g rfl)
    exact .inr ⟨g, rfl, h6, Nat.lt_of_lt_of_le h7 k.size, fun j u hj => (World.cell?_of_block (a := ⟨g, j, none⟩) e).trans (h8 j u hj), fun j hj => ⟨by rw [World.cell?_of_block (a := ⟨g, j, none⟩) e]; exact (h9 j hj).1, (frozen_of_block (a := ⟨g, j, none⟩) e).trans (h9 j hj).2⟩⟩
theorem Row.shape {w : World} {base sz : Nat} {v : Value} {n : Nat} {cs : List Value} (h : Row w base sz v n cs) : ∃ p c, v = .slice p n c ∧ n ≤ c ∧ c ≤ maxLen := by
  obtain ⟨-, -, p, c, rfl, h3, h4, -⟩ := h
  exact ⟨p, c, rfl, h3, h4⟩
theorem Row.pos {w : World} {base sz : Nat} {p : Option Addr} {n c : Nat} {cs : List Value} (h : Row w base sz (.slice p n c) n cs) (hn : 0 < n) :
    ∃ g, p = some ⟨g, 0, none⟩ ∧ base ≤ g ∧ g < w.heap.size ∧ (∀ (j : Nat) u, cs[j]? = some u → w.cell? ⟨g, j, none⟩ = some u) ∧ ∀ j, j < c * sz → (w.cell? ⟨g, j, none⟩).isSome = true ∧ w.frozen? ⟨g, j, none⟩ = false := by
  obtain ⟨h1, h2, p', c', e, h3, h4, h5⟩ := h
  cases e
  rcases h5 with ⟨-, h5⟩ | h5
  · omega
  · exact h5
theorem Row.lt {w : World} {base sz : Nat} {v : Value} {n : Nat} {cs : List Value} (h : Row w base sz v n cs) (x : Nat) (hx : v.ownBlock = some x) : base ≤ x ∧ x < w.heap.size := by
  obtain ⟨h1, h2, p, c, rfl, h3, h4, h5⟩ := h
  rcases h5 with ⟨rfl, -⟩ | ⟨g, rfl, h6, h7, -⟩
  · simp [Value.ownBlock] at hx
  · simp [Value.ownBlock] at hx
    subst hx
    exact ⟨h6, h7⟩
theorem Row.mono {w : World} {base base' sz : Nat} {v : Value} {n : Nat} {cs : List Value} (h : Row w base sz v n cs) (hb : base' ≤ base) : Row w base' sz v n cs := by
  obtain ⟨h1, h2, p, c, rfl, h3, h4, h5⟩ := h
  refine ⟨h1, h2, p, c, rfl, h3, h4, ?_⟩
  rcases h5 with h5 | ⟨g, rfl, h6, h7, h8⟩
  · exact .inl h5
  · exact .inr ⟨g, rfl, Nat.le_trans hb h6, h7, h8⟩
/-- a cell of one is set -/
theorem Row.set {w : World} {base sz g n c : Nat} {cs : List Value} (h : Row w base sz (.slice (some ⟨g, 0, none⟩) n c) n cs) (j : Nat) (hj : j < n * sz) (u : Value) (hu : u.oneCell' = true) :
    Row (w.setCell ⟨g, j, none⟩ u) base sz (.slice (some ⟨g, 0, none⟩) n c) n (cs.set j u) ∧ Kept [g] w (w.setCell ⟨g, j, none⟩ u) := by
  have hk : Kept [g] w (w.setCell ⟨g, j, none⟩ u) := (Kept.refl [g] w).setCell (.inl (by simp)) u
  obtain ⟨h1, h2, p', c', e, h3, h4, h5⟩ := h
  cases e
  refine ⟨⟨by rw [List.length_set]; exact h1, fun x hx => ?_, _, _, rfl, h3, h4, ?_⟩, hk⟩
  · rcases List.mem_or_eq_of_mem_set hx with hx | hx
    · exact h2 x hx
    · rw [hx]; exact hu
  · rcases h5 with ⟨h5, -⟩ | ⟨g', e, h6, h7, h8, h9⟩
    · cases h5
    · cases e
      obtain ⟨old, hold⟩ : ∃ old, cs[j]? = some old := ⟨_, List.getElem?_eq_getElem (by omega)⟩
      have hc := h8 j old hold
      refine .inr ⟨g, rfl, h6, Nat.lt_of_lt_of_le h7 hk.size, fun k x hx => ?_, fun k hk' => ⟨?_, by rw [World.frozen?_setCell]; exact (h9 k hk').2⟩⟩
      · rw [List.getElem?_set] at hx
        by_cases e : j = k
        · subst e
          rw [if_pos rfl, if_pos (by omega)] at hx
          cases hx
          exact World.cell?_setCell_same _ _ _ hc
        · rw [if_neg e] at hx
          rw [World.cell?_setCell_other _ _ _ _ (by first | (simp; done) | (simp; omega))]
          exact h8 k x hx
      · by_cases e : j = k
        · subst e
          rw [World.cell?_setCell_same _ _ _ hc]; rfl
        · rw [World.cell?_setCell_other _ _ _ _ (by first | (simp; done) | (simp; omega))]
          exact (h9 k hk').1
/-- a front of one, with no spare -/
theorem Row.front {w : World} {base sz : Nat} {p : Option Addr} {n c : Nat} {cs : List Value} (h : Row w base sz (.slice p n c) n cs) (i : Nat) (hi : i ≤ n) (hn : 0 < n) : Row w base sz (.slice p i i) i (cs.take (i * sz)) := by
  obtain ⟨g, rfl, h6, h7, h8, h9⟩ := h.pos hn
  obtain ⟨h1, h2, p', c', e, h3, h4, h5⟩ := h
  cases e
  have hm : i * sz ≤ n * sz := Nat.mul_le_mul_right _ hi
  have hm2 : i * sz ≤ c * sz := Nat.mul_le_mul_right _ (by omega)
  refine ⟨by rw [List.length_take]; omega, fun u hu => h2 u (List.mem_of_mem_take hu), _, i, rfl, Nat.le_refl _, by omega, .inr ⟨g, rfl, h6, h7, fun j u hj => ?_, fun j hj => h9 j (by omega)⟩⟩
  rw [List.getElem?_take] at hj
  split at hj
  · exact h8 j u hj
  · cases hj
theorem kept_setCells (g : Nat) : ∀ (vs : List Value) (o : Nat) (w : World), Kept [g] w (w.setCells g o vs)
  | [], _, w => Kept.refl _ _
  | v :: r, o, w => ((Kept.refl [g] w).setCell (p := ⟨g, o, none⟩) (.inl (by simp)) v).trans (kept_setCells g r (o + 1) _) (by intro x hx; exact .inl hx)
/-- 'append(l, x...)' -/
theorem run_append_row {P : Program} (w : World) (base : Nat) (t ty e : TypeId) (i : TypeInfo) (z : Value) (sz bytes : Nat) (ht : P.underlying t = some (.slice e)) (hi : P.info? e = some i) (hz : i.zero = some z) (hsize : i.size = sz) (hby : i.bytes = bytes) (hzs : z.cells.size = sz)
    (v : Value) (n : Nat) (cs : List Value) (h : Row w base sz v n cs) (x : Value) (m : Nat) (news : List Value) (hs : Src P sz t x m news w) (h63 : n + m ≤ 9223372036854775807) (hmx : n + m ≤ maxLen) (hbytes : (n + m) * bytes ≤ 140737488355328) (hbase : base ≤ w.heap.size) :
    ∃ v' w', (Builtin.append_ #[t, t] ty #[v, x]).run P w = .ok v' w' ∧ Row w' base sz v' (n + m) (cs ++ news) ∧ Kept v.ownBlock.toList w w' ∧ (v'.ownBlock = v.ownBlock ∨ v'.ownBlock = some w.heap.size) := by
  subst hsize
  subst hby
  have hnl := hs.newsLen
  have hall : ∀ u ∈ cs ++ news, u.oneCell' = true := by
    intro u hu
    rcases List.mem_append.1 hu with hu | hu
    · exact h.2.1 u hu
    · exact hs.one u hu
  have hlen : (cs ++ news).length = (n + m) * i.size := by rw [List.length_append, h.1, hnl, Nat.add_mul]
  obtain ⟨p, c, rfl, h3, h4⟩ := h.shape
  by_cases hfit : n + m ≤ c
  · cases p with
    | none =>
      obtain ⟨h1, h2, p', c', e', -, -, h5⟩ := id h
      cases e'
      rcases h5 with ⟨-, rfl⟩ | ⟨g, e, -⟩
      · obtain rfl : n = 0 := by omega
        obtain rfl : m = 0 := by omega
        obtain rfl : news = [] := List.eq_nil_of_length_eq_zero (by simpa using hnl)
        exact ⟨_, _, run_append_nothing (P := P) w t t ty e i ht hi none 0 0 (Nat.le_refl _) x hs, by simpa using h, Kept.refl _ _, .inl rfl⟩
      · cases e
    | some a =>
      obtain ⟨h1, h2, p', c', e', -, -, h5⟩ := id h
      cases e'
      rcases h5 with ⟨e, -⟩ | ⟨g, e, h6, h7, h8, h9⟩
      · cases e
      · cases e
        have hm : n * i.size + m * i.size ≤ c * i.size := by rw [← Nat.add_mul]; exact Nat.mul_le_mul_right _ hfit
        have hthere : ∀ j, j < news.length → (w.cell? ⟨g, 0 + n * i.size + j, none⟩).isSome = true := fun j hj => (h9 _ (by omega)).1
        have hrun := run_append_room_src (P := P) w t t ty e i ht hi g 0 n c x m news hs hfit hthere (fun j hj => (h9 _ (by omega)).2)
        have hk := kept_setCells g news (0 + n * i.size) w
        refine ⟨_, _, hrun, ⟨hlen, hall, _, _, rfl, hfit, h4, .inr ⟨g, rfl, h6, Nat.lt_of_lt_of_le h7 hk.size, fun j u hj => ?_, fun j hj => ⟨?_, by rw [World.frozen?_setCells]; exact (h9 j hj).2⟩⟩⟩, by simpa [Value.ownBlock] using hk, .inl rfl⟩
        · by_cases hjc : j < cs.length
          · rw [List.getElem?_append_left hjc] at hj
            rw [World.cell?_setCells_out g news _ w _ (fun _ _ => .inl (by simp; omega))]
            exact h8 j u hj
          · rw [List.getElem?_append_right (by omega)] at hj
            obtain ⟨hlt, rfl⟩ := List.getElem?_eq_some_iff.1 hj
            have := World.cell?_setCells_in g news (0 + n * i.size) w hthere (j - cs.length) hlt
            rw [show 0 + n * i.size + (j - cs.length) = j by omega] at this
            exact this
        · by_cases hjin : 0 + n * i.size ≤ j ∧ j < 0 + n * i.size + news.length
          · have := World.cell?_setCells_in g news (0 + n * i.size) w hthere (j - (0 + n * i.size)) (by omega)
            rw [show 0 + n * i.size + (j - (0 + n * i.size)) = j by omega] at this
            rw [this]; rfl
          · rw [World.cell?_setCells_out g news _ w _ (fun _ _ => by simp; omega)]
            exact (h9 j hj).1
  · have hold : (Builtin.firstCells i.size n (.slice p n c)).run P w.drew = .ok cs.toArray w.drew := by
      obtain ⟨h1, h2, p', c', e', -, -, h5⟩ := id h
      cases e'
      rcases h5 with ⟨rfl, rfl⟩ | ⟨g, rfl, h6, h7, h8, h9⟩
      · obtain rfl : n = 0 := by omega
        obtain rfl : cs = [] := List.eq_nil_of_length_eq_zero (by simpa using h1)
        exact run_firstCells_none w.drew i.size 0 0 0
      · exact run_firstCells_some w.drew i.size n ⟨g, 0, none⟩ n c cs h1 (fun j u hj => by rw [add_none rfl]; simpa using h8 j u hj)
    have hg : c < n + m := by omega
    have hrun := run_append_grow_src (P := P) w t t ty e i z ht hi hz p n c cs hold x m news hs hg (by omega) (growslice_fits hg hbytes)
    have hge := grownCap_ge w (n + m) c e
    have hcm := grownCap_le_maxLen w (n + m) c e hmx
    have hsz : ((cs ++ news).toArray ++ Builtin.zeroCells z.cells (grownCap w (n + m) c e - (n + m))).size = grownCap w (n + m) c e * i.size := by
      rw [Array.size_append, List.size_toArray, hlen, size_zeroCells, hzs, ← Nat.add_mul]
      congr 1
      omega
    have hk : Kept [] w (w.drew.alloc (.cells ((cs ++ news).toArray ++ Builtin.zeroCells z.cells (grownCap w (n + m) c e - (n + m))) e)) := ((Kept.refl [] w).drew).alloc _
    refine ⟨_, _, hrun, ⟨hlen, hall, _, _, rfl, hge, hcm, .inr ⟨w.heap.size, rfl, hbase, by simp, fun j u hj => ?_, fun j hj => ⟨?_, World.frozen?_alloc_new w.drew _ _ j⟩⟩⟩, hk.mono (by simp), .inr rfl⟩
    · have e1 : (w.drew.alloc (.cells ((cs ++ news).toArray ++ Builtin.zeroCells z.cells (grownCap w (n + m) c e - (n + m))) e)).cell? ⟨w.heap.size, j, none⟩ = _ := World.cell?_alloc_new w.drew _ _ j
      have hjl := (List.getElem?_eq_some_iff.1 hj).1
      rw [e1, Array.getElem?_append_left (by simpa using hjl), List.getElem?_toArray, hj]
    · have e1 : (w.drew.alloc (.cells ((cs ++ news).toArray ++ Builtin.zeroCells z.cells (grownCap w (n + m) c e - (n + m))) e)).cell? ⟨w.heap.size, j, none⟩ = _ := World.cell?_alloc_new w.drew _ _ j
      rw [e1, Array.getElem?_eq_getElem (by rw [hsz]; exact hj)]
      rfl
theorem info_parts3 {P : Program} {e : TypeId} {z : Value} {sz by' : Nat} (h : (P.info? e).map (fun i => (i.zero, i.size, i.bytes)) = some (some z, sz, by')) : ∃ i, P.info? e = some i ∧ i.zero = some z ∧ i.size = sz ∧ i.bytes = by' := by
  obtain ⟨i, hi, h'⟩ := Option.map_eq_some_iff.1 h
  simp only [Prod.mk.injEq] at h'
  exact ⟨i, hi, h'.1, h'.2.1, h'.2.2⟩
/-- what is cut off a row behind its k-th element is a source -/
theorem Row.rest {P : Program} {w w' : World} {base sz g n c : Nat} {cs : List Value} {t e : TypeId} (ht : P.underlying t = some (.slice e)) (h : Row w base sz (.slice (some ⟨g, 0, none⟩) n c) n cs) (hc : ∀ (j : Nat) u, cs[j]? = some u → w'.cell? ⟨g, j, none⟩ = some u) (k : Nat) (hk : k ≤ n) (sa : Option Addr)
    (hsa : sa = if c = k then some ⟨g, 0, none⟩ else Option.map (fun x : Addr => x.add (k * sz)) (some ⟨g, 0, none⟩)) : Src P sz t (.slice sa (n - k) (c - k)) (n - k) (cs.drop (k * sz)) w' := by
  obtain ⟨h1, h2, p', c', e', h3, h4, h5⟩ := h
  cases e'
  have hl : (cs.drop (k * sz)).length = (n - k) * sz := by rw [List.length_drop, h1, Nat.sub_mul]
  have hone : ∀ u ∈ cs.drop (k * sz), u.oneCell' = true := fun u hu => h2 u (List.mem_of_mem_drop hu)
  by_cases e : c = k
  · rw [if_pos e] at hsa
    subst hsa
    have h0 : cs.drop (k * sz) = [] := List.eq_nil_of_length_eq_zero (by rw [hl, show n - k = 0 by omega]; simp)
    exact Src.ofSlice w' ht _ _ _ _ hl (fun j u hj => by rw [h0] at hj; simp at hj) hone
  · rw [if_neg e] at hsa
    subst hsa
    refine Src.ofSlice w' ht _ _ _ _ hl (fun j u hj => ?_) hone
    rw [Go.Proofs.YtnjfahgmebmakaaGreatDoor.add_add, add_none (a := ⟨g, 0, none⟩) rfl]
    rw [List.getElem?_drop] at hj
    simpa using hc _ u hj
/-- the same in a walk, and at a step of a region that draws its order -/
theorem wpList_append_row {P : Program} {w : World} {ops : Array Oper} {rest : List Oper} {o : Oper} {a : Act} {Q : Exit → Act → World → Prop} (hgd : o.guard = none) (s x : Operand) (t : TypeId)
    (ho : o.op = .call { callee := .builtin .append, args := #[s, x], argTypes := #[t, t] }) (base : Nat) (e : TypeId) (i : TypeInfo) (z : Value) (sz bytes : Nat) (ht : P.underlying t = some (.slice e)) (hi : P.info? e = some i) (hz : i.zero = some z) (hsize : i.size = sz) (hby : i.bytes = bytes) (hzs : z.cells.size = sz)
    (v : Value) (n : Nat) (cs : List Value) (hv : a.eval s = v) (h : Row w base sz v n cs) (xv : Value) (m : Nat) (news : List Value) (hx : a.eval x = xv) (hs : Src P sz t xv m news w) (h63 : n + m ≤ 9223372036854775807) (hmx : n + m ≤ maxLen) (hbytes : (n + m) * bytes ≤ 140737488355328) (hbase : base ≤ w.heap.size)
    (hgo : ∀ v' w', Row w' base sz v' (n + m) (cs ++ news) → Kept v.ownBlock.toList w w' → (v'.ownBlock = v.ownBlock ∨ v'.ownBlock = some w.heap.size) → wpList P ops Q rest (a.put o.dst v') w') : wpList P ops Q (o :: rest) a w := by
  refine wpList_plain hgd fun K hK => ?_
  obtain ⟨v', w', hr, k1, k2, k3⟩ := run_append_row (P := P) w base t o.type e i z sz bytes ht hi hz hsize hby hzs v n cs h xv m news hs h63 hmx hbytes hbase
  unfold Oper.wp execOp
  simp only [ho, resolve, invoke, builtin, Sem.run_bind, Sem.run_pure, Result.andThen_ok, List.map_toArray, List.map_cons, List.map_nil, hv, hx, hr]
  exact hK _ _ (hgo v' w' k1 k2 k3)
theorem step_append_row {P : Program} {w : World} {ops : Array Oper} {o : Oper} {a : Act} {K : Act → World → Prop} {Q : Exit → Act → World → Prop} {E : Prop} (hgd : o.guard = none) (s x : Operand) (t : TypeId)
    (ho : o.op = .call { callee := .builtin .append, args := #[s, x], argTypes := #[t, t] }) (base : Nat) (e : TypeId) (i : TypeInfo) (z : Value) (sz bytes : Nat) (ht : P.underlying t = some (.slice e)) (hi : P.info? e = some i) (hz : i.zero = some z) (hsize : i.size = sz) (hby : i.bytes = bytes) (hzs : z.cells.size = sz)
    (v : Value) (n : Nat) (cs : List Value) (hv : a.eval s = v) (h : Row w base sz v n cs) (xv : Value) (m : Nat) (news : List Value) (hx : a.eval x = xv) (hs : Src P sz t xv m news w) (h63 : n + m ≤ 9223372036854775807) (hmx : n + m ≤ maxLen) (hbytes : (n + m) * bytes ≤ 140737488355328) (hbase : base ≤ w.heap.size)
    (hgo : ∀ v' w', Row w' base sz v' (n + m) (cs ++ news) → Kept v.ownBlock.toList w w' → (v'.ownBlock = v.ownBlock ∨ v'.ownBlock = some w.heap.size) → K (a.put o.dst v') w') :
    if Region.wanted o (yielded ops a.tmps) = true then Oper.wp P o a w K Q else E := by
  have hw : Region.wanted o (yielded ops a.tmps) = true := by simp [Region.wanted, hgd]
  rw [if_pos hw]
  obtain ⟨v', w', hr, k1, k2, k3⟩ := run_append_row (P := P) w base t o.type e i z sz bytes ht hi hz hsize hby hzs v n cs h xv m news hs h63 hmx hbytes hbase
  unfold Oper.wp execOp
  simp only [ho, resolve, invoke, builtin, Sem.run_bind, Sem.run_pure, Result.andThen_ok, List.map_toArray, List.map_cons, List.map_nil, hv, hx, hr]
  exact hgo v' w' k1 k2 k3
/-- 'l[k:]' and 'l[:k:k]', of elements of several cells -/
theorem run_cut_from_sz {P : Program} (w : World) (t e : TypeId) (sz : Nat) (hu : P.underlying t = some (.slice e)) (hsz : (P.info? e).map (·.size) = some sz) (p : Option Addr) (n c k : Nat) (hk : k ≤ n) :
    (Instr.slice t (.slice p n c) (some (.int .i64 (k : Int))) none none).run P w = .ok (.slice (if c = k then p else p.map (·.add (k * sz))) (n - k) (c - k)) w := by
  obtain ⟨i, hi, hs⟩ := Option.map_eq_some_iff.1 hsz
  simp [Instr.slice, run_underlying hu, Instr.sliceBounds, run_sliceBound, sizeOf, typeInfo, hi, hs, (by omega : (k : Int) ≤ (n : Int))]
theorem run_cut_tight {P : Program} (w : World) (t e : TypeId) (sz : Nat) (hu : P.underlying t = some (.slice e)) (hsz : (P.info? e).map (·.size) = some sz) (p : Option Addr) (n c k : Nat) (hk : k ≤ c) :
    (Instr.slice t (.slice p n c) none (some (.int .i64 (k : Int))) (some (.int .i64 (k : Int)))).run P w = .ok (.slice p k k) w := by
  obtain ⟨i, hi, hs⟩ := Option.map_eq_some_iff.1 hsz
  simp [Instr.slice, run_underlying hu, Instr.sliceBounds, run_sliceBound, sizeOf, typeInfo, hi, (by omega : (k : Int) ≤ (c : Int))]
  intro _
  cases p with
  | none => rfl
  | some a =>
    obtain ⟨b, o, s⟩ := a
    cases s <;> simp [Addr.add]
end Go.Proofs.YtnjfahgmebmakaaGreatDoor

/-
  OWN WORK. 'append' of elements of several cells, as in Rows3, that says besides: on a new block the old one stays as it was.
-/
namespace Go.Proofs.YtnjfahgmebmakaaGreatDoor
open Go.RowKit
/-- 'append(l, x...)' -/
theorem run_append_row2 {P : Program} (w : World) (base : Nat) (t ty e : TypeId) (i : TypeInfo) (z : Value) (sz bytes : Nat) (ht : P.underlying t = some (.slice e)) (hi : P.info? e = some i) (hz : i.zero = some z) (hsize : i.size = sz) (hby : i.bytes = bytes) (hzs : z.cells.size = sz)
    (v : Value) (n : Nat) (cs : List Value) (h : Row w base sz v n cs) (x : Value) (m : Nat) (news : List Value) (hs : Src P sz t x m news w) (h63 : n + m ≤ 9223372036854775807) (hmx : n + m ≤ maxLen) (hbytes : (n + m) * bytes ≤ 140737488355328) (hbase : base ≤ w.heap.size) :
    ∃ v' w', (Builtin.append_ #[t, t] ty #[v, x]).run P w = .ok v' w' ∧ Row w' base sz v' (n + m) (cs ++ news) ∧ Kept v.ownBlock.toList w w' ∧ (v'.ownBlock = v.ownBlock ∨ (v'.ownBlock = some w.heap.size ∧ Kept [] w w')) := by
  subst hsize
  subst hby
  have hnl := hs.newsLen
  have hall : ∀ u ∈ cs ++ news, u.oneCell' = true := by
    intro u hu
    rcases List.mem_append.1 hu with hu | hu
    · exact h.2.1 u hu
    · exact hs.one u hu
  have hlen : (cs ++ news).length = (n + m) * i.size := by rw [List.length_append, h.1, hnl, Nat.add_mul]
  obtain ⟨p, c, rfl, h3, h4⟩ := h.shape
  by_cases hfit : n + m ≤ c
  · cases p with
    | none =>
      obtain ⟨h1, h2, p', c', e', -, -, h5⟩ := id h
      cases e'
      rcases h5 with ⟨-, rfl⟩ | ⟨g, e, -⟩
      · obtain rfl : n = 0 := by omega
        obtain rfl : m = 0 := by omega
        obtain rfl : news = [] := List.eq_nil_of_length_eq_zero (by simpa using hnl)
        exact ⟨_, _, run_append_nothing (P := P) w t t ty e i ht hi none 0 0 (Nat.le_refl _) x hs, by simpa using h, Kept.refl _ _, .inl rfl⟩
      · cases e
    | some a =>
      obtain ⟨h1, h2, p', c', e', -, -, h5⟩ := id h
      cases e'
      rcases h5 with ⟨e, -⟩ | ⟨g, e, h6, h7, h8, h9⟩
      · cases e
      · cases e
        have hm : n * i.size + m * i.size ≤ c * i.size := by rw [← Nat.add_mul]; exact Nat.mul_le_mul_right _ hfit
        have hthere : ∀ j, j < news.length → (w.cell? ⟨g, 0 + n * i.size + j, none⟩).isSome = true := fun j hj => (h9 _ (by omega)).1
        have hrun := run_append_room_src (P := P) w t t ty e i ht hi g 0 n c x m news hs hfit hthere (fun j hj => (h9 _ (by omega)).2)
        have hk := kept_setCells g news (0 + n * i.size) w
        refine ⟨_, _, hrun, ⟨hlen, hall, _, _, rfl, hfit, h4, .inr ⟨g, rfl, h6, Nat.lt_of_lt_of_le h7 hk.size, fun j u hj => ?_, fun j hj => ⟨?_, by rw [World.frozen?_setCells]; exact (h9 j hj).2⟩⟩⟩, by simpa [Value.ownBlock] using hk, .inl rfl⟩
        · by_cases hjc : j < cs.length
          · rw [List.getElem?_append_left hjc] at hj
            rw [World.cell?_setCells_out g news _ w _ (fun _ _ => .inl (by simp; omega))]
            exact h8 j u hj
          · rw [List.getElem?_append_right (by omega)] at hj
            obtain ⟨hlt, rfl⟩ := List.getElem?_eq_some_iff.1 hj
            have := World.cell?_setCells_in g news (0 + n * i.size) w hthere (j - cs.length) hlt
            rw [show 0 + n * i.size + (j - cs.length) = j by omega] at this
            exact this
        · by_cases hjin : 0 + n * i.size ≤ j ∧ j < 0 + n * i.size + news.length
          · have := World.cell?_setCells_in g news (0 + n * i.size) w hthere (j - (0 + n * i.size)) (by omega)
            rw [show 0 + n * i.size + (j - (0 + n * i.size)) = j by omega] at this
            rw [this]; rfl
          · rw [World.cell?_setCells_out g news _ w _ (fun _ _ => by simp; omega)]
            exact (h9 j hj).1
  · have hold : (Builtin.firstCells i.size n (.slice p n c)).run P w.drew = .ok cs.toArray w.drew := by
      obtain ⟨h1, h2, p', c', e', -, -, h5⟩ := id h
      cases e'
      rcases h5 with ⟨rfl, rfl⟩ | ⟨g, rfl, h6, h7, h8, h9⟩
      · obtain rfl : n = 0 := by omega
        obtain rfl : cs = [] := List.eq_nil_of_length_eq_zero (by simpa using h1)
        exact run_firstCells_none w.drew i.size 0 0 0
      · exact run_firstCells_some w.drew i.size n ⟨g, 0, none⟩ n c cs h1 (fun j u hj => by rw [add_none rfl]; simpa using h8 j u hj)
    have hg : c < n + m := by omega
    have hrun := run_append_grow_src (P := P) w t t ty e i z ht hi hz p n c cs hold x m news hs hg (by omega) (growslice_fits hg hbytes)
    have hge := grownCap_ge w (n + m) c e
    have hcm := grownCap_le_maxLen w (n + m) c e hmx
    have hsz : ((cs ++ news).toArray ++ Builtin.zeroCells z.cells (grownCap w (n + m) c e - (n + m))).size = grownCap w (n + m) c e * i.size := by
      rw [Array.size_append, List.size_toArray, hlen, size_zeroCells, hzs, ← Nat.add_mul]
      congr 1
      omega
    have hk : Kept [] w (w.drew.alloc (.cells ((cs ++ news).toArray ++ Builtin.zeroCells z.cells (grownCap w (n + m) c e - (n + m))) e)) := ((Kept.refl [] w).drew).alloc _
    refine ⟨_, _, hrun, ⟨hlen, hall, _, _, rfl, hge, hcm, .inr ⟨w.heap.size, rfl, hbase, by simp, fun j u hj => ?_, fun j hj => ⟨?_, World.frozen?_alloc_new w.drew _ _ j⟩⟩⟩, hk.mono (by simp), .inr ⟨rfl, hk⟩⟩
    · have e1 : (w.drew.alloc (.cells ((cs ++ news).toArray ++ Builtin.zeroCells z.cells (grownCap w (n + m) c e - (n + m))) e)).cell? ⟨w.heap.size, j, none⟩ = _ := World.cell?_alloc_new w.drew _ _ j
      have hjl := (List.getElem?_eq_some_iff.1 hj).1
      rw [e1, Array.getElem?_append_left (by simpa using hjl), List.getElem?_toArray, hj]
    · have e1 : (w.drew.alloc (.cells ((cs ++ news).toArray ++ Builtin.zeroCells z.cells (grownCap w (n + m) c e - (n + m))) e)).cell? ⟨w.heap.size, j, none⟩ = _ := World.cell?_alloc_new w.drew _ _ j
      rw [e1, Array.getElem?_eq_getElem (by rw [hsz]; exact hj)]
      rfl
theorem wpList_append_row2 {P : Program} {w : World} {ops : Array Oper} {rest : List Oper} {o : Oper} {a : Act} {Q : Exit → Act → World → Prop} (hgd : o.guard = none) (s x : Operand) (t : TypeId)
    (ho : o.op = .call { callee := .builtin .append, args := #[s, x], argTypes := #[t, t] }) (base : Nat) (e : TypeId) (i : TypeInfo) (z : Value) (sz bytes : Nat) (ht : P.underlying t = some (.slice e)) (hi : P.info? e = some i) (hz : i.zero = some z) (hsize : i.size = sz) (hby : i.bytes = bytes) (hzs : z.cells.size = sz)
    (v : Value) (n : Nat) (cs : List Value) (hv : a.eval s = v) (h : Row w base sz v n cs) (xv : Value) (m : Nat) (news : List Value) (hx : a.eval x = xv) (hs : Src P sz t xv m news w) (h63 : n + m ≤ 9223372036854775807) (hmx : n + m ≤ maxLen) (hbytes : (n + m) * bytes ≤ 140737488355328) (hbase : base ≤ w.heap.size)
    (hgo : ∀ v' w', Row w' base sz v' (n + m) (cs ++ news) → Kept v.ownBlock.toList w w' → (v'.ownBlock = v.ownBlock ∨ (v'.ownBlock = some w.heap.size ∧ Kept [] w w')) → wpList P ops Q rest (a.put o.dst v') w') : wpList P ops Q (o :: rest) a w := by
  refine wpList_plain hgd fun K hK => ?_
  obtain ⟨v', w', hr, k1, k2, k3⟩ := run_append_row2 (P := P) w base t o.type e i z sz bytes ht hi hz hsize hby hzs v n cs h xv m news hs h63 hmx hbytes hbase
  unfold Oper.wp execOp
  simp only [ho, resolve, invoke, builtin, Sem.run_bind, Sem.run_pure, Result.andThen_ok, List.map_toArray, List.map_cons, List.map_nil, hv, hx, hr]
  exact hK _ _ (hgo v' w' k1 k2 k3)
theorem step_append_row2 {P : Program} {w : World} {ops : Array Oper} {o : Oper} {a : Act} {K : Act → World → Prop} {Q : Exit → Act → World → Prop} {E : Prop} (hgd : o.guard = none) (s x : Operand) (t : TypeId)
    (ho : o.op = .call { callee := .builtin .append, args := #[s, x], argTypes := #[t, t] }) (base : Nat) (e : TypeId) (i : TypeInfo) (z : Value) (sz bytes : Nat) (ht : P.underlying t = some (.slice e)) (hi : P.info? e = some i) (hz : i.zero = some z) (hsize : i.size = sz) (hby : i.bytes = bytes) (hzs : z.cells.size = sz)
    (v : Value) (n : Nat) (cs : List Value) (hv : a.eval s = v) (h : Row w base sz v n cs) (xv : Value) (m : Nat) (news : List Value) (hx : a.eval x = xv) (hs : Src P sz t xv m news w) (h63 : n + m ≤ 9223372036854775807) (hmx : n + m ≤ maxLen) (hbytes : (n + m) * bytes ≤ 140737488355328) (hbase : base ≤ w.heap.size)
    (hgo : ∀ v' w', Row w' base sz v' (n + m) (cs ++ news) → Kept v.ownBlock.toList w w' → (v'.ownBlock = v.ownBlock ∨ (v'.ownBlock = some w.heap.size ∧ Kept [] w w')) → K (a.put o.dst v') w') :
    if Region.wanted o (yielded ops a.tmps) = true then Oper.wp P o a w K Q else E := by
  have hw : Region.wanted o (yielded ops a.tmps) = true := by simp [Region.wanted, hgd]
  rw [if_pos hw]
  obtain ⟨v', w', hr, k1, k2, k3⟩ := run_append_row2 (P := P) w base t o.type e i z sz bytes ht hi hz hsize hby hzs v n cs h xv m news hs h63 hmx hbytes hbase
  unfold Oper.wp execOp
  simp only [ho, resolve, invoke, builtin, Sem.run_bind, Sem.run_pure, Result.andThen_ok, List.map_toArray, List.map_cons, List.map_nil, hv, hx, hr]
  exact hgo v' w' k1 k2 k3
end Go.Proofs.YtnjfahgmebmakaaGreatDoor

/-
  OWN WORK. A region that draws its order and ends with a store into a cell that it read: the reads may be taken first, and the store need keep nothing.
-/
namespace Go.Proofs.YtnjfahgmebmakaaGreatDoor
open Go.RowKit
set_option linter.unusedVariables false

section
variable {P : Program} {ops : Array Oper} {Q : Exit → Act → World → Prop} {md : Region.Mode} {S : World → Prop} {z : Nat}

/-- whatever order is picked: S holds behind every operation but number z -/
def wpAnyZ (P : Program) (md : Region.Mode) (ops : Array Oper) (Q : Exit → Act → World → Prop) (S : World → Prop) (z : Nat) : Nat → Array Bool → Act → World → Prop
  | 0, listed, a, w => Region.ready md ops listed = [] ∧ Q .normal a w
  | n + 1, listed, a, w =>
    (Region.ready md ops listed = [] → Q .normal a w) ∧
      ∀ i ∈ Region.ready md ops listed, wpOp P ops Q i (fun a' w' => (i ≠ z → S w') ∧ wpAnyZ P md ops Q S z n (listed.setIfInBounds i true) a' w') a w
theorem wpAnyZ_any : ∀ (n : Nat) (listed : Array Bool) (a : Act) (w : World), wpAnyZ P md ops Q S z n listed a w → wpAny P md ops Q n listed a w
  | 0, _, _, _, h => h
  | n + 1, _, _, _, h => ⟨h.1, fun i hi => wpOp_mono (fun a' w' h' => wpAnyZ_any n _ a' w' h'.2) (h.2 i hi)⟩
/-- number z waits for number i -/
def waits (md : Region.Mode) (ops : Array Oper) (z i : Nat) : Bool := match ops[z]? with
  | some o => o.after.any fun e => Region.binds md e && e.on == i
  | none => true
theorem waits_ready {i : Nat} {listed : Array Bool} (h : waits md ops z i = true) (hi : listed.getD i false = false) : z ∉ Region.ready md ops listed := fun hm => by
  obtain ⟨-, o, ho, hall⟩ := mem_ready.1 hm
  unfold waits at h
  rw [ho] at h
  obtain ⟨k, hk, he⟩ := Array.any_eq_true.1 h
  simp at he
  have := hall (o.after[k]) (Array.getElem_mem hk) he.1
  rw [he.2, hi] at this
  cases this
theorem wpAnyZ_first {i : Nat} {oi : Oper} {v : Value} (hi : ops[i]? = some oi) (hsel : ∀ (j : Nat) (o : Oper) cs b, ops[j]? = some o → o.op ≠ .select cs b)
    (hQ : ∀ c a w, Q (.panic c) (a.put oi.dst v) w → Q (.panic c) a w) (hz : waits md ops z i = true) :
    ∀ (n : Nat) (listed : Array Bool) (a : Act) (w : World),
      (∀ j oj, ops[j]? = some oj → j ≠ i → listed.getD j true = false → (∀ e ∈ oj.after, Region.binds md e = true → e.on ≠ i) → oi.apart ops oj = true) →
      i ∈ Region.ready md ops listed → YieldsIf P ops S oi v a → S w →
      wpAnyZ P md ops Q S z n (listed.setIfInBounds i true) (a.put oi.dst v) w → wpAnyZ P md ops Q S z (n + 1) listed a w := by
  intro n
  induction n with
  | zero =>
    intro listed a w _ hr hy hS H
    refine ⟨fun h => (by rw [h] at hr; cases hr), fun j hj => ?_⟩
    by_cases e : j = i
    · subst e; exact hy.wpOp hi hS ⟨fun _ => hS, H⟩
    · have := ready_mono hj e
      rw [H.1] at this
      cases this
  | succ n ih =>
    intro listed a w hfree hr hy hS H
    have hun := (mem_ready.1 hr).1
    have hunf : listed.getD i false = false := by
      rcases Nat.lt_or_ge i listed.size with c | c
      · simp [c] at hun ⊢; exact hun
      · simp [c]
    refine ⟨fun h => (by rw [h] at hr; cases hr), fun j hj => ?_⟩
    by_cases e : j = i
    · subst e; exact hy.wpOp hi hS ⟨fun _ => hS, H⟩
    · have hjz : j ≠ z := fun c => waits_ready hz hunf (c ▸ hj)
      obtain ⟨hju, oj, hoj, hall⟩ := mem_ready.1 hj
      have hno : ∀ e ∈ oj.after, Region.binds md e = true → e.on ≠ i := fun e he hb c => by
        have := hall e he hb
        rw [c, hunf] at this
        cases this
      have h2 := wpOp_putIf hoj (hfree j oj hoj e hju hno) (fun cs b => hsel i oi cs b hi) (fun cs b => hsel j oj cs b hoj) hQ hy (H.2 j (ready_mono hj e))
      have hfree2 : ∀ k ok, ops[k]? = some ok → k ≠ i → (listed.setIfInBounds j true).getD k true = false → (∀ e ∈ ok.after, Region.binds md e = true → e.on ≠ i) → oi.apart ops ok = true := fun k ok hk hki hkj hnk => by
        by_cases c : j = k
        · subst c; exact hfree j ok hk hki hju hnk
        · exact hfree k ok hk hki (by rwa [getD_set_ne true c] at hkj) hnk
      refine wpOp_mono (fun a' w' h3 => ⟨h3.2.1, ih (listed.setIfInBounds j true) a' w' hfree2 (ready_mono hr (Ne.symm e)) h3.1 (h3.2.1 hjz) ?_⟩) h2
      rw [Array.setIfInBounds_comm _ _ e]
      exact h3.2.2
/-- take number i first -/
theorem wpAnyZ_take (i : Nat) {oi : Oper} {v : Value} {n : Nat} {listed : Array Bool} {a : Act} {w : World} (hi : ops[i]? = some oi)
    (hs : Region.noSelect ops = true) (hz : waits md ops z i = true) (hf : Region.free md ops listed i = true) (hr : (Region.ready md ops listed).contains i = true)
    (hQ : ∀ c a w, Q (.panic c) (a.put oi.dst v) w → Q (.panic c) a w) (hw : Region.wanted oi (yielded ops a.tmps) = true) (hy : ∀ w, S w → (execOp a.eval oi).run P w = .ok (.value v) w) (hS : S w)
    (h : wpAnyZ P md ops Q S z n (listed.setIfInBounds i true) (a.put oi.dst v) w) : wpAnyZ P md ops Q S z (n + 1) listed a w :=
  wpAnyZ_first hi (Region.noSelect_spec hs) hQ hz n listed a w (Region.free_spec hi hf) (by simpa using hr) (.inl ⟨hw, hy⟩) hS h
/-- only number i may come up -/
theorem wpAnyZ_one (i : Nat) {oi : Oper} {n : Nat} {listed : Array Bool} {a : Act} {w : World} (hi : ops[i]? = some oi) (hr : Region.ready md ops listed = [i])
    (h : ∀ K : Act → World → Prop, (∀ a' w', (i ≠ z → S w') → wpAnyZ P md ops Q S z n (listed.setIfInBounds i true) a' w' → K a' w') → if Region.wanted oi (yielded ops a.tmps) = true then Oper.wp P oi a w K Q else K (a.put oi.dst undef) w) : wpAnyZ P md ops Q S z (n + 1) listed a w := by
  refine ⟨fun c => absurd (hr.symm.trans c) (by simp), fun j hj => ?_⟩
  rw [hr] at hj
  simp at hj
  subst hj
  exact wpOp_step hi fun K hK => h K fun a' w' h1 h2 => hK a' w' ⟨h1, h2⟩
theorem wpAnyZ_done {listed : Array Bool} {a : Act} {w : World} (hr : Region.ready md ops listed = []) (h : Q .normal a w) : ∀ n, wpAnyZ P md ops Q S z n listed a w
  | 0 => ⟨hr, h⟩
  | _ + 1 => ⟨fun _ => h, by rw [hr]; simp⟩
theorem wp_region_late (S : World → Prop) (z : Nat) {id : Nat} {a : Act} {w : World} (hm : P.follows .mixedOrders = true)
    (h : wpAnyZ P .any ops Q S z ops.size (Array.replicate ops.size false) a w.drew) : (Code.region id ops true).wp P Q a w :=
  wp_region_any hm (wpAnyZ_any _ _ _ _ h)
end
end Go.Proofs.YtnjfahgmebmakaaGreatDoor

/-
  OWN WORK. As Late: the last operation may wait for a read by others between them.
-/
namespace Go.Proofs.YtnjfahgmebmakaaGreatDoor
open Go.RowKit
set_option linter.unusedVariables false

section
variable {P : Program} {ops : Array Oper} {Q : Exit → Act → World → Prop} {md : Region.Mode} {S : World → Prop} {z : Nat}
/-- each of C waits for number i, or for another of C -/
def guards (md : Region.Mode) (ops : Array Oper) (C : List Nat) (i : Nat) : Bool := C.all fun j => match ops[j]? with
  | some o => o.after.any fun e => Region.binds md e && (e.on == i || C.contains e.on)
  | none => false
theorem guards_ready {C : List Nat} {i j : Nat} {listed : Array Bool} (h : guards md ops C i = true) (hi : listed.getD i false = false) (hC : ∀ k ∈ C, listed.getD k false = false) (hj : j ∈ Region.ready md ops listed) : j ∉ C := fun hm => by
  obtain ⟨-, o, ho, hall⟩ := mem_ready.1 hj
  have q := List.all_eq_true.1 h j hm
  rw [ho] at q
  obtain ⟨k, hk, he⟩ := Array.any_eq_true.1 q
  simp at he
  have := hall (o.after[k]) (Array.getElem_mem hk) he.1
  rcases he.2 with e | e
  · rw [e, hi] at this; cases this
  · rw [hC _ e] at this; cases this
theorem wpAnyZ_firstC {i : Nat} {oi : Oper} {v : Value} {C : List Nat} (hi : ops[i]? = some oi) (hsel : ∀ (j : Nat) (o : Oper) cs b, ops[j]? = some o → o.op ≠ .select cs b)
    (hQ : ∀ c a w, Q (.panic c) (a.put oi.dst v) w → Q (.panic c) a w) (hg : guards md ops C i = true) (hz : z ∈ C) :
    ∀ (n : Nat) (listed : Array Bool) (a : Act) (w : World),
      (∀ k ∈ C, listed.getD k false = false) →
      (∀ j oj, ops[j]? = some oj → j ≠ i → listed.getD j true = false → (∀ e ∈ oj.after, Region.binds md e = true → e.on ≠ i) → oi.apart ops oj = true) →
      i ∈ Region.ready md ops listed → YieldsIf P ops S oi v a → S w →
      wpAnyZ P md ops Q S z n (listed.setIfInBounds i true) (a.put oi.dst v) w → wpAnyZ P md ops Q S z (n + 1) listed a w := by
  intro n
  induction n with
  | zero =>
    intro listed a w _ _ hr hy hS H
    refine ⟨fun h => (by rw [h] at hr; cases hr), fun j hj => ?_⟩
    by_cases e : j = i
    · subst e; exact hy.wpOp hi hS ⟨fun _ => hS, H⟩
    · have := ready_mono hj e
      rw [H.1] at this
      cases this
  | succ n ih =>
    intro listed a w hC hfree hr hy hS H
    have hun := (mem_ready.1 hr).1
    have hunf : listed.getD i false = false := by
      rcases Nat.lt_or_ge i listed.size with c | c
      · simp [c] at hun ⊢; exact hun
      · simp [c]
    refine ⟨fun h => (by rw [h] at hr; cases hr), fun j hj => ?_⟩
    by_cases e : j = i
    · subst e; exact hy.wpOp hi hS ⟨fun _ => hS, H⟩
    · have hjC := guards_ready hg hunf hC hj
      have hjz : j ≠ z := fun c => hjC (c ▸ hz)
      obtain ⟨hju, oj, hoj, hall⟩ := mem_ready.1 hj
      have hno : ∀ e ∈ oj.after, Region.binds md e = true → e.on ≠ i := fun e he hb c => by
        have := hall e he hb
        rw [c, hunf] at this
        cases this
      have h2 := wpOp_putIf hoj (hfree j oj hoj e hju hno) (fun cs b => hsel i oi cs b hi) (fun cs b => hsel j oj cs b hoj) hQ hy (H.2 j (ready_mono hj e))
      have hfree2 : ∀ k ok, ops[k]? = some ok → k ≠ i → (listed.setIfInBounds j true).getD k true = false → (∀ e ∈ ok.after, Region.binds md e = true → e.on ≠ i) → oi.apart ops ok = true := fun k ok hk hki hkj hnk => by
        by_cases c : j = k
        · subst c; exact hfree j ok hk hki hju hnk
        · exact hfree k ok hk hki (by rwa [getD_set_ne true c] at hkj) hnk
      have hC2 : ∀ k ∈ C, (listed.setIfInBounds j true).getD k false = false := fun k hk => by
        have hne : j ≠ k := fun c => hjC (by rw [c]; exact hk)
        rw [getD_set_ne false hne]
        exact hC k hk
      refine wpOp_mono (fun a' w' h3 => ⟨h3.2.1, ih (listed.setIfInBounds j true) a' w' hC2 hfree2 (ready_mono hr (Ne.symm e)) h3.1 (h3.2.1 hjz) ?_⟩) h2
      rw [Array.setIfInBounds_comm _ _ e]
      exact h3.2.2
/-- take number i first -/
theorem wpAnyZ_takeC (i : Nat) (C : List Nat) {oi : Oper} {v : Value} {n : Nat} {listed : Array Bool} {a : Act} {w : World} (hi : ops[i]? = some oi)
    (hs : Region.noSelect ops = true) (hg : guards md ops C i = true) (hz : C.contains z = true) (hl : C.all (fun k => !listed.getD k false) = true) (hf : Region.free md ops listed i = true) (hr : (Region.ready md ops listed).contains i = true)
    (hQ : ∀ c a w, Q (.panic c) (a.put oi.dst v) w → Q (.panic c) a w) (hw : Region.wanted oi (yielded ops a.tmps) = true) (hy : ∀ w, S w → (execOp a.eval oi).run P w = .ok (.value v) w) (hS : S w)
    (h : wpAnyZ P md ops Q S z n (listed.setIfInBounds i true) (a.put oi.dst v) w) : wpAnyZ P md ops Q S z (n + 1) listed a w :=
  wpAnyZ_firstC hi (Region.noSelect_spec hs) hQ hg (by simpa using hz) n listed a w (fun k hk => by simpa using List.all_eq_true.1 hl k hk) (Region.free_spec hi hf) (by simpa using hr) (.inl ⟨hw, hy⟩) hS h
end
end Go.Proofs.YtnjfahgmebmakaaGreatDoor

/-
  OWN WORK. As Late: two operations that may come up; reads taken behind the last one.
-/
namespace Go.Proofs.YtnjfahgmebmakaaGreatDoor
open Go.RowKit
set_option linter.unusedVariables false

section
variable {P : Program} {ops : Array Oper} {Q : Exit → Act → World → Prop} {md : Region.Mode} {S : World → Prop} {z : Nat}
theorem wpAnyZ_firstD {i : Nat} {oi : Oper} {v : Value} (hi : ops[i]? = some oi) (hsel : ∀ (j : Nat) (o : Oper) cs b, ops[j]? = some o → o.op ≠ .select cs b)
    (hQ : ∀ c a w, Q (.panic c) (a.put oi.dst v) w → Q (.panic c) a w) :
    ∀ (n : Nat) (listed : Array Bool) (a : Act) (w : World),
      listed.getD z true = true →
      (∀ j oj, ops[j]? = some oj → j ≠ i → listed.getD j true = false → (∀ e ∈ oj.after, Region.binds md e = true → e.on ≠ i) → oi.apart ops oj = true) →
      i ∈ Region.ready md ops listed → YieldsIf P ops S oi v a → S w →
      wpAnyZ P md ops Q S z n (listed.setIfInBounds i true) (a.put oi.dst v) w → wpAnyZ P md ops Q S z (n + 1) listed a w := by
  intro n
  induction n with
  | zero =>
    intro listed a w _ _ hr hy hS H
    refine ⟨fun h => (by rw [h] at hr; cases hr), fun j hj => ?_⟩
    by_cases e : j = i
    · subst e; exact hy.wpOp hi hS ⟨fun _ => hS, H⟩
    · have := ready_mono hj e
      rw [H.1] at this
      cases this
  | succ n ih =>
    intro listed a w hz hfree hr hy hS H
    have hun := (mem_ready.1 hr).1
    have hunf : listed.getD i false = false := by
      rcases Nat.lt_or_ge i listed.size with c | c
      · simp [c] at hun ⊢; exact hun
      · simp [c]
    refine ⟨fun h => (by rw [h] at hr; cases hr), fun j hj => ?_⟩
    by_cases e : j = i
    · subst e; exact hy.wpOp hi hS ⟨fun _ => hS, H⟩
    · obtain ⟨hju, oj, hoj, hall⟩ := mem_ready.1 hj
      have hjz : j ≠ z := fun c => by rw [c, hz] at hju; cases hju
      have hno : ∀ e ∈ oj.after, Region.binds md e = true → e.on ≠ i := fun e he hb c => by
        have := hall e he hb
        rw [c, hunf] at this
        cases this
      have h2 := wpOp_putIf hoj (hfree j oj hoj e hju hno) (fun cs b => hsel i oi cs b hi) (fun cs b => hsel j oj cs b hoj) hQ hy (H.2 j (ready_mono hj e))
      have hfree2 : ∀ k ok, ops[k]? = some ok → k ≠ i → (listed.setIfInBounds j true).getD k true = false → (∀ e ∈ ok.after, Region.binds md e = true → e.on ≠ i) → oi.apart ops ok = true := fun k ok hk hki hkj hnk => by
        by_cases c : j = k
        · subst c; exact hfree j ok hk hki hju hnk
        · exact hfree k ok hk hki (by rwa [getD_set_ne true c] at hkj) hnk
      refine wpOp_mono (fun a' w' h3 => ⟨h3.2.1, ih (listed.setIfInBounds j true) a' w' (by rw [getD_set_ne true hjz]; exact hz) hfree2 (ready_mono hr (Ne.symm e)) h3.1 (h3.2.1 hjz) ?_⟩) h2
      rw [Array.setIfInBounds_comm _ _ e]
      exact h3.2.2
/-- take number i first, where z is done -/
theorem wpAnyZ_takeD (i : Nat) {oi : Oper} {v : Value} {n : Nat} {listed : Array Bool} {a : Act} {w : World} (hi : ops[i]? = some oi)
    (hs : Region.noSelect ops = true) (hz : listed.getD z true = true) (hf : Region.free md ops listed i = true) (hr : (Region.ready md ops listed).contains i = true)
    (hQ : ∀ c a w, Q (.panic c) (a.put oi.dst v) w → Q (.panic c) a w) (hw : Region.wanted oi (yielded ops a.tmps) = true) (hy : ∀ w, S w → (execOp a.eval oi).run P w = .ok (.value v) w) (hS : S w)
    (h : wpAnyZ P md ops Q S z n (listed.setIfInBounds i true) (a.put oi.dst v) w) : wpAnyZ P md ops Q S z (n + 1) listed a w :=
  wpAnyZ_firstD hi (Region.noSelect_spec hs) hQ n listed a w hz (Region.free_spec hi hf) (by simpa using hr) (.inl ⟨hw, hy⟩) hS h
/-- only numbers i and j may come up -/
theorem wpAnyZ_two (i j : Nat) {oi oj : Oper} {n : Nat} {listed : Array Bool} {a : Act} {w : World} (hi : ops[i]? = some oi) (hj : ops[j]? = some oj) (hr : Region.ready md ops listed = [i, j])
    (h1 : ∀ K : Act → World → Prop, (∀ a' w', (i ≠ z → S w') → wpAnyZ P md ops Q S z n (listed.setIfInBounds i true) a' w' → K a' w') → if Region.wanted oi (yielded ops a.tmps) = true then Oper.wp P oi a w K Q else K (a.put oi.dst undef) w)
    (h2 : ∀ K : Act → World → Prop, (∀ a' w', (j ≠ z → S w') → wpAnyZ P md ops Q S z n (listed.setIfInBounds j true) a' w' → K a' w') → if Region.wanted oj (yielded ops a.tmps) = true then Oper.wp P oj a w K Q else K (a.put oj.dst undef) w) : wpAnyZ P md ops Q S z (n + 1) listed a w := by
  refine ⟨fun c => absurd (hr.symm.trans c) (by simp), fun k hk => ?_⟩
  rw [hr] at hk
  simp at hk
  rcases hk with rfl | rfl
  · exact wpOp_step hi fun K hK => h1 K fun a' w' q1 q2 => hK a' w' ⟨q1, q2⟩
  · exact wpOp_step hj fun K hK => h2 K fun a' w' q1 q2 => hK a' w' ⟨q1, q2⟩
end
end Go.Proofs.YtnjfahgmebmakaaGreatDoor

/-
  OWN WORK. The model (layer 18): how things lie in memory: lists of one's own, each in its block, and how they stay.
-/
namespace Go.Proofs.YtnjfahgmebmakaaGreatDoor
open Go.RowKit
set_option linter.unusedVariables false

theorem hideH {p : Prop} (h : p) : Hid p := h
def I64 (x : Int) : Prop := -9223372036854775808 ≤ x ∧ x < 9223372036854775808
theorem wrap_i64_of {x : Int} (h1 : -9223372036854775808 ≤ x) (h2 : x < 9223372036854775808) : IntKind.i64.wrap x = x := by rw [IntKind.wrap_i64]; omega
/-- block g holds just these cells -/
def Blk (w : World) (g : Nat) (t : TypeId) (cs : List Value) : Prop := w.heap[g]? = some (.cells cs.toArray t (0, 0))
theorem Blk.new (w : World) (t : TypeId) (cs : List Value) : Blk (w.alloc (.cells cs.toArray t)) w.heap.size t cs := heap_alloc_new w _
theorem Blk.lt {w : World} {g : Nat} {t : TypeId} {cs : List Value} (h : Blk w g t cs) : g < w.heap.size := (Array.getElem?_eq_some_iff.1 h).1
theorem Blk.cell {w : World} {g : Nat} {t : TypeId} {cs : List Value} (h : Blk w g t cs) {j : Nat} {v : Value} (hj : cs[j]? = some v) : w.cell? ⟨g, j, none⟩ = some v := by
  have h' : w.heap[g]? = some (.cells cs.toArray t (0, 0)) := h
  simp [World.cell?, h', hj]
theorem Blk.free {w : World} {g : Nat} {t : TypeId} {cs : List Value} (h : Blk w g t cs) (j : Nat) : w.frozen? ⟨g, j, none⟩ = false := by
  have h' : w.heap[g]? = some (.cells cs.toArray t (0, 0)) := h
  simp [World.frozen?, h']
theorem Blk.kept {w w' : World} {g : Nat} {t : TypeId} {cs : List Value} {S : List Nat} (h : Blk w g t cs) (k : Kept S w w') (hS : g ∉ S) : Blk w' g t cs := (k.block g h.lt hS).trans h
theorem Blk.set {w : World} {g : Nat} {t : TypeId} {cs : List Value} (h : Blk w g t cs) (j : Nat) (v : Value) : Blk (w.setCell ⟨g, j, none⟩ v) g t (cs.set j v) ∧ Kept [g] w (w.setCell ⟨g, j, none⟩ v) := by
  have h' : w.heap[g]? = some (.cells cs.toArray t (0, 0)) := h
  refine ⟨?_, (Kept.refl [g] w).setCell (.inl (by simp)) v⟩
  simp [Blk, World.setCell, Array.getElem?_modify, h', List.setIfInBounds_toArray]
def i64s (l : List Int) : List Value := l.map (Value.int .i64)
theorem i64s_length (l : List Int) : (i64s l).length = l.length := by simp [i64s]
theorem i64s_one (l : List Int) : ∀ u ∈ i64s l, u.oneCell' = true := fun u hu => by
  obtain ⟨x, -, rfl⟩ := List.mem_map.1 hu
  rfl
theorem i64s_at {l : List Int} {j : Nat} {x : Int} (h : l[j]? = some x) : (i64s l)[j]? = some (.int .i64 x) := by simp [i64s, h]
theorem src_i64 {P : Program} (w : World) (t e : TypeId) (ht : P.underlying t = some (.slice e)) (x : Int) : Src P 1 t (.slice (some ⟨w.heap.size, 0, none⟩) 1 1) 1 [.int .i64 x] (w.alloc (.cells #[.int .i64 x] e)) := by
  refine Src.ofSlice _ ht _ _ _ _ rfl (fun j u hj => ?_) (by simp [Value.oneCell'])
  rw [add_none rfl]
  have q := (Blk.new w e [.int .i64 x]).cell hj
  simpa using q
/-- a list of numbers of one's own -/
def Ns (w : World) (base : Nat) (v : Value) (l : List Int) : Prop := Row w base 1 v l.length (i64s l)
theorem Ns.kept {w w' : World} {base : Nat} {v : Value} {l : List Int} {S : List Nat} (h : Ns w base v l) (k : Kept S w w') (hS : ∀ x, v.ownBlock = some x → x ∉ S) : Ns w' base v l := Row.kept h k hS
theorem Ns.mono {w : World} {b b' : Nat} {v : Value} {l : List Int} (h : Ns w b v l) (hb : b' ≤ b) : Ns w b' v l := Row.mono h hb
theorem Ns.nil (w : World) (base : Nat) : Ns w base (.slice none 0 0) [] := Row.nil w base 1
theorem Ns.lt {w : World} {base : Nat} {v : Value} {l : List Int} (h : Ns w base v l) {x : Nat} (hx : v.ownBlock = some x) : base ≤ x ∧ x < w.heap.size := Row.lt h x hx
theorem Ns.shape {w : World} {base : Nat} {v : Value} {l : List Int} (h : Ns w base v l) : ∃ p c, v = .slice p l.length c ∧ l.length ≤ c ∧ c ≤ maxLen := Row.shape h
theorem Ns.at {w : World} {base : Nat} {p : Option Addr} {n c : Nat} {l : List Int} (h : Ns w base (.slice p n c) l) {j : Nat} {x : Int} (hj : l[j]? = some x) : ∃ g, p = some ⟨g, 0, none⟩ ∧ base ≤ g ∧ g < w.heap.size ∧ w.cell? ⟨g, j, none⟩ = some (.int .i64 x) ∧ w.frozen? ⟨g, j, none⟩ = false := by
  have h' : Row w base 1 (.slice p n c) l.length (i64s l) := h
  obtain ⟨p', c', e, h3, h4⟩ := Row.shape h'
  cases e
  have hl := (List.getElem?_eq_some_iff.1 hj).1
  obtain ⟨g, rfl, h6, h7, h8, h9⟩ := Row.pos h' (by omega)
  exact ⟨g, rfl, h6, h7, h8 j _ (i64s_at hj), (h9 j (by omega)).2⟩
theorem own_mem {v : Value} {x : Nat} : x ∈ v.ownBlock.toList ↔ v.ownBlock = some x := by
  cases h : v.ownBlock <;> simp [eq_comm]
/-- what is new lies behind what was there -/
def Fr (w : World) (F F' : List Nat) : Prop := ∀ x ∈ F', x ∈ F ∨ w.heap.size ≤ x
theorem Fr.refl (w : World) (F : List Nat) : Fr w F F := fun x hx => .inl hx
theorem Fr.old {w w' : World} {F F' : List Nat} (h : Fr w' F F') (hs : w.heap.size ≤ w'.heap.size) : Fr w F F' := fun x hx => (h x hx).imp id (fun q => by omega)
/-- two lists share no block -/
def Ap (a b : Value) : Prop := ∀ x, a.ownBlock = some x → b.ownBlock ≠ some x
theorem Ap.symm {a b : Value} (h : Ap a b) : Ap b a := fun x hx e => h x e hx
theorem Ap.none {a b : Value} (h : b.ownBlock = none) : Ap a b := fun x hx e => by rw [h] at e; cases e
/-- what is said of a list stays while its block does -/
def Stays (v : Value) (p : World → Prop) : Prop := ∀ (w w' : World) (S : List Nat), p w → Kept S w w' → (∀ y, v.ownBlock = some y → y ∉ S) → p w'
/-- things of one's own: each a value with a block (or none), and what is said of it; no two share a block, none is g -/
structure Own (w : World) (g : Nat) (L : List (Value × (World → Prop))) : Prop where
  holds : ∀ x ∈ L, x.2 w
  stays : ∀ x ∈ L, Stays x.1 x.2
  lt : ∀ x ∈ L, ∀ y, x.1.ownBlock = some y → y < w.heap.size ∧ y ≠ g
  ap : L.Pairwise fun a b => Ap a.1 b.1
theorem Own.nil (w : World) (g : Nat) : Own w g [] := ⟨by simp, by simp, by simp, .nil⟩
theorem Own.then {w w' : World} {g : Nat} {L : List (Value × (World → Prop))} (h : Own w g L) {S : List Nat} (k : Kept S w w') (hS : ∀ x ∈ L, ∀ y, x.1.ownBlock = some y → y ∉ S) : Own w' g L :=
  ⟨fun x hx => h.stays x hx w w' S (h.holds x hx) k (hS x hx), h.stays, fun x hx y hy => ⟨Nat.lt_of_lt_of_le (h.lt x hx y hy).1 k.size, (h.lt x hx y hy).2⟩, h.ap⟩
theorem Own.perm {w : World} {g : Nat} {L L' : List (Value × (World → Prop))} (h : Own w g L) (p : L.Perm L') : Own w g L' :=
  ⟨fun x hx => h.holds x (p.mem_iff.2 hx), fun x hx => h.stays x (p.mem_iff.2 hx), fun x hx => h.lt x (p.mem_iff.2 hx), p.pairwise h.ap (fun {a b} q => q.symm)⟩
theorem Own.sub {w : World} {g : Nat} {L L' : List (Value × (World → Prop))} (h : Own w g L) (p : L'.Sublist L) : Own w g L' :=
  ⟨fun x hx => h.holds x (p.subset hx), fun x hx => h.stays x (p.subset hx), fun x hx => h.lt x (p.subset hx), h.ap.sublist p⟩
/-- the first one's block is written, or it lies in a new one -/
theorem Own.head {w w' : World} {g : Nat} {v v' : Value} {p p' : World → Prop} {L : List (Value × (World → Prop))} (h : Own w g ((v, p) :: L)) (k : Kept v.ownBlock.toList w w') (hp : p' w') (hs : Stays v' p') (hv : ∀ y, v'.ownBlock = some y → v.ownBlock = some y ∨ (w.heap.size ≤ y ∧ y < w'.heap.size ∧ y ≠ g)) : Own w' g ((v', p') :: L) := by
  have hap := List.pairwise_cons.1 h.ap
  refine ⟨fun x hx => ?_, fun x hx => ?_, fun x hx y hy => ?_, List.pairwise_cons.2 ⟨fun x hx y hy e => ?_, hap.2⟩⟩
  · rcases List.mem_cons.1 hx with rfl | hx
    · exact hp
    · exact h.stays x (by simp [hx]) w w' _ (h.holds x (by simp [hx])) k (fun y hy hm => hap.1 x hx y (own_mem.1 hm) hy)
  · rcases List.mem_cons.1 hx with rfl | hx
    · exact hs
    · exact h.stays x (by simp [hx])
  · rcases List.mem_cons.1 hx with rfl | hx
    · rcases hv y hy with q | q
      · have := h.lt (v, p) (by simp) y q; exact ⟨Nat.lt_of_lt_of_le this.1 k.size, this.2⟩
      · exact q.2
    · have := h.lt x (by simp [hx]) y hy; exact ⟨Nat.lt_of_lt_of_le this.1 k.size, this.2⟩
  · rcases hv y hy with q | q
    · exact hap.1 x hx y q e
    · have := (h.lt x (by simp [hx]) y e).1; omega
/-- a new one -/
theorem Own.new {w w' : World} {g : Nat} {v : Value} {p : World → Prop} {L : List (Value × (World → Prop))} (h : Own w g L) (k : Kept [] w w') (hp : p w') (hs : Stays v p) (hv : ∀ y, v.ownBlock = some y → w.heap.size ≤ y ∧ y < w'.heap.size ∧ y ≠ g) : Own w' g ((v, p) :: L) := by
  have h' := h.then k (by simp)
  refine ⟨fun x hx => ?_, fun x hx => ?_, fun x hx y hy => ?_, List.pairwise_cons.2 ⟨fun x hx y hy e => ?_, h'.ap⟩⟩
  · rcases List.mem_cons.1 hx with rfl | hx
    · exact hp
    · exact h'.holds x hx
  · rcases List.mem_cons.1 hx with rfl | hx
    · exact hs
    · exact h'.stays x hx
  · rcases List.mem_cons.1 hx with rfl | hx
    · exact (hv y hy).2
    · exact h'.lt x hx y hy
  · have := (h.lt x hx y e).1; have := (hv y hy).1; omega
/-- the blocks of things -/
def blks (L : List (Value × (World → Prop))) : List Nat := L.flatMap fun x => x.1.ownBlock.toList
theorem mem_blks {L : List (Value × (World → Prop))} {y : Nat} : y ∈ blks L ↔ ∃ x ∈ L, x.1.ownBlock = some y := by
  unfold blks
  rw [List.mem_flatMap]
  exact ⟨fun ⟨x, h1, h2⟩ => ⟨x, h1, own_mem.1 h2⟩, fun ⟨x, h1, h2⟩ => ⟨x, h1, own_mem.2 h2⟩⟩
theorem blks_perm {L L' : List (Value × (World → Prop))} (p : L.Perm L') {y : Nat} : y ∈ blks L ↔ y ∈ blks L' := by
  rw [mem_blks, mem_blks]
  exact ⟨fun ⟨x, h1, h2⟩ => ⟨x, p.mem_iff.1 h1, h2⟩, fun ⟨x, h1, h2⟩ => ⟨x, p.mem_iff.2 h1, h2⟩⟩
/-- the first one is another -/
theorem blks_head {w : World} {L L' R : List (Value × (World → Prop))} {v v' : Value} {A A' : World → Prop} (p : L.Perm ((v, A) :: R)) (p' : ((v', A') :: R).Perm L') (h : ∀ y, v'.ownBlock = some y → v.ownBlock = some y ∨ w.heap.size ≤ y) : Fr w (blks L) (blks L') := by
  intro y hy
  obtain ⟨x, hx, e⟩ := mem_blks.1 ((blks_perm p').2 hy)
  rcases List.mem_cons.1 hx with rfl | hx
  · rcases h y e with q | q
    · exact .inl ((blks_perm p).2 (mem_blks.2 ⟨(v, A), List.mem_cons_self .., q⟩))
    · exact .inr q
  · exact .inl ((blks_perm p).2 (mem_blks.2 ⟨x, List.mem_cons_of_mem _ hx, e⟩))
theorem blks_sub {w : World} {L L' : List (Value × (World → Prop))} (h : ∀ x ∈ L', x ∈ L ∨ ∀ y, x.1.ownBlock = some y → w.heap.size ≤ y) : Fr w (blks L) (blks L') := by
  intro y hy
  obtain ⟨x, hx, e⟩ := mem_blks.1 hy
  rcases h x hx with q | q
  · exact .inl (mem_blks.2 ⟨x, q, e⟩)
  · exact .inr (q y e)
theorem Fr.trans {w w' : World} {F F' F'' : List Nat} (h : Fr w F F') (h' : Fr w' F' F'') (hs : w.heap.size ≤ w'.heap.size) : Fr w F F'' := fun x hx => by
  rcases h' x hx with q | q
  · exact h x q
  · exact .inr (by omega)
theorem Row.stays (base sz : Nat) (v : Value) (n : Nat) (cs : List Value) : Stays v (fun w => Row w base sz v n cs) := fun w w' S h k hS => h.kept k hS
/-- changes: three cells each -/
def ccells : List Chg → List Value
  | [] => []
  | x :: r => .int .i64 x.key :: .int .u64 x.val :: .bool x.gone :: ccells r
theorem ccells_length : ∀ (l : List Chg), (ccells l).length = l.length * 3
  | [] => rfl
  | x :: r => by simp [ccells, ccells_length r]; omega
theorem ccells_at : ∀ {l : List Chg} {i : Nat} {x : Chg}, l[i]? = some x → (ccells l)[i * 3]? = some (.int .i64 x.key) ∧ (ccells l)[i * 3 + 1]? = some (.int .u64 x.val) ∧ (ccells l)[i * 3 + 2]? = some (.bool x.gone)
  | [], i, x, h => by simp at h
  | y :: r, 0, x, h => by
    simp at h
    subst h
    exact ⟨rfl, rfl, rfl⟩
  | y :: r, i + 1, x, h => by
    have := ccells_at (l := r) (i := i) (x := x) (by simpa using h)
    rw [show (i + 1) * 3 = i * 3 + 3 by omega]
    exact this
theorem ccells_append (a b : List Chg) : ccells (a ++ b) = ccells a ++ ccells b := by
  induction a with
  | nil => rfl
  | cons x r ih => simp [ccells, ih]
/-- a list of changes of one's own -/
def Cs (w : World) (base : Nat) (v : Value) (l : List Chg) : Prop := Row w base 3 v l.length (ccells l)
theorem Cs.kept {w w' : World} {base : Nat} {v : Value} {l : List Chg} {S : List Nat} (h : Cs w base v l) (k : Kept S w w') (hS : ∀ x, v.ownBlock = some x → x ∉ S) : Cs w' base v l := Row.kept h k hS
theorem Cs.shape {w : World} {base : Nat} {v : Value} {l : List Chg} (h : Cs w base v l) : ∃ p c, v = .slice p l.length c ∧ l.length ≤ c ∧ c ≤ maxLen := Row.shape h
theorem Cs.nil (w : World) (base : Nat) : Cs w base (.slice none 0 0) [] := Row.nil w base 3
theorem Cs.at {w : World} {base : Nat} {p : Option Addr} {n c : Nat} {l : List Chg} (h : Cs w base (.slice p n c) l) {j : Nat} {x : Chg} (hj : l[j]? = some x) : ∃ g, p = some ⟨g, 0, none⟩ ∧ base ≤ g ∧ g < w.heap.size ∧ w.cell? ⟨g, j * 3, none⟩ = some (.int .i64 x.key) ∧ w.cell? ⟨g, j * 3 + 1, none⟩ = some (.int .u64 x.val) ∧ w.cell? ⟨g, j * 3 + 2, none⟩ = some (.bool x.gone) := by
  have h' : Row w base 3 (.slice p n c) l.length (ccells l) := h
  obtain ⟨p', c', e, h3, h4⟩ := Row.shape h'
  cases e
  have hl := (List.getElem?_eq_some_iff.1 hj).1
  obtain ⟨g, rfl, h6, h7, h8, h9⟩ := Row.pos h' (by omega)
  obtain ⟨a0, a1, a2⟩ := ccells_at hj
  exact ⟨g, rfl, h6, h7, h8 _ _ a0, h8 _ _ a1, h8 _ _ a2⟩
def u64 (v : Int) : Prop := 0 ≤ v ∧ v < 18446744073709551616
end Go.Proofs.YtnjfahgmebmakaaGreatDoor

/-
  OWN WORK. The model (layer 18): lists of entries; how one change is laid into one.
-/
namespace Go.Proofs.YtnjfahgmebmakaaGreatDoor
open Go.RowKit
set_option linter.unusedVariables false
def ecs : List (Int × Int) → List Value
  | [] => []
  | x :: r => .int .i64 x.1 :: .int .u64 x.2 :: ecs r
theorem ecs_length : ∀ (l : List (Int × Int)), (ecs l).length = l.length * 2
  | [] => rfl
  | x :: r => by simp [ecs, ecs_length r]; omega
theorem ecs_at : ∀ {l : List (Int × Int)} {i : Nat} {x : Int × Int}, l[i]? = some x → (ecs l)[i * 2]? = some (.int .i64 x.1) ∧ (ecs l)[i * 2 + 1]? = some (.int .u64 x.2)
  | [], i, x, h => by simp at h
  | y :: r, 0, x, h => by
    simp at h
    subst h
    exact ⟨rfl, rfl⟩
  | y :: r, i + 1, x, h => by
    have := ecs_at (l := r) (i := i) (x := x) (by simpa using h)
    rw [show (i + 1) * 2 = i * 2 + 2 by omega]
    exact this
theorem ecs_append (a b : List (Int × Int)) : ecs (a ++ b) = ecs a ++ ecs b := by
  induction a with
  | nil => rfl
  | cons x r ih => simp [ecs, ih]
/-- a list of entries of one's own -/
def Es (w : World) (base : Nat) (v : Value) (l : List (Int × Int)) : Prop := Row w base 2 v l.length (ecs l)
theorem Es.kept {w w' : World} {base : Nat} {v : Value} {l : List (Int × Int)} {S : List Nat} (h : Es w base v l) (k : Kept S w w') (hS : ∀ x, v.ownBlock = some x → x ∉ S) : Es w' base v l := Row.kept h k hS
theorem Es.mono {w : World} {b b' : Nat} {v : Value} {l : List (Int × Int)} (h : Es w b v l) (hb : b' ≤ b) : Es w b' v l := Row.mono h hb
theorem Es.nil (w : World) (base : Nat) : Es w base (.slice none 0 0) [] := Row.nil w base 2
theorem Es.shape {w : World} {base : Nat} {v : Value} {l : List (Int × Int)} (h : Es w base v l) : ∃ p c, v = .slice p l.length c ∧ l.length ≤ c ∧ c ≤ maxLen := Row.shape h
theorem Es.at {w : World} {base : Nat} {p : Option Addr} {n c : Nat} {l : List (Int × Int)} (h : Es w base (.slice p n c) l) {j : Nat} {x : Int × Int} (hj : l[j]? = some x) : ∃ g, p = some ⟨g, 0, none⟩ ∧ base ≤ g ∧ g < w.heap.size ∧ w.cell? ⟨g, j * 2, none⟩ = some (.int .i64 x.1) ∧ w.cell? ⟨g, j * 2 + 1, none⟩ = some (.int .u64 x.2) := by
  have h' : Row w base 2 (.slice p n c) l.length (ecs l) := h
  obtain ⟨p', c', e, h3, h4⟩ := Row.shape h'
  cases e
  have hl := (List.getElem?_eq_some_iff.1 hj).1
  obtain ⟨g, rfl, h6, h7, h8, h9⟩ := Row.pos h' (by omega)
  obtain ⟨a0, a1⟩ := ecs_at hj
  exact ⟨g, rfl, h6, h7, h8 _ _ a0, h8 _ _ a1⟩
theorem src_ent {P : Program} (w : World) (t e : TypeId) (ht : P.underlying t = some (.slice e)) (a b : Int) : Src P 2 t (.slice (some ⟨w.heap.size, 0, none⟩) 1 1) 1 [.int .i64 a, .int .u64 b] (w.alloc (.cells #[.int .i64 a, .int .u64 b] e)) := by
  refine Src.ofSlice _ ht _ _ _ _ rfl (fun j u hj => ?_) (fun u hu => ?_)
  · rw [add_none rfl]
    have q := (Blk.new w e [.int .i64 a, .int .u64 b]).cell hj
    simpa using q
  · simp at hu
    rcases hu with rfl | rfl <;> rfl
/-- an entry more: in the old block or in a new one -/
theorem Es.snoc {w w' : World} {base : Nat} {v : Value} {l : List (Int × Int)} {x : Int × Int} (h : Row w' base 2 v (l.length + 1) (ecs l ++ [.int .i64 x.1, .int .u64 x.2])) : Es w' base v (l ++ [x]) := by
  unfold Es
  rw [List.length_append, ecs_append]
  exact h
/-! how a change is laid -/
theorem layE_len (x : Chg) : ∀ (b : Bool) (l : List (Int × Int)), (layE x b l).length ≤ l.length + (if b = true then 0 else 1)
  | b, [] => by unfold layE; cases b <;> simp
  | b, e :: r => by
    have ih := layE_len x (b || decide (x.key ≤ e.1)) r
    unfold layE
    rw [List.length_append, List.length_append]
    cases b with
    | true =>
      simp only [Bool.true_or, if_true] at ih
      simp only [Bool.true_eq_false, false_and, if_false, List.length_nil, if_true, Bool.true_or]
      split <;> simp <;> omega
    | false =>
      simp only [Bool.false_or] at ih
      simp only [Bool.false_or, true_and, Bool.false_eq_true, if_false]
      by_cases c1 : x.key ≤ e.1
      · rw [decide_eq_true c1] at ih ⊢
        simp only [if_true] at ih
        rw [if_pos c1]
        split <;> simp <;> omega
      · rw [decide_eq_false c1] at ih ⊢
        simp only [Bool.false_eq_true, if_false] at ih
        rw [if_neg c1]
        split <;> simp <;> omega
theorem foldE_len (l : List Chg) : ∀ (o : List (Int × Int)), (foldE o l).length ≤ o.length + l.length := by
  induction l with
  | nil => intro o; simp [foldE]
  | cons x r ih =>
    intro o
    have h1 := ih (layE x x.gone o)
    have h2 := layE_len x x.gone o
    have h3 : (layE x x.gone o).length ≤ o.length + 1 := by split at h2 <;> omega
    show (foldE (layE x x.gone o) r).length ≤ o.length + (r.length + 1)
    omega
theorem foldE_take {o : List (Int × Int)} {l : List Chg} {j : Nat} {x : Chg} (h : l[j]? = some x) : foldE o (l.take (j + 1)) = layE x x.gone (foldE o (l.take j)) := by
  unfold foldE
  rw [List.take_add_one, h, Option.toList_some, List.foldl_append]
  rfl
theorem foldL_take {ls : List (List Chg)} {i : Nat} {l : List Chg} (h : ls[i]? = some l) : foldL (ls.take (i + 1)) = foldE (foldL (ls.take i)) l := by
  unfold foldL
  rw [List.take_add_one, h, Option.toList_some, List.foldl_append]
  rfl
theorem foldL_len (ls : List (List Chg)) : ∀ (o : List (Int × Int)), (ls.foldl foldE o).length ≤ o.length + ls.flatten.length := by
  induction ls with
  | nil => intro o; simp
  | cons l r ih =>
    intro o
    have h1 := ih (foldE o l)
    have h2 := foldE_len l o
    simp only [List.foldl_cons, List.flatten_cons, List.length_append]
    omega
theorem take_flat_le (ls : List (List Chg)) (i : Nat) : (ls.take i).flatten.length ≤ ls.flatten.length := by
  have : ls.flatten = (ls.take i).flatten ++ (ls.drop i).flatten := by rw [← List.flatten_append, List.take_append_drop]
  rw [this, List.length_append]; omega
/-- all the lists on the way stay short -/
theorem fold_bound {ls : List (List Chg)} {i j : Nat} {l : List Chg} (hi : ls[i]? = some l) : (foldE (foldL (ls.take i)) (l.take j)).length ≤ ls.flatten.length := by
  have h1 := foldE_len (l.take j) (foldL (ls.take i))
  have h2 := foldL_len (ls.take i) []
  have h3 := take_flat_le ls (i + 1)
  rw [List.take_add_one, hi, Option.toList_some, List.flatten_append, List.length_append, show ([l] : List (List Chg)).flatten = l by simp] at h3
  have h4 : (l.take j).length ≤ l.length := by rw [List.length_take]; omega
  have h5 : (foldL (ls.take i)).length ≤ (ls.take i).flatten.length := by unfold foldL; simpa using h2
  omega
/-- the k first of out are gone over: next and laid -/
structure Mid (x : Chg) (out : List (Int × Int)) (k : Nat) (next : List (Int × Int)) (b : Bool) : Prop where
  eq : next ++ layE x b (out.drop k) = layE x x.gone out
  len : next.length ≤ k + 1
  lb : b = false → next.length ≤ k
theorem Mid.start (x : Chg) (out : List (Int × Int)) : Mid x out 0 [] x.gone := ⟨by simp, by simp, by simp⟩
theorem Mid.step {x : Chg} {out next : List (Int × Int)} {k : Nat} {b : Bool} {e : Int × Int} (h : Mid x out k next b) (hk : out[k]? = some e) : Mid x out (k + 1) (next ++ (if b = false ∧ x.key ≤ e.1 then [(x.key, x.val)] else []) ++ (if e.1 = x.key then [] else [e])) (b || decide (x.key ≤ e.1)) := by
  have hd : out.drop k = e :: out.drop (k + 1) := by
    obtain ⟨hl, he⟩ := List.getElem?_eq_some_iff.1 hk
    rw [List.drop_eq_getElem_cons hl, he]
  refine ⟨?_, ?_, ?_⟩
  · have q := h.eq
    rw [hd] at q
    rw [← q]
    conv => rhs; unfold layE
    simp only [List.append_assoc]
  · have h1 := h.len; have h2 := h.lb
    rw [List.length_append, List.length_append]
    by_cases c : b = false ∧ x.key ≤ e.1
    · rw [if_pos c]; have := h2 c.1; split <;> simp <;> omega
    · rw [if_neg c]; split <;> simp <;> omega
  · intro hb
    have hb' : b = false ∧ ¬ x.key ≤ e.1 := by simpa using hb
    have h2 := h.lb hb'.1
    rw [List.length_append, List.length_append, if_neg (fun q => hb'.2 q.2)]
    split <;> simp <;> omega
theorem Mid.fin {x : Chg} {out next : List (Int × Int)} {k : Nat} {b : Bool} (h : Mid x out k next b) (hk : k = out.length) : layE x x.gone out = next ++ (if b = true then [] else [(x.key, x.val)]) := by
  rw [← h.eq, hk, List.drop_length]
  rfl
def entE (S : St) : Int := if S.opn = [] then 0 else 210
def entL (S : St) : List (Int × Int) := if S.opn = [] then foldL S.done else []
/-- lists of changes, each of its own -/
def Ll (w : World) (v : Value) (D : List (List Chg × Value)) : Prop := Row w 0 1 v D.length (D.map Prod.snd) ∧ ∀ d ∈ D, Cs w 0 d.2 d.1
theorem Ll.then {w w' : World} {v : Value} {D : List (List Chg × Value)} (h : Ll w v D) (k : Kept [] w w') : Ll w' v D := ⟨h.1.kept k (by simp), fun d hd => (h.2 d hd).kept k (by simp)⟩
theorem Ll.at {w : World} {p : Option Addr} {n c : Nat} {D : List (List Chg × Value)} (h : Ll w (.slice p n c) D) {j : Nat} {d : List Chg × Value} (hj : D[j]? = some d) : ∃ gl, p = some ⟨gl, 0, none⟩ ∧ w.cell? ⟨gl, j, none⟩ = some d.2 := by
  have hjl := (List.getElem?_eq_some_iff.1 hj).1
  obtain ⟨p', c', e, h3, h4⟩ := Row.shape h.1
  cases e
  obtain ⟨gl, rfl, h6, h7, h8, h9⟩ := Row.pos h.1 (by omega)
  exact ⟨gl, rfl, h8 _ _ (by rw [List.getElem?_map, hj]; rfl)⟩
end Go.Proofs.YtnjfahgmebmakaaGreatDoor

/-
  OWN WORK (by mkpnk.py). The face of the program's State (layer 18); the law's num, entries, numbers, changes.
-/
namespace Go.Proofs.YtnjfahgmebmakaaGreatDoor
open Go.RowKit
set_option linter.unusedVariables false
set_option linter.unusedSimpArgs false

/-- how much there is: each step adds one at most -/
def chsN : List Tn → Nat
  | [] => 0
  | t :: r => t.chs.length + chsN r
def cnt (S : St) : Nat := S.done.length + S.done.flatten.length + chsN S.opn
def small (S : St) : Prop := cnt S ≤ 3600000000000
/-- lists of changes that are new, each in a block of its own -/
structure LlN (w : World) (base : Nat) (v : Value) (D : List (List Chg × Value)) : Prop where
  row : Row w base 1 v D.length (D.map Prod.snd)
  each : ∀ d ∈ D, Cs w base d.2 d.1
  ap : (v :: D.map Prod.snd).Pairwise Ap
theorem LlN.ll {w : World} {base : Nat} {v : Value} {D : List (List Chg × Value)} (h : LlN w base v D) : Ll w v D := ⟨h.row.mono (Nat.zero_le _), fun d hd => Row.mono (h.each d hd) (Nat.zero_le _)⟩
/-- what the laws ask of the program's State (Vr: what the package variables in the blocks Ks hold, as the program's text lays them): Pn w g F c S: at g lies a State that tells S, in the blocks F -/
structure PnOps (Ks : List Nat) (Vr : World → Prop) (Pn : World → Nat → List Nat → Cf → St → Prop) : Prop where
  kept : ∀ {w w' : World} {g : Nat} {F : List Nat} {c : Cf} {S : St} {Z : List Nat}, Pn w g F c S → Kept Z w w' → (∀ x ∈ F, x ∉ Z) → Pn w' g F c S
  lt : ∀ {w : World} {g : Nat} {F : List Nat} {c : Cf} {S : St}, Pn w g F c S → ∀ x ∈ F, x < w.heap.size
  ok : ∀ {w : World} {g : Nat} {F : List Nat} {c : Cf} {S : St}, Pn w g F c S → OkS c S
  vkept : ∀ {w w' : World} {Z : List Nat}, Vr w → Kept Z w w' → (∀ x ∈ Ks, x ∉ Z) → Vr w'
  vlt : ∀ {w : World}, Vr w → ∀ x ∈ Ks, x < w.heap.size
  knot : ∀ {w : World} {g : Nat} {F : List Nat} {c : Cf} {S : St}, Pn w g F c S → ∀ x ∈ Ks, x ∉ F
  new : ∀ (c : Cf) (w : World), Vr w → Calls Tryz.prog 26 #[.agg #[.int .i64 c.pages, .int .i64 c.slots, .int .i64 c.log, .int .i64 c.frames, .int .i64 c.table, .int .i64 c.keys]] w fun e w' => (mayC c ∧ ∃ g F, e = .returned (.tuple #[.pointer (some ⟨g, 0, none⟩), .int .i64 0]) ∧ Pn w' g F c ⟨[], [], 0⟩ ∧ (∀ x ∈ F, w.heap.size ≤ x) ∧ Kept [] w w') ∨ (¬ mayC c ∧ e = .returned (.tuple #[.pointer none, .int .i64 260]) ∧ Kept [] w w')
  begin_ : ∀ {g : Nat} {F : List Nat} {c : Cf} {S : St} (id : Int) (w : World), Vr w → Pn w g F c S → small S → I64 id → Calls Tryz.prog 19 #[.pointer (some ⟨g, 0, none⟩), .int .i64 id] w fun e w' => ∃ F', e = .returned (.int .i64 (begE c S id)) ∧ Pn w' g F' c (begS c S id) ∧ Fr w F F' ∧ Kept F w w'
  get : ∀ {g : Nat} {F : List Nat} {c : Cf} {S : St} (id key : Int) (w : World), Vr w → Pn w g F c S → small S → I64 id → I64 key → Calls Tryz.prog 21 #[.pointer (some ⟨g, 0, none⟩), .int .i64 id, .int .i64 key] w fun e w' => ∃ F', e = .returned (.tuple #[.int .u64 (getA c S id key).1, .bool (getA c S id key).2.1, .int .i64 (getA c S id key).2.2]) ∧ Pn w' g F' c (getS c S id key) ∧ Fr w F F' ∧ Kept F w w'
  put : ∀ {g : Nat} {F : List Nat} {c : Cf} {S : St} (id key v : Int) (w : World), Vr w → Pn w g F c S → small S → I64 id → I64 key → u64 v → Calls Tryz.prog 22 #[.pointer (some ⟨g, 0, none⟩), .int .i64 id, .int .i64 key, .int .u64 v] w fun e w' => ∃ F', e = .returned (.int .i64 (putE c S id key v)) ∧ Pn w' g F' c (putS c S id key v) ∧ Fr w F F' ∧ Kept F w w'
  delete : ∀ {g : Nat} {F : List Nat} {c : Cf} {S : St} (id key : Int) (w : World), Vr w → Pn w g F c S → small S → I64 id → I64 key → Calls Tryz.prog 50 #[.pointer (some ⟨g, 0, none⟩), .int .i64 id, .int .i64 key] w fun e w' => ∃ F', e = .returned (.tuple #[.bool (delB c S id key), .int .i64 (delE c S id key)]) ∧ Pn w' g F' c (delS c S id key) ∧ Fr w F F' ∧ Kept F w w'
  commit : ∀ {g : Nat} {F : List Nat} {c : Cf} {S : St} (id : Int) (w : World), Vr w → Pn w g F c S → small S → I64 id → Calls Tryz.prog 23 #[.pointer (some ⟨g, 0, none⟩), .int .i64 id] w fun e w' => ∃ F', e = .returned (.int .i64 (endE S id)) ∧ Pn w' g F' c (comS S id) ∧ Fr w F F' ∧ Kept F w w'
  abort : ∀ {g : Nat} {F : List Nat} {c : Cf} {S : St} (id : Int) (w : World), Vr w → Pn w g F c S → small S → I64 id → Calls Tryz.prog 12 #[.pointer (some ⟨g, 0, none⟩), .int .i64 id] w fun e w' => ∃ F', e = .returned (.int .i64 (endE S id)) ∧ Pn w' g F' c (aboS S id) ∧ Fr w F F' ∧ Kept F w w'
  check : ∀ {g : Nat} {F : List Nat} {c : Cf} {S : St} (d : Int) (w : World), Vr w → Pn w g F c S → small S → I64 d → Calls Tryz.prog 54 #[.pointer (some ⟨g, 0, none⟩), .int .i64 d] w fun e w' => ∃ F', e = .returned (.int .i64 (chkE c S d)) ∧ Pn w' g F' c (chkS c S d) ∧ Fr w F F' ∧ Kept F w w'
  renew : ∀ {g : Nat} {F : List Nat} {c : Cf} {S : St} (w : World), Vr w → Pn w g F c S → small S → Calls Tryz.prog 18 #[.pointer (some ⟨g, 0, none⟩)] w fun e w' => ∃ F', e = .returned (.int .i64 (renE S)) ∧ Pn w' g F' c (renS S) ∧ Fr w F F' ∧ Kept F w w'
  ids : ∀ {g : Nat} {F : List Nat} {c : Cf} {S : St} (w : World), Vr w → Pn w g F c S → Calls Tryz.prog 10 #[.pointer (some ⟨g, 0, none⟩)] w fun e w' => ∃ vi, e = .returned vi ∧ Ns w' w.heap.size vi (idsS S) ∧ Kept [] w w'
  used : ∀ {g : Nat} {F : List Nat} {c : Cf} {S : St} (w : World), Vr w → Pn w g F c S → Calls Tryz.prog 32 #[.pointer (some ⟨g, 0, none⟩)] w fun e w' => e = .returned (.tuple #[.int .i64 S.used, .int .i64 (keptO S.opn)]) ∧ Kept [] w w'
/-- .. and of what it tells of all keys and of what was done -/
structure PnTel (Vr : World → Prop) (Pn : World → Nat → List Nat → Cf → St → Prop) : Prop where
  entries : ∀ {g : Nat} {F : List Nat} {c : Cf} {S : St} (w : World), Vr w → Pn w g F c S → small S → Calls Tryz.prog 13 #[.pointer (some ⟨g, 0, none⟩)] w fun e w' => ∃ ve, e = .returned (.tuple #[ve, .int .i64 (entE S)]) ∧ Es w' w.heap.size ve (entL S) ∧ Kept [] w w'
  done : ∀ {g : Nat} {F : List Nat} {c : Cf} {S : St} (w : World), Vr w → Pn w g F c S → small S → Calls Tryz.prog 16 #[.pointer (some ⟨g, 0, none⟩)] w fun e w' => ∃ v D, e = .returned v ∧ LlN w' w.heap.size v D ∧ D.map Prod.fst = S.done ∧ Kept [] w w'
/-- what is asked of Fold: lists of changes that lie anywhere -/
structure PnFold : Prop where
  fold : ∀ (v : Value) (D : List (List Chg × Value)) (w : World), Ll w v D → (D.map Prod.fst).flatten.length ≤ 3600000000000 → (∀ d ∈ D, ∀ x ∈ d.1, I64 x.key ∧ u64 x.val) → Calls Tryz.prog 15 #[v] w fun e w' => ∃ ve, e = .returned ve ∧ Es w' w.heap.size ve (foldL (D.map Prod.fst)) ∧ Kept [] w w'
structure OpR where
  kind : Int
  id : Int
  key : Int
  v : Int
  n : Int
def OpR.v5 (o : OpR) : Value := .agg #[.int .i64 o.kind, .int .i64 o.id, .int .i64 o.key, .int .u64 o.v, .int .i64 o.n]
def OpR.ok (o : OpR) : Prop := I64 o.id ∧ I64 o.key ∧ u64 o.v ∧ I64 o.n
/-- what a step leaves -/
def stS (c : Cf) (S : St) (o : OpR) : St :=
  if o.kind = 1 then begS c S o.id else if o.kind = 2 then getS c S o.id o.key else if o.kind = 3 then putS c S o.id o.key o.v else if o.kind = 4 then delS c S o.id o.key
  else if o.kind = 5 then comS S o.id else if o.kind = 6 then aboS S o.id else if o.kind = 7 then chkS c S o.n else if o.kind = 8 then renS S else S
theorem num_any (n : Int) (w : World) : Calls Tryz.prog 11 #[.int .i64 n] w fun e w' => e = .returned (.int .i64 n) ∧ w' = w := by
  go_enter Tryz.func11, Tryz.ntmps11
  go_wp2
  go_ret
  exact ⟨rfl, rfl⟩
theorem eqEnt (a b : Int) (w : World) : (Op.equalIn 10000 47 (.agg #[.int .i64 a, .int .u64 b]) (.agg #[.int .i64 a, .int .u64 b])).run Tryz.prog w = .ok true w := by
  have u3 := Tryz.underlying3
  have u4 := Tryz.underlying45
  have a3 := Tryz.isAgg3
  have a4 := Tryz.isAgg45
  have z3 := Tryz.sizeOf3
  have z4 := Tryz.sizeOf45
  have hS : Tryz.prog.underlying 47 = some (.struct (Tryz.prog.fieldsOf 47)) := by kernel_rfl
  have hp : Tryz.prog.stoodInHeld 47 = false := by kernel_rfl
  rw [show (10000 : Nat) = 9999 + 1 from rfl, run_equalIn_agg w 9999 47 _ _ hS hp]
  simp only [Program.fieldsOf, Tryz.underlying47]
  go_simp
set_option maxRecDepth 20000 in
set_option maxHeartbeats 1600000 in
theorem entries_eq (a b : Value) (l : List (Int × Int)) (b1 b2 : Nat) (w : World) (ha : Es w b1 a l) (hb : Es w b2 b l) : Calls Tryz.prog 14 #[a, b] w fun e w' => e = .returned (.bool true) ∧ Kept [] w w' := by
  obtain ⟨p, c, hpa, hnc, hcm⟩ := ha.shape
  subst hpa
  obtain ⟨q, d, hqb, -, -⟩ := hb.shape
  subst hqb
  obtain ⟨n, hn⟩ : ∃ n, n = l.length := ⟨_, rfl⟩
  have HN := @hideH _ (And.intro hn (Nat.le_trans hnc hcm))
  have HA := @hideH _ ha
  have HB := @hideH _ hb
  rw [← hn] at HA HB ⊢
  clear ha hb hn hnc hcm
  go_enter Tryz.func14, Tryz.ntmps14
  go_wp2
  go_loopw [5] (fun vi wr => ∃ k : Nat, k ≤ n ∧ vi = .int .i64 k ∧ Hid (Kept [] w wr)) (fun vi _ => n - (intOf vi).toNat)
  case atStart => exact ⟨0, Nat.zero_le _, rfl, Kept.refl _ _⟩
  case round =>
    obtain ⟨k, hk, rfl, hh⟩ := hrel
    by_cases hkl : k < n
    · have hkl' : (k : Int) < (n : Int) := by omega
      have h0 : (0 : Int) ≤ (k : Int) := by omega
      have wk : IntKind.i64.wrap ((k : Int) + 1) = (k : Int) + 1 := wrap_i64_of (by omega) (by have e := HN.out.2; rw [← HN.out.1] at e; unfold maxLen at e; omega)
      obtain ⟨x, hx⟩ : ∃ x, l[k]? = some x := ⟨_, List.getElem?_eq_getElem (by have := HN.out.1; omega)⟩
      obtain ⟨ga, epa, -, -, a0, a1⟩ := (HA.out.kept hh.out (by simp)).at hx
      obtain ⟨gb, epb, -, -, b0_, b1_⟩ := (HB.out.kept hh.out (by simp)).at hx
      subst epa epb
      have hxy := eqEnt x.1 x.2
      have HK := @hideH _ hh.out
      clear hx hh
      go_upto_region 6 with fail
      go_quiet (fail)
      go_wp2
      go_roundw
      case rel => exact ⟨k + 1, by omega, by go_num, HK.out.drewN' _⟩
      case measure => simp [intOf]; omega
    · have hkl' : ¬ (k : Int) < (n : Int) := by omega
      go_wp2
      go_ret
      exact ⟨rfl, hh.out⟩
set_option maxRecDepth 20000 in
set_option maxHeartbeats 1600000 in
theorem numbers_eq (a b : Value) (l : List Int) (b1 b2 : Nat) (w : World) (ha : Ns w b1 a l) (hb : Ns w b2 b l) : Calls Tryz.prog 17 #[a, b] w fun e w' => e = .returned (.bool true) ∧ Kept [] w w' := by
  obtain ⟨p, c, hpa, hnc, hcm⟩ := ha.shape
  subst hpa
  obtain ⟨q, d, hqb, -, -⟩ := hb.shape
  subst hqb
  obtain ⟨n, hn⟩ : ∃ n, n = l.length := ⟨_, rfl⟩
  have HN := @hideH _ (And.intro hn (Nat.le_trans hnc hcm))
  have HA := @hideH _ ha
  have HB := @hideH _ hb
  rw [← hn] at HA HB ⊢
  clear ha hb hn hnc hcm
  go_enter Tryz.func17, Tryz.ntmps17
  go_wp2
  go_loopw [5] (fun vi wr => ∃ k : Nat, k ≤ n ∧ vi = .int .i64 k ∧ Hid (Kept [] w wr)) (fun vi _ => n - (intOf vi).toNat)
  case atStart => exact ⟨0, Nat.zero_le _, rfl, Kept.refl _ _⟩
  case round =>
    obtain ⟨k, hk, rfl, hh⟩ := hrel
    by_cases hkl : k < n
    · have hkl' : (k : Int) < (n : Int) := by omega
      have h0 : (0 : Int) ≤ (k : Int) := by omega
      have wk : IntKind.i64.wrap ((k : Int) + 1) = (k : Int) + 1 := wrap_i64_of (by omega) (by have e := HN.out.2; rw [← HN.out.1] at e; unfold maxLen at e; omega)
      obtain ⟨x, hx⟩ : ∃ x, l[k]? = some x := ⟨_, List.getElem?_eq_getElem (by have := HN.out.1; omega)⟩
      obtain ⟨ga, epa, -, -, a0, -⟩ := (HA.out.kept hh.out (by simp)).at hx
      obtain ⟨gb, epb, -, -, b0_, -⟩ := (HB.out.kept hh.out (by simp)).at hx
      subst epa epb
      have hxx : (x != x) = false := by simp
      have HK := @hideH _ hh.out
      clear hx hh
      go_upto_region 6 with fail
      go_quiet (fail)
      go_wp2
      go_roundw
      case rel => exact ⟨k + 1, by omega, by go_num, HK.out.drewN' _⟩
      case measure => simp [intOf]; omega
    · have hkl' : ¬ (k : Int) < (n : Int) := by omega
      go_wp2
      go_ret
      exact ⟨rfl, hh.out⟩
set_option maxRecDepth 20000 in
set_option maxHeartbeats 1600000 in
theorem changes_eq (a b : Value) (l : List Chg) (b1 b2 : Nat) (w : World) (ha : Cs w b1 a l) (hb : Cs w b2 b l) : Calls Tryz.prog 60 #[a, b] w fun e w' => e = .returned (.bool true) ∧ Kept [] w w' := by
  obtain ⟨p, c, hpa, hnc, hcm⟩ := ha.shape
  subst hpa
  obtain ⟨q, d, hqb, -, -⟩ := hb.shape
  subst hqb
  obtain ⟨n, hn⟩ : ∃ n, n = l.length := ⟨_, rfl⟩
  have HN := @hideH _ (And.intro hn (Nat.le_trans hnc hcm))
  have HA := @hideH _ ha
  have HB := @hideH _ hb
  rw [← hn] at HA HB ⊢
  clear ha hb hn hnc hcm
  go_enter Tryz.func60, Tryz.ntmps60
  go_wp2
  go_loopw [5] (fun vi wr => ∃ k : Nat, k ≤ n ∧ vi = .int .i64 k ∧ Hid (Kept [] w wr)) (fun vi _ => n - (intOf vi).toNat)
  case atStart => exact ⟨0, Nat.zero_le _, rfl, Kept.refl _ _⟩
  case round =>
    obtain ⟨k, hk, rfl, hh⟩ := hrel
    by_cases hkl : k < n
    · have hkl' : (k : Int) < (n : Int) := by omega
      have h0 : (0 : Int) ≤ (k : Int) := by omega
      have wk : IntKind.i64.wrap ((k : Int) + 1) = (k : Int) + 1 := wrap_i64_of (by omega) (by have e := HN.out.2; rw [← HN.out.1] at e; unfold maxLen at e; omega)
      obtain ⟨x, hx⟩ : ∃ x, l[k]? = some x := ⟨_, List.getElem?_eq_getElem (by have := HN.out.1; omega)⟩
      obtain ⟨ga, epa, -, -, a0, a1, a2⟩ := (HA.out.kept hh.out (by simp)).at hx
      obtain ⟨gb, epb, -, -, b0_, b1_, b2_⟩ := (HB.out.kept hh.out (by simp)).at hx
      subst epa epb
      have hk1 : (x.key != x.key) = false := by simp
      have hk2 : (x.val != x.val) = false := by simp
      have hk3 : (x.gone != x.gone) = false := by simp
      have HK := @hideH _ hh.out
      clear hx hh
      go_upto_region 6 with fail
      go_quiet (fail)
      go_wp2
      go_roundw
      case rel => exact ⟨k + 1, by omega, by go_num, HK.out.drewN' _⟩
      case measure => simp [intOf]; omega
    · have hkl' : ¬ (k : Int) < (n : Int) := by omega
      go_wp2
      go_ret
      exact ⟨rfl, hh.out⟩
end Go.Proofs.YtnjfahgmebmakaaGreatDoor

/-
  OWN WORK. The model (layer 18) in plain words: the length of a change, by where two rows of sixteen part.
-/
namespace Go.Proofs.YtnjfahgmebmakaaGreatDoor
set_option linter.unusedVariables false
theorem alikeN_at : ∀ {a b : List Int} {k : Nat} {x y : Int}, (∀ i, i < k → a[i]? = b[i]?) → a[k]? = some x → b[k]? = some y → x ≠ y → alikeN a b = k
  | [], b, k, x, y, _, ha, _, _ => by simp at ha
  | a0 :: a, [], k, x, y, _, _, hb, _ => by simp at hb
  | a0 :: a, b0 :: b, 0, x, y, _, ha, hb, hne => by
    simp at ha hb; subst ha; subst hb
    unfold alikeN; rw [if_neg hne]
  | a0 :: a, b0 :: b, k + 1, x, y, h, ha, hb, hne => by
    have e0 : a0 = b0 := by simpa using h 0 (by omega)
    have ih := alikeN_at (a := a) (b := b) (k := k) (x := x) (y := y) (fun i hi => by simpa using h (i + 1) (by omega)) (by simpa using ha) (by simpa using hb) hne
    unfold alikeN; rw [if_pos e0, ih]; omega
theorem lengthL_same {a b : List Int} (h : a = b) : lengthL a b = 0 := if_pos h
/-- they part first at f, last at t - 1 -/
theorem lengthL_part {a b : List Int} (ha : a.length = 16) (hb : b.length = 16) {f t : Nat} {x y x' y' : Int} (hf : ∀ i, i < f → a[i]? = b[i]?) (h1 : a[f]? = some x) (h2 : b[f]? = some y) (hne : x ≠ y)
    (ht : ∀ i, t ≤ i → i < 16 → a[i]? = b[i]?) (ht0 : 0 < t) (ht16 : t ≤ 16) (h3 : a[t - 1]? = some x') (h4 : b[t - 1]? = some y') (hne' : x' ≠ y') : lengthL a b = (t : Int) - (f : Int) := by
  have e1 := alikeN_at hf h1 h2 hne
  have e2 : alikeN a.reverse b.reverse = 16 - t := by
    refine alikeN_at (x := x') (y := y') (fun i hi => ?_) ?_ ?_ hne'
    · rw [List.getElem?_reverse (by omega), List.getElem?_reverse (by omega), ha, hb]
      exact ht _ (by omega) (by omega)
    · rw [List.getElem?_reverse (by omega), ha, show 16 - 1 - (16 - t) = t - 1 by omega]; exact h3
    · rw [List.getElem?_reverse (by omega), hb, show 16 - 1 - (16 - t) = t - 1 by omega]; exact h4
  have hab : a ≠ b := fun e => by rw [e, h2] at h1; cases h1; exact hne rfl
  unfold lengthL
  rw [if_neg hab, e1, e2]
  omega
theorem same16 {a b : List Int} (ha : a.length = 16) (hb : b.length = 16) (h : ∀ i, i < 16 → a[i]? = b[i]?) : a = b := List.ext_getElem? fun i => by
  by_cases c : i < 16
  · exact h i c
  · rw [List.getElem?_eq_none (by omega), List.getElem?_eq_none (by omega)]
theorem alikeN_len : ∀ (u v : List Int), alikeN u v ≤ u.length
  | [], v => by simp [alikeN]
  | x :: u, [] => by simp [alikeN]
  | x :: u, y :: v => by
    have := alikeN_len u v
    unfold alikeN
    split
    · simp; omega
    · omega
theorem alikeN_eq : ∀ (u v : List Int) (i : Nat), i < alikeN u v → u[i]? = v[i]?
  | [], v, i, hi => by simp [alikeN] at hi
  | x :: u, [], i, hi => by simp [alikeN] at hi
  | x :: u, y :: v, i, hi => by
    unfold alikeN at hi
    split at hi
    · rename_i q
      cases i with
      | zero => simp [q]
      | succ i => simpa using alikeN_eq u v i (by omega)
    · omega
theorem lengthL_low (a b : List Int) (ha : a.length = 16) (hb : b.length = 16) : 0 ≤ lengthL a b := by
  by_cases e : a = b
  · rw [lengthL_same e]; omega
  · obtain ⟨f, hf1, hf2, hf3⟩ : ∃ f, f < 16 ∧ (∀ i, i < f → a[i]? = b[i]?) ∧ a[f]? ≠ b[f]? := by
      have : ∃ i, i < 16 ∧ a[i]? ≠ b[i]? := Classical.byContradiction fun q => e (same16 ha hb fun i hi => Classical.byContradiction fun r => q ⟨i, hi, r⟩)
      obtain ⟨i, hi, hne⟩ := this
      induction i using Nat.strongRecOn with
      | ind i ih =>
        by_cases q : ∃ j, j < i ∧ a[j]? ≠ b[j]?
        · obtain ⟨j, hj, hjn⟩ := q; exact ih j hj (by omega) hjn
        · exact ⟨i, hi, fun j hj => Classical.byContradiction fun r => q ⟨j, hj, r⟩, hne⟩
    have e1 : alikeN a b = f := by
      have ha' : a[f]? = some a[f] := List.getElem?_eq_getElem (by omega)
      have hb' : b[f]? = some b[f] := List.getElem?_eq_getElem (by omega)
      exact alikeN_at hf2 ha' hb' (fun q => hf3 (by rw [ha', hb', q]))
    have e2 : alikeN a.reverse b.reverse ≤ 15 - f := by
      have hr : ∀ {n : Nat}, (∀ i, i < n → a.reverse[i]? = b.reverse[i]?) → n ≤ 16 → n ≤ 15 - f := fun {n} q hn => by
        refine Classical.byContradiction fun r => hf3 ?_
        have := q (15 - f) (by omega)
        rw [List.getElem?_reverse (by omega), List.getElem?_reverse (by omega), ha, hb, show 16 - 1 - (15 - f) = f by omega] at this
        exact this
      exact hr (n := alikeN a.reverse b.reverse) (fun i hi => alikeN_eq _ _ i hi) (by have := alikeN_len a.reverse b.reverse; simp [ha] at this; exact this)
    unfold lengthL
    rw [if_neg e, e1]
    omega
end Go.Proofs.YtnjfahgmebmakaaGreatDoor

/-
  OWN WORK. The model (layer 18) in plain words: what each call answers and leaves, by cases.
-/
namespace Go.Proofs.YtnjfahgmebmakaaGreatDoor
open Go.RowKit
set_option linter.unusedVariables false
set_option linter.unusedSimpArgs false
theorem digits_length : ∀ (i : Nat) (v : Int), (digits i v).length = i
  | 0, _ => rfl
  | i + 1, v => by simp [digits, digits_length i]
theorem abo_none {s : St} {id : Int} (h : findO s.opn id = none) : endE s id = 160 ∧ aboS s id = s ∧ comS s id = s := by
  refine ⟨by unfold endE; rw [h]; rfl, by unfold aboS; rw [h], by unfold comS; rw [h]⟩
theorem abo_some {c : Cf} {s : St} (ok : OkS c s) {id : Int} {k : Nat} {t : Tn} (hk : s.opn[k]? = some t) (h : findO s.opn id = some t) : endE s id = 0 ∧ aboS s id = ⟨s.done, s.opn.eraseIdx k, s.used + 66 + sumL t.lens⟩ ∧ comS s id = ⟨s.done ++ [t.chs], s.opn.eraseIdx k, s.used + 66⟩ := by
  have e := dropO_at ok.dif hk
  have hid := (findO_some h).2
  refine ⟨by unfold endE; rw [h]; rfl, ?_, ?_⟩
  · unfold aboS; rw [h]; unfold undoS; dsimp only; rw [e]
  · unfold comS; rw [h]; dsimp only; rw [← hid, e]
theorem map_erase {α β : Type} (f : α → β) (l : List α) (k : Nat) : (l.eraseIdx k).map f = (l.map f).eraseIdx k := by rw [erase_split, erase_split, List.map_append, List.map_take, List.map_drop]
theorem get_no {c : Cf} {s : St} {id key : Int} (h : askE c s id key ≠ 0) : getA c s id key = (0, false, askE c s id key) ∧ getS c s id key = s := by
  unfold getA getS; rw [if_neg h, if_neg h]; exact ⟨rfl, rfl⟩
theorem get_yes {c : Cf} {s : St} (ok : OkS c s) {id key : Int} {k : Nat} {t : Tn} (h : askE c s id key = 0) (hk : s.opn[k]? = some t) (hf : findO s.opn id = some t) : getA c s id key = ((seesT s t key).1, (seesT s t key).2, 0) ∧ getS c s id key = ⟨s.done, s.opn.set k (heldT t (key % c.pages)), s.used⟩ := by
  unfold getA getS
  rw [if_pos h, if_pos h, hf]
  refine ⟨rfl, ?_⟩
  dsimp only [txO, Option.getD_some, pageC]
  rw [setO_at ok.dif hk (heldT_id _ _).1.symm]
theorem sees_set {s : St} {t : Tn} {l : List Tn} {u : Int} {key : Int} : seesT ⟨s.done, l, u⟩ t key = seesT s t key := rfl
theorem ask_page {c : Cf} {s : St} (ok : OkS c s) {id key : Int} (h : askE c s id key = 0) : (0 ≤ key ∧ key < c.keys) ∧ (0 ≤ key % c.pages ∧ key % c.pages < c.pages) := by
  have hk : 0 ≤ key ∧ key < c.keys := by
    unfold askE at h
    split at h
    · exact absurd h (by decide)
    · split at h
      · exact absurd h (by decide)
      · rename_i q; omega
  have := ok.may.1
  exact ⟨hk, Int.emod_nonneg _ (by omega), Int.emod_lt_of_pos _ (by omega)⟩
theorem stepV_u64 {key : Int} {p : Int × Bool} {x : Chg} (hp : u64 p.1) (hx : u64 x.val) : u64 (stepV key p x).1 := by unfold stepV; split; exact hx; exact hp
theorem foldV_u64 {key : Int} : ∀ {l : List Chg} {p : Int × Bool}, u64 p.1 → (∀ x ∈ l, u64 x.val) → u64 (l.foldl (stepV key) p).1
  | [], p, hp, _ => hp
  | x :: l, p, hp, h => foldV_u64 (l := l) (stepV_u64 hp (h x (by simp))) (fun y hy => h y (by simp [hy]))
theorem valueL_u64 {l : List Chg} {key : Int} {p : Int × Bool} (hp : u64 p.1) (h : ∀ x ∈ l, u64 x.val) : u64 (valueL l key p).1 := by
  unfold valueL shutV
  dsimp only
  split
  · exact foldV_u64 hp h
  · exact ⟨Int.le_refl _, by omega⟩
theorem seesD_u64 {key : Int} : ∀ {ls : List (List Chg)} {p : Int × Bool}, u64 p.1 → (∀ l ∈ ls, ∀ x ∈ l, u64 x.val) → u64 (ls.foldl (fun p l => valueL l key p) p).1
  | [], p, hp, _ => hp
  | l :: ls, p, hp, h => seesD_u64 (ls := ls) (valueL_u64 hp (h l (by simp))) (fun y hy => h y (by simp [hy]))
theorem sees_u64 {c : Cf} {s : St} (ok : OkS c s) {t : Tn} (ht : t ∈ s.opn) (key : Int) : u64 (seesT s t key).1 := by
  unfold seesT
  refine valueL_u64 ?_ (fun x hx => ((ok.tns t ht).chs x hx).2)
  unfold seesD
  exact seesD_u64 ⟨Int.le_refl _, by omega⟩ (fun l hl x hx => (ok.keyD l hl x hx).2)
theorem slot_len (key v : Int) (th : Bool) : (slotL key v th).length = 16 := by unfold slotL; split <;> simp [digits_length, zeros]
theorem lenC_low (s : St) (t : Tn) (x : Chg) : 0 ≤ lenC s t x := lengthL_low _ _ (slot_len _ _ _) (slot_len _ _ _)
section
variable {c : Cf} {s : St} {t : Tn} {x : Chg} {page n : Int} {k : Nat}
theorem chg_zero (ok : OkS c s) (hk : s.opn[k]? = some t) (hn : n = lenC s t x) (h : ¬ 0 < n) : chgE c s t x = 0 ∧ chgS c s t page x = ⟨s.done, s.opn.set k (heldT t page), s.used⟩ := by
  subst hn
  unfold chgE chgS
  dsimp only
  rw [if_neg (fun q => h q.1), if_neg h, setO_at ok.dif hk (heldT_id _ _).1.symm]
  exact ⟨rfl, rfl⟩
theorem chg_fit (ok : OkS c s) (hk : s.opn[k]? = some t) (hn : n = lenC s t x) (h : 0 < n) (hf : fitsS c s (38 + 2 * n) (46 + n) = true) : chgE c s t x = 0 ∧ chgS c s t page x = ⟨s.done, s.opn.set k (heldT ⟨t.id, t.pages, t.chs ++ [x], t.lens ++ [n]⟩ page), s.used + 38 + 2 * n⟩ := by
  subst hn
  unfold chgE chgS
  dsimp only
  rw [if_neg (fun q => by rw [hf] at q; exact absurd q.2 (by decide)), if_pos h, if_pos hf, setO_at (t := heldT ⟨t.id, t.pages, t.chs ++ [x], t.lens ++ [lenC s t x]⟩ page) ok.dif hk (heldT_id ⟨t.id, t.pages, t.chs ++ [x], t.lens ++ [lenC s t x]⟩ page).1.symm]
  exact ⟨rfl, rfl⟩
theorem chg_not (ok : OkS c s) (hk : s.opn[k]? = some t) (hn : n = lenC s t x) (h : 0 < n) (hf : fitsS c s (38 + 2 * n) (46 + n) = false) : chgE c s t x = 170 ∧ chgS c s t page x = ⟨s.done, s.opn.eraseIdx k, s.used + 66 + sumL t.lens⟩ := by
  subst hn
  unfold chgE chgS
  dsimp only
  rw [if_pos ⟨h, hf⟩, if_pos h, if_neg (by rw [hf]; decide)]
  unfold undoS
  rw [dropO_at ok.dif hk]
  exact ⟨rfl, rfl⟩
end
/-- as many changes as there may be -/
def fewC (S : St) : Prop := ∀ t ∈ S.opn, (allC S t).length ≤ 4000000000000
theorem allC_ok {c : Cf} {s : St} (ok : OkS c s) {t : Tn} (ht : t ∈ s.opn) : ∀ x ∈ allC s t, 0 ≤ x.key ∧ x.key < 4294967296 := fun x hx => by
  have hm := ok.may.2.2.2.2.2
  unfold allC at hx
  rcases List.mem_append.1 hx with hx | hx
  · obtain ⟨l, hl, hx⟩ := List.mem_flatten.1 hx
    have := (ok.keyD l hl x hx).1; omega
  · have := ((ok.tns t ht).chs x hx).1; omega
section
variable {c : Cf} {s : St} {t : Tn} {id key v : Int}
theorem tx_of (h : findO s.opn id = some t) : txO (findO s.opn id) = t := by rw [h]; rfl
theorem put_no (h : askE c s id key ≠ 0) : putE c s id key v = askE c s id key ∧ putS c s id key v = s ∧ delE c s id key = askE c s id key ∧ delB c s id key = false ∧ delS c s id key = s := by
  unfold putE putS delB delE delS
  rw [if_neg h, if_neg h, if_neg h, if_neg h, decide_eq_false h]
  exact ⟨rfl, rfl, rfl, rfl, rfl⟩
theorem put_full (h : askE c s id key = 0) (hf : findO s.opn id = some t) (hb : full c s t key = true) : putE c s id key v = 42 ∧ putS c s id key v = s := by
  unfold putE putS
  rw [if_pos h, if_pos h, tx_of hf]
  rw [if_pos hb, if_pos hb]
  exact ⟨rfl, rfl⟩
theorem put_chg (h : askE c s id key = 0) (hf : findO s.opn id = some t) (hb : full c s t key = false) : putE c s id key v = chgE c s t ⟨key, v, false⟩ ∧ putS c s id key v = chgS c s t (key % c.pages) ⟨key, v, false⟩ := by
  unfold putE putS
  rw [if_pos h, if_pos h, tx_of hf]
  unfold pageC
  rw [if_neg (by rw [hb]; decide), if_neg (by rw [hb]; decide)]
  exact ⟨rfl, rfl⟩
theorem del_none (ok : OkS c s) {k : Nat} (hk : s.opn[k]? = some t) (h : askE c s id key = 0) (hf : findO s.opn id = some t) (hb : (seesT s t key).2 = false) : delE c s id key = 0 ∧ delB c s id key = false ∧ delS c s id key = ⟨s.done, s.opn.set k (heldT t (key % c.pages)), s.used⟩ := by
  unfold delB delE delS
  rw [if_pos h, if_pos h, tx_of hf]
  unfold pageC
  rw [if_neg (by rw [hb]; decide), if_neg (by rw [hb]; decide), hb, setO_at ok.dif hk (heldT_id _ _).1.symm]
  refine ⟨rfl, by simp, rfl⟩
theorem del_chg (h : askE c s id key = 0) (hf : findO s.opn id = some t) (hb : (seesT s t key).2 = true) : delE c s id key = chgE c s t ⟨key, 0, true⟩ ∧ delB c s id key = decide (chgE c s t ⟨key, 0, true⟩ = 0) ∧ delS c s id key = chgS c s t (key % c.pages) ⟨key, 0, true⟩ := by
  unfold delB delE delS
  rw [if_pos h, if_pos h, tx_of hf]
  unfold pageC
  rw [if_pos hb, if_pos hb, hb, decide_eq_true h]
  refine ⟨rfl, by simp, rfl⟩
theorem full_there (h : (seesT s t key).2 = true) : full c s t key = false := by unfold full; rw [h]; rfl
theorem full_not (h : (seesT s t key).2 = false) : full c s t key = decide (c.slots ≤ countS c s t (key % c.pages)) := by unfold full pageC; rw [h]; rfl
end
end Go.Proofs.YtnjfahgmebmakaaGreatDoor

