import Derived.WalkKit
import Derived.WalkSpells
import Derived.WalkLawsBesides
import Derived.Laws.CopyOwn
import Derived.Laws.AppendOwnNone
import Derived.Laws.BytesArg
import Derived.Deep.AppendLies
import Derived.Test.YtpbcfkfhkenhpaaRows
import Derived.ProofKit
import Derived.OpenShut
import Derived.JoinedCond
import Derived.SizedLaws
import Derived.Deep.Matrix
import Derived.Laws.Bits64
import Derived.Deep.Upon
import Derived.Deep.RegionHeld3
import Derived.Deep.QuietTactic
import Derived.BigQuiet
import Derived.Handy
import Derived.Deep.DeepCutAuto
import Derived.Laws.StructEq
import Derived.ChangeKeysEq
import Derived.Deep.Slices
/-
  OWN WORK. Words for byte slices in memory, whatever the program: 'Bs w v l' (the value v is a slice of the bytes l in w), 'Kept S w w'' (what was there is as it was, but for the blocks of S).
-/
namespace Go.Proofs.Ytpbcfkfhkenhpaa
open Go.RowKit
set_option linter.unusedVariables false

/-- the cells that hold these bytes -/
def u8s (l : List UInt8) : List Value := l.map fun x => Value.int .u8 (x.toNat : Int)
theorem u8s_length (l : List UInt8) : (u8s l).length = l.length := by simp [u8s]
theorem u8s_append (a b : List UInt8) : u8s (a ++ b) = u8s a ++ u8s b := by simp [u8s]
theorem u8s_one (l : List UInt8) (u : Value) : u ∈ u8s l → u.oneCell' = true := by
  intro h
  obtain ⟨x, _, rfl⟩ := List.mem_map.1 h
  rfl
theorem u8s_at {l : List UInt8} {j : Nat} {u : Value} (h : (u8s l)[j]? = some u) : ∃ x, l[j]? = some x ∧ u = .int .u8 (x.toNat : Int) := by
  simp only [u8s, List.getElem?_map, Option.map_eq_some_iff] at h
  obtain ⟨x, hx, rfl⟩ := h
  exact ⟨x, hx, rfl⟩

structure Kept (S : List Nat) (w w' : World) : Prop where
  os : w'.os = w.os
  tape : w'.tape = w.tape
  output : w'.output = w.output
  size : w.heap.size ≤ w'.heap.size
  block : ∀ k, k < w.heap.size → k ∉ S → w'.heap[k]? = w.heap[k]?

theorem Kept.refl (S : List Nat) (w : World) : Kept S w w := ⟨rfl, rfl, rfl, Nat.le_refl _, fun _ _ _ => rfl⟩
theorem Kept.trans {S T : List Nat} {a b c : World} (h : Kept S a b) (k : Kept T b c) (hT : ∀ x ∈ T, x ∈ S ∨ a.heap.size ≤ x) : Kept S a c :=
  ⟨k.os.trans h.os, k.tape.trans h.tape, k.output.trans h.output, Nat.le_trans h.size k.size, fun x hx hn =>
    (k.block x (Nat.lt_of_lt_of_le hx h.size) (fun hm => by rcases hT x hm with h' | h'; exact hn h'; omega)).trans (h.block x hx hn)⟩
theorem Kept.then {S : List Nat} {a b c : World} (h : Kept S a b) (k : Kept [] b c) : Kept S a c := h.trans k (by simp)
theorem Kept.mono {S T : List Nat} {a b : World} (h : Kept S a b) (hT : ∀ x ∈ S, x ∈ T) : Kept T a b :=
  ⟨h.os, h.tape, h.output, h.size, fun x hx hn => h.block x hx fun hm => hn (hT x hm)⟩
theorem Kept.alloc {S : List Nat} {a w : World} (h : Kept S a w) (o : Obj) : Kept S a (w.alloc o) :=
  h.trans (T := []) ⟨rfl, rfl, rfl, by simp, fun x hx _ => Below.heap_alloc w o x hx⟩ (by simp)
theorem Kept.drew {S : List Nat} {a w : World} (h : Kept S a w) : Kept S a w.drew := ⟨h.os, h.tape, h.output, h.size, h.block⟩
theorem Kept.below {w w' : World} (h : Kept [] w w') : Below w.heap.size w w' := ⟨h.os, h.tape, h.output, h.size, fun x hx => h.block x hx (by simp)⟩
theorem Kept.ofBelow {w w' : World} (h : Below w.heap.size w w') : Kept [] w w' := ⟨h.os, h.tape, h.output, h.size, fun x hx _ => h.block x hx⟩
theorem Kept.ofGrown {w w' : World} {r : Option Nat} {S : List Nat} (h : w.grownBy w' r) (hr : ∀ k, r = some k → k < w.heap.size → k ∈ S) : Kept S w w' :=
  ⟨h.os, h.tape, h.output, h.size, fun x hx hn => h.block x hx fun e => hn (hr x e.symm hx)⟩
/-- a row of the call's own grew -/
theorem Kept.grown {S : List Nat} {a w w' : World} {r : Option Nat} (h : Kept S a w) (hg : w.grownBy w' r) (hr : ∀ k, r = some k → k ∈ S ∨ a.heap.size ≤ k) : Kept S a w' :=
  h.trans (T := r.toList) (Kept.ofGrown hg (by intro k e _; subst e; simp)) (by intro x hx; exact hr x (by simpa using hx))
theorem Kept.setCell {S : List Nat} {a w : World} (h : Kept S a w) {p : Addr} (hp : p.block ∈ S ∨ a.heap.size ≤ p.block) (u : Value) : Kept S a (w.setCell p u) :=
  h.trans (T := [p.block]) ⟨rfl, rfl, rfl, by simp, fun x hx hn => Below.heap_setCell w p u x (by simpa using hn)⟩ (by intro x hx; simp at hx; subst hx; exact hp)

theorem lt_of_cell {w : World} {a : Addr} {v : Value} (h : w.cell? a = some v) : a.block < w.heap.size := by
  rcases Nat.lt_or_ge a.block w.heap.size with hl | hl
  · exact hl
  · simp [World.cell?, Array.getElem?_eq_none hl] at h
theorem spot_of_cell {w : World} {a : Addr} {v : Value} (h : w.cell? a = some v) : a.spot = none := by
  unfold World.cell? at h
  split at h
  · split at h
    · cases h
    · rename_i hs; simpa using hs
  · cases h
theorem Kept.cell {S : List Nat} {w w' : World} (h : Kept S w w') {a : Addr} {v : Value} (hc : w.cell? a = some v) (hn : a.block ∉ S) : w'.cell? a = some v := by
  rw [World.cell?_of_block (h.block a.block (lt_of_cell hc) hn)]; exact hc
theorem add_block (a : Addr) (i : Nat) : (a.add i).block = a.block := by unfold Addr.add; split <;> rfl
theorem add_none {a : Addr} (h : a.spot = none) (i : Nat) : a.add i = ⟨a.block, a.off + i, none⟩ := by
  obtain ⟨b, o, s⟩ := a
  simp only at h; subst h
  unfold Addr.add; split <;> simp_all

theorem add_add (a : Addr) (k i : Nat) : (a.add k).add i = a.add (k + i) := by
  obtain ⟨b, o, s⟩ := a
  by_cases hk : k = 0
  · subst hk; simp [Addr.add]
  · by_cases hi : i = 0
    · subst hi; simp [Addr.add]
    · simp [Addr.add, hk, hi, Nat.add_assoc]

/-- THE VALUE v IS A SLICE OF THE BYTES l IN w. -/
def Bs (w : World) (v : Value) (l : List UInt8) : Prop :=
  ∃ (p : Option Addr) (c : Nat), v = .slice p l.length c ∧ l.length ≤ c ∧ c ≤ maxLen ∧ (p = none → c = 0) ∧
    ∀ a, p = some a → ∀ (i : Nat) x, l[i]? = some x → w.cell? (a.add i) = some (.int .u8 (x.toNat : Int))

/-- of one byte or more: where it lies -/
theorem Bs.pos {w : World} {v : Value} {l : List UInt8} (h : Bs w v l) (hl : 0 < l.length) :
    ∃ b o c, v = .slice (some ⟨b, o, none⟩) l.length c ∧ l.length ≤ c ∧ c ≤ maxLen ∧ b < w.heap.size ∧ ∀ (i : Nat) x, l[i]? = some x → w.cell? ⟨b, o + i, none⟩ = some (.int .u8 (x.toNat : Int)) := by
  obtain ⟨p, c, rfl, h1, h2, h3, h4⟩ := h
  cases p with
  | none => have := h3 rfl; omega
  | some a =>
    have hc := h4 a rfl 0 l[0] (List.getElem?_eq_getElem hl)
    have hs := spot_of_cell hc
    have hs' : a.spot = none := by
      unfold Addr.add at hs
      split at hs <;> simp_all
    have hb := lt_of_cell hc
    rw [add_block] at hb
    refine ⟨a.block, a.off, c, by obtain ⟨b, o, s⟩ := a; simp_all, h1, h2, hb, fun i x hx => ?_⟩
    rw [← add_none hs' i]
    exact h4 a rfl i x hx

theorem Bs.nil (w : World) : Bs w (.slice none 0 0) [] := ⟨none, 0, rfl, Nat.le_refl _, by simp [maxLen], fun _ => rfl, fun a h => (by cases h)⟩
theorem Bs.mk {w : World} {b o c : Nat} {l : List UInt8} (h1 : l.length ≤ c) (h2 : c ≤ maxLen) (h : ∀ (i : Nat) x, l[i]? = some x → w.cell? ⟨b, o + i, none⟩ = some (.int .u8 (x.toNat : Int))) : Bs w (.slice (some ⟨b, o, none⟩) l.length c) l :=
  ⟨_, c, rfl, h1, h2, fun e => (by cases e), fun a e i x hx => (by cases e; rw [add_none rfl]; exact h i x hx)⟩
/-- carried to a world in which its cells are as they were -/
theorem Bs.carry {w w' : World} {v : Value} {l : List UInt8} (h : Bs w v l) (hc : ∀ (a : Addr) (x : UInt8), w.cell? a = some (.int .u8 (x.toNat : Int)) → v.ownBlock = some a.block → w'.cell? a = some (.int .u8 (x.toNat : Int))) : Bs w' v l := by
  obtain ⟨p, c, rfl, h1, h2, h3, h4⟩ := h
  exact ⟨p, c, rfl, h1, h2, h3, fun a e i x hx => hc _ x (h4 a e i x hx) (by subst e; simp [Value.ownBlock, add_block])⟩
theorem Bs.kept {w w' : World} {v : Value} {l : List UInt8} (h : Bs w v l) (k : Kept [] w w') : Bs w' v l := h.carry fun a x hx _ => k.cell hx (by simp)
/-- block k holds one slice and nothing else: a box that no byte lies in -/
def Box (w : World) (k : Nat) : Prop := ∃ p n c t m, w.heap[k]? = some (.cells #[.slice p n c] t m)
theorem Bs.keptBox {w w' : World} {v : Value} {l : List UInt8} {S : List Nat} (h : Bs w v l) (k : Kept S w w') (hS : ∀ x ∈ S, Box w x ∨ w.heap.size ≤ x) : Bs w' v l := h.carry fun a x hx _ => k.cell hx fun hm => by
  rcases hS _ hm with ⟨p, n, c, t, m, hb⟩ | hb
  · simp only [World.cell?, hb] at hx
    split at hx
    · cases hx
    · rcases ha : a.off with _ | j
      · simp [ha] at hx
      · simp [ha] at hx
  · have := lt_of_cell hx; omega
/-- behind 'kept but for v's own elder rows': its own block is not among those let go -/
theorem Bs.keptOwn {w w' : World} {v : Value} {l : List UInt8} {S : List Nat} (h : Bs w v l) (k : Kept S w w') (hS : ∀ x, v.ownBlock = some x → x ∉ S) : Bs w' v l := h.carry fun a x hx ho => k.cell hx (hS _ ho)

/-- an owned row of bytes is a slice of them -/
theorem Bs.ofOwn {w : World} {base e : Nat} {v : Value} {n : Nat} {l : List UInt8} (h : w.ownsRow base e 1 v n (u8s l)) : Bs w v l := by
  have hn : n = l.length := by have := h.1; rw [u8s_length] at this; omega
  subst hn
  rcases h.2 with ⟨rfl, h0⟩ | ⟨g, cap, cur, rfl, _, hg, h1, h2, h3, h4⟩
  · have : l = [] := List.eq_nil_of_length_eq_zero h0
    subst this
    exact Bs.nil w
  · refine Bs.mk h1 h2 fun i x hx => ?_
    have hc := h.cells (g := g) rfl i (.int .u8 (x.toNat : Int)) (by simp [u8s, hx])
    rw [add_none rfl] at hc
    exact hc
theorem own_ge {w : World} {base e size : Nat} {v : Value} {n : Nat} {xs : List Value} (h : w.ownsRow base e size v n xs) (k : Nat) (hk : v.ownBlock = some k) : base ≤ k := (h.lt k hk).1

/-- 'string(b)' -/
theorem Bs.convert {P : Program} {w : World} {v : Value} {l : List UInt8} (h : Bs w v l) {src dst e : TypeId} (hs : P.underlying src = some (.slice e)) (he : P.underlying e = some (.int .u8)) (hd : P.underlying dst = some .string) :
    (convert src dst v).run P w = .ok (.string ⟨l.toArray⟩) w := by
  obtain ⟨p, c, rfl, h1, h2, h3, h4⟩ := h
  cases p with
  | none =>
    have hc := h3 rfl
    have : l = [] := List.eq_nil_of_length_eq_zero (by omega)
    subst this
    rw [run_convert_bytes_nil w src e hs he _ _ dst hd]
    rfl
  | some a =>
    have hl : (loadCells a l.length).run P w = .ok ((l.map fun x => (x.toNat : Int)).map (Value.int .u8)).toArray w := by
      have := run_loadCells_list (P := P) w a ((l.map fun x => (x.toNat : Int)).map (Value.int .u8)) (fun j v hj => by
        simp only [List.getElem?_map, Option.map_eq_some_iff] at hj
        obtain ⟨_, ⟨x, hx, rfl⟩, rfl⟩ := hj
        exact h4 a rfl j x hx)
      simpa using this
    rw [run_convert_bytes_string w src dst e _ _ c hs he hd, run_bytesToString w _ _ c _ hl, foldl_push_bytes]
    simp [ByteArray.empty, ByteArray.emptyWithCapacity, List.map_map]
    congr 1
    rw [show (List.map ((fun n => UInt8.ofNat n.toNat) ∘ fun x : UInt8 => (x.toNat : Int)) l) = l from by
      conv => rhs; rw [← List.map_id l]
      exact List.map_congr_left (fun x _ => by simp)]
    rfl

/-- 'b[:k]' and 'b[k:]' -/
theorem Bs.cut {P : Program} {w : World} {p : Option Addr} {c : Nat} {l : List UInt8} (h : Bs w (.slice p l.length c) l) {k : Nat} (hk : k ≤ l.length) :
    Bs w (.slice p k c) (l.take k) ∧ Bs w (.slice (if c = k then p else p.map (·.add k)) (l.length - k) (c - k)) (l.drop k) := by
  obtain ⟨p', c', e, h1, h2, h3, h4⟩ := h
  cases e
  refine ⟨⟨p, c, by simp [Nat.min_eq_left hk], by simp; omega, h2, h3, fun a e i x hx => h4 a e i x ?_⟩, ⟨(if c = k then p else p.map (·.add k)), c - k, by rw [List.length_drop], by simp; omega, by omega, ?_, ?_⟩⟩
  · rw [List.getElem?_take] at hx; split at hx
    · exact hx
    · cases hx
  · intro e
    by_cases hc : c = k
    · omega
    · rw [if_neg hc] at e
      have := h3 (by simpa using e)
      omega
  · intro a e i x hx
    have hi : i < l.length - k := by simpa using (List.getElem?_eq_some_iff.1 hx).1
    by_cases hc : c = k
    · omega
    · rw [if_neg hc] at e
      obtain ⟨a', rfl, rfl⟩ := Option.map_eq_some_iff.1 e
      rw [List.getElem?_drop] at hx
      have := h4 a' rfl (k + i) x hx
      have e2 : (a'.add k).add i = a'.add (k + i) := add_add a' k i
      rw [e2]; exact this

/-- an index into a constant text, where its run is known -/
theorem wpList_index_str {P : Program} {w : World} {ops : Array Oper} {rest : List Oper} {o : Oper} {a : Act} {Q : Exit → Act → World → Prop} (hgd : o.guard = none) (t : TypeId) (S : ByteArray) (x : Operand)
    (ho : o.op = .index t (.const (.string S)) x) (k : IntKind) (i : Int) (n : Int) (hx : a.eval x = .int k i) (hr : ∀ w, (Instr.index t (.string S) (.int k i)).run P w = .ok (.int .u8 n) w)
    (h : wpList P ops Q rest (a.put o.dst (.int .u8 n)) w) : wpList P ops Q (o :: rest) a w := by
  refine wpList_plain hgd fun K hK => ?_
  unfold Oper.wp
  have e : a.eval (.const (.string S)) = .string S := rfl
  simp [execOp, ho, hx, hr, e, Result.andThen]
  exact hK _ _ h
end Go.Proofs.Ytpbcfkfhkenhpaa

/-
  OWN WORK. append, copy, make and the cuts of byte slices as laws for the walk, whatever the program.
-/
namespace Go.Proofs.Ytpbcfkfhkenhpaa
open Go.RowKit
set_option linter.unusedVariables false

/-- 'append(out, b...)': out the call's own row of bytes, b any slice of bytes (nil too). -/
theorem wpList_append_bs {P : Program} {w : World} {ops : Array Oper} {rest : List Oper} {o : Oper} {a : Act} {Q : Exit → Act → World → Prop} (hgd : o.guard = none) (s x : Operand) (t : TypeId)
    (ho : o.op = .call { callee := .builtin .append, args := #[s, x], argTypes := #[t, t] }) (base : Nat) (e : TypeId) (hu : P.underlying t = some (.slice e))
    (hinf : (P.info? e).map (fun i => (i.zero, i.size, i.bytes)) = some (some (.int .u8 0), 1, 1))
    (v : Value) (n : Nat) (xs : List Value) (hs : a.eval s = v) (hown : w.ownsRow base e 1 v n xs) (sv : Value) (l : List UInt8) (hx : a.eval x = sv) (hb : Bs w sv l)
    (hroom : n + l.length ≤ 140737488355328) (hbase : base ≤ w.heap.size)
    (h : ∀ v' w', w'.ownsRow base e 1 v' (n + l.length) (xs ++ u8s l) → w.grownBy w' v.ownBlock → (v'.ownBlock = v.ownBlock ∨ v'.ownBlock = some w.heap.size) → wpList P ops Q rest (a.put o.dst v') w') :
    wpList P ops Q (o :: rest) a w := by
  obtain ⟨i, hi, hz, hsz, hby⟩ := info_parts hinf
  obtain ⟨p, c, rfl, h1, h2, h3, h4⟩ := hb
  cases p with
  | none =>
    have hc := h3 rfl
    subst hc
    obtain rfl : l = [] := List.eq_nil_of_length_eq_zero (by omega)
    refine wpList_append_own_none hgd s x t ho base e i 1 hu hi v n xs hs hown hx ?_
    exact h v w (by simpa [u8s] using hown) (World.grownBy.refl _ _) (.inl rfl)
  | some ad =>
    refine wpList_plain hgd fun K hK => ?_
    obtain ⟨v', w', hr, k1, k2, _, k4⟩ := run_append_own_at (P := P) w base t o.type e i (.int .u8 0) 1 1 hu hi hz hsz hby rfl (by decide) v n xs hown ad l.length c (u8s l) (by simp [u8s])
      (fun j u hj => by obtain ⟨y, hy, rfl⟩ := u8s_at hj; exact h4 ad rfl j y hy) (u8s_one l) (by unfold maxLen; omega) (by omega) hbase
    unfold Oper.wp execOp
    simp only [ho, resolve, invoke, builtin, Sem.run_bind, Sem.run_pure, Result.andThen_ok, List.map_toArray, List.map_cons, List.map_nil, hs, hx, hr]
    exact hK _ _ (h v' w' k1 k2 k4)

/-- the same at a step of a region that draws its order -/
theorem step_append_bs {P : Program} {w : World} {ops : Array Oper} {o : Oper} {a : Act} {K : Act → World → Prop} {Q : Exit → Act → World → Prop} {E : Prop} (hgd : o.guard = none) (s x : Operand) (t : TypeId)
    (ho : o.op = .call { callee := .builtin .append, args := #[s, x], argTypes := #[t, t] }) (base : Nat) (e : TypeId) (hu : P.underlying t = some (.slice e))
    (hinf : (P.info? e).map (fun i => (i.zero, i.size, i.bytes)) = some (some (.int .u8 0), 1, 1))
    (v : Value) (n : Nat) (xs : List Value) (hs : a.eval s = v) (hown : w.ownsRow base e 1 v n xs) (sv : Value) (l : List UInt8) (hx : a.eval x = sv) (hb : Bs w sv l)
    (hroom : n + l.length ≤ 140737488355328) (hbase : base ≤ w.heap.size)
    (h : ∀ v' w', w'.ownsRow base e 1 v' (n + l.length) (xs ++ u8s l) → w.grownBy w' v.ownBlock → (v'.ownBlock = v.ownBlock ∨ v'.ownBlock = some w.heap.size) → K (a.put o.dst v') w') :
    if Region.wanted o (yielded ops a.tmps) = true then Oper.wp P o a w K Q else E := by
  have hw : Region.wanted o (yielded ops a.tmps) = true := by simp [Region.wanted, hgd]
  rw [if_pos hw]
  obtain ⟨i, hi, hz, hsz, hby⟩ := info_parts hinf
  obtain ⟨p, c, rfl, h1, h2, h3, h4⟩ := hb
  cases p with
  | none =>
    have hc := h3 rfl
    subst hc
    obtain rfl : l = [] := List.eq_nil_of_length_eq_zero (by omega)
    have hrun := run_append_owned_none (P := P) (w := w) base t o.type e i 1 hu hi v n xs hown
    have hx' : a.eval x = .slice none 0 0 := hx
    unfold Oper.wp execOp
    simp only [ho, resolve, invoke, builtin, Sem.run_bind, Sem.run_pure, Result.andThen_ok, List.map_toArray, List.map_cons, List.map_nil, hs, hx', hrun]
    exact h v w (by simpa [u8s] using hown) (World.grownBy.refl _ _) (.inl rfl)
  | some ad =>
    obtain ⟨v', w', hr, k1, k2, _, k4⟩ := run_append_own_at (P := P) w base t o.type e i (.int .u8 0) 1 1 hu hi hz hsz hby rfl (by decide) v n xs hown ad l.length c (u8s l) (by simp [u8s])
      (fun j u hj => by obtain ⟨y, hy, rfl⟩ := u8s_at hj; exact h4 ad rfl j y hy) (u8s_one l) (by unfold maxLen; omega) (by omega) hbase
    unfold Oper.wp execOp
    simp only [ho, resolve, invoke, builtin, Sem.run_bind, Sem.run_pure, Result.andThen_ok, List.map_toArray, List.map_cons, List.map_nil, hs, hx, hr]
    exact h v' w' k1 k2 k4
/-- 'copy(out, b)': out the call's own row, as long as b. -/
theorem wpList_copy_bs {P : Program} {w : World} {ops : Array Oper} {rest : List Oper} {o : Oper} {a : Act} {Q : Exit → Act → World → Prop} (hgd : o.guard = none) (d s : Operand) (t : TypeId)
    (ho : o.op = .call { callee := .builtin .copy, args := #[d, s], argTypes := #[t, t] }) (base : Nat) (e : TypeId) (hu : P.underlying t = some (.slice e))
    (hsz : (P.info? e).map (·.size) = some 1)
    (v : Value) (n : Nat) (xs : List Value) (hd : a.eval d = v) (hown : w.ownsRow base e 1 v n xs) (sv : Value) (l : List UInt8) (hx : a.eval s = sv) (hb : Bs w sv l) (hn : l.length = n)
    (h : ∀ w', w'.ownsRow base e 1 v n (u8s l) → w.grownBy w' v.ownBlock → wpList P ops Q rest (a.put o.dst (goInt n)) w') : wpList P ops Q (o :: rest) a w := by
  subst hn
  obtain ⟨p, c, rfl, h1, h2, h3, h4⟩ := hb
  by_cases h0 : l.length = 0
  · obtain rfl : l = [] := List.eq_nil_of_length_eq_zero h0
    have hxs : xs = [] := List.eq_nil_of_length_eq_zero (by simpa using hown.1)
    subst hxs
    obtain ⟨dp, dc, rfl⟩ : ∃ dp dc, v = .slice dp 0 dc := by
      rcases hown.2 with ⟨rfl, _⟩ | ⟨g, cap, cur, rfl, _⟩
      · exact ⟨_, _, rfl⟩
      · exact ⟨_, _, rfl⟩
    refine wpList_copy_nothing hgd d s t t ho e hu hsz dp p 0 dc 0 c hd hx rfl ?_
    exact h w hown (World.grownBy.refl _ _)
  · cases p with
    | none => have := h3 rfl; omega
    | some ad =>
      rcases hown.2 with ⟨rfl, hz⟩ | ⟨g, cap, cur, rfl, hbg, hg, hnc, hcm, hcs, htk⟩
      · omega
      · refine wpList_copy_own hgd d s t t ho e hu hsz g 0 l.length cap ad l.length c hd hx cur e hg (u8s l) (by simp [u8s]) (fun j u hj => by obtain ⟨y, hy, rfl⟩ := u8s_at hj; exact h4 ad rfl j y hy) (by rw [u8s_length]; omega) (u8s_one l) ?_
        rw [u8s_length]
        have hgl : g < w.heap.size := (Array.getElem?_eq_some_iff.1 hg).1
        refine h _ ⟨by simp [u8s], .inr ⟨g, cap, _, rfl, hbg, setRow_heap w g cur _ e (0, 0) hg, hnc, hcm, ?_, ?_⟩⟩ ⟨rfl, rfl, rfl, by simp [World.setRow], fun k hk hne => setRow_other w g k _ (by intro e2; subst e2; exact hne rfl)⟩
        · simp [u8s_length]; omega
        · simp
          rw [List.take_append_of_le_length (by rw [u8s_length]; omega)]
          exact List.take_of_length_le (by rw [u8s_length]; omega)

/-- 'make([]byte, n, c)' -/
theorem run_make_bs {P : Program} (w : World) (t e : TypeId) (hu : P.underlying t = some (.slice e)) (hinf : (P.info? e).map (fun i => (i.zero, i.size, i.bytes)) = some (some (.int .u8 0), 1, 1))
    (n c : Nat) (hnc : n ≤ c) (hc : c ≤ 281474976710656) :
    (Instr.makeSlice t (.int .i64 (n : Int)) (.int .i64 (c : Int))).run P w = .ok (.slice (some ⟨w.heap.size, 0, none⟩) n c) (w.alloc (.cells (madeCells #[.int .u8 0] c) e)) := by
  obtain ⟨i, hi, hz, hsz, hby⟩ := info_parts hinf
  have h := run_make (P := P) w t e i (.int .u8 0) hu hi hz .i64 .i64 (n : Int) (c : Int) (by omega) (by omega) (by rw [hby]; omega) (by omega)
  rw [h, hsz]
  simp [Value.cells]
theorem own_made (w : World) (e base n c : Nat) (hb : base ≤ w.heap.size) (hnc : n ≤ c) (hc : c ≤ maxLen) :
    (w.alloc (.cells (madeCells #[.int .u8 0] c) e)).ownsRow base e 1 (.slice (some ⟨w.heap.size, 0, none⟩) n c) n (u8s (List.replicate n 0)) := by
  refine ⟨by simp [u8s], .inr ⟨w.heap.size, c, _, rfl, hb, heap_alloc_new w _, hnc, hc, by simp [size_madeCells], ?_⟩⟩
  rw [toList_madeCells_one]
  simp [u8s, Nat.min_eq_left hnc]
/-- one byte in a block of its own, as 'append(out, x)' lays it -/
theorem Bs.one (w : World) (e : TypeId) (n : Int) (y : UInt8) (hn : n = (y.toNat : Int)) : Bs (w.alloc (.cells #[.int .u8 n] e)) (.slice (some ⟨w.heap.size, 0, none⟩) 1 1) [y] := by
  subst hn
  exact Bs.mk (l := [y]) (by simp) (by simp [maxLen]) fun i x hx => by
    rcases i with _ | i
    · simp at hx; subst hx
      have := World.news_of_block (heap_alloc_new w (.cells #[.int .u8 (y.toNat : Int)] e)) 0 (.int .u8 (y.toNat : Int)) (by simp)
      rwa [add_none rfl] at this
    · simp at hx
/-- a literal's bytes in a block of their own -/
theorem Bs.lit (w : World) (e : TypeId) (l : List UInt8) (cs : Array Value) (hcs : cs = (u8s l).toArray) (hl : l.length ≤ maxLen) : Bs (w.alloc (.cells cs e)) (.slice (some ⟨w.heap.size, 0, none⟩) l.length l.length) l := by
  subst hcs
  exact Bs.mk (Nat.le_refl _) hl fun i x hx => by
    have := World.news_of_block (heap_alloc_new w (.cells (u8s l).toArray e)) i (.int .u8 (x.toNat : Int)) (by simp [u8s, hx])
    rwa [add_none rfl] at this
theorem Bs.litAt (w : World) (e : TypeId) (l : List UInt8) (cs : Array Value) (hcs : cs = (u8s l).toArray) (hl : l.length ≤ maxLen) (H : Nat) (hH : w.heap.size = H) : Bs (w.alloc (.cells cs e)) (.slice (some ⟨H, 0, none⟩) l.length l.length) l := by
  subst hH
  exact Bs.lit w e l cs hcs hl
theorem own_of_lit (w : World) (e base : Nat) (l : List UInt8) (hb : base ≤ w.heap.size) (hl : l.length ≤ maxLen) : (w.alloc (.cells (u8s l).toArray e)).ownsRow base e 1 (.slice (some ⟨w.heap.size, 0, none⟩) l.length l.length) l.length (u8s l) :=
  ⟨by simp [u8s], .inr ⟨w.heap.size, l.length, _, rfl, hb, heap_alloc_new w _, Nat.le_refl _, hl, by simp [u8s], by simp only [Nat.mul_one]; exact List.take_of_length_le (by simp [u8s])⟩⟩
end Go.Proofs.Ytpbcfkfhkenhpaa

/-
  OWN WORK. The cuts 'b[:k]', 'b[k:]' of a slice of bytes, run; a reader's box.
-/
namespace Go.Proofs.Ytpbcfkfhkenhpaa
open Go.RowKit
set_option linter.unusedVariables false

theorem run_cut_to {P : Program} (w : World) (t e : TypeId) (hu : P.underlying t = some (.slice e)) (hsz : (P.info? e).map (·.size) = some 1) (p : Option Addr) (n c k : Nat) (hk : k ≤ c) :
    (Instr.slice t (.slice p n c) none (some (.int .i64 (k : Int))) none).run P w = .ok (.slice p k c) w := by
  obtain ⟨i, hi, hs⟩ := Option.map_eq_some_iff.1 hsz
  have e0 : Option.map (fun x : Addr => x.add 0) p = p := by cases p <;> simp [Addr.add]
  simp [Instr.slice, run_underlying hu, Instr.sliceBounds, run_sliceBound, sizeOf, typeInfo, hi, e0, (by omega : (k : Int) ≤ (c : Int))]
theorem run_cut_from {P : Program} (w : World) (t e : TypeId) (hu : P.underlying t = some (.slice e)) (hsz : (P.info? e).map (·.size) = some 1) (p : Option Addr) (n c k : Nat) (hk : k ≤ n) :
    (Instr.slice t (.slice p n c) (some (.int .i64 (k : Int))) none none).run P w = .ok (.slice (if c = k then p else p.map (·.add k)) (n - k) (c - k)) w := by
  obtain ⟨i, hi, hs⟩ := Option.map_eq_some_iff.1 hsz
  simp [Instr.slice, run_underlying hu, Instr.sliceBounds, run_sliceBound, sizeOf, typeInfo, hi, hs, (by omega : (k : Int) ≤ (n : Int))]

theorem run_cut_mid {P : Program} (w : World) (t e : TypeId) (hu : P.underlying t = some (.slice e)) (hsz : (P.info? e).map (·.size) = some 1) (p : Option Addr) (n c k m : Nat) (hm : k + m ≤ c) :
    (Instr.slice t (.slice p n c) (some (.int .i64 (k : Int))) (some (.int .i64 ((k : Int) + (m : Int)))) none).run P w = .ok (.slice (if c = k then p else p.map (·.add k)) m (c - k)) w := by
  obtain ⟨i, hi, hs⟩ := Option.map_eq_some_iff.1 hsz
  have e1 : ((k : Int) + (m : Int)).toNat = k + m := by omega
  simp [Instr.slice, run_underlying hu, Instr.sliceBounds, run_sliceBound, sizeOf, typeInfo, hi, hs, e1, (by omega : (k : Int) + (m : Int) ≤ (c : Int)), (by omega : 0 ≤ (k : Int) + (m : Int))]
  rw [run_sliceBound (P := P) w .i64 (k : Int) (k + m) .sliceB (by omega) (by omega)]
  simp [Result.andThen]
theorem Bs.heap {w w' : World} {v : Value} {l : List UInt8} (hw : w'.heap = w.heap) (h : Bs w v l) : Bs w' v l := h.carry fun a x hx _ => by rw [World.cell?_of_block (w := w) (by rw [hw])]; exact hx
/-- 'b[k:k+m]' -/
theorem Bs.mid {P : Program} (t e : TypeId) (hu : P.underlying t = some (.slice e)) (hsz : (P.info? e).map (·.size) = some 1) {w : World} {p : Option Addr} {n c : Nat} {l : List UInt8} (h : Bs w (.slice p n c) l) (k m : Nat) (hk : k + m ≤ n) :
    ∃ p2, (∀ u, (Instr.slice t (.slice p n c) (some (.int .i64 (k : Int))) (some (.int .i64 ((k : Int) + (m : Int)))) none).run P u = .ok (.slice p2 m (c - k)) u) ∧ Bs w (.slice p2 m (c - k)) ((l.drop k).take m) := by
  obtain ⟨p', c', e', h1, h2, -⟩ := id h
  cases e'
  have hc := (h.cut (P := P) (k := k) (by omega)).2
  have hd := (Bs.cut (P := P) (c := c - k) (l := l.drop k) (by simpa using hc) (k := m) (by simp; omega)).1
  exact ⟨_, fun u => run_cut_mid u t e hu hsz p _ c k m (by omega), hd⟩
/-- both cuts of a slice of bytes, with what they hold -/
theorem Bs.cuts {P : Program} (t e : TypeId) (hu : P.underlying t = some (.slice e)) (hsz : (P.info? e).map (·.size) = some 1) {w : World} {p : Option Addr} {n c : Nat} {l : List UInt8} (h : Bs w (.slice p n c) l) (k : Nat) (hk : k ≤ n) :
    ∃ p2, (∀ u, (Instr.slice t (.slice p n c) none (some (.int .i64 (k : Int))) none).run P u = .ok (.slice p k c) u) ∧
      (∀ u, (Instr.slice t (.slice p n c) (some (.int .i64 (k : Int))) none none).run P u = .ok (.slice p2 (n - k) (c - k)) u) ∧ Bs w (.slice p k c) (l.take k) ∧ Bs w (.slice p2 (n - k) (c - k)) (l.drop k) := by
  obtain ⟨p', c', e', h1, h2, -⟩ := id h
  cases e'
  have hc := h.cut (P := P) hk
  exact ⟨_, fun u => run_cut_to u t e hu hsz p _ c k (by omega), fun u => run_cut_from u t e hu hsz p _ c k hk, hc.1, hc.2⟩

/-- A READER: block g holds one slice, of the bytes l that are left. -/
def Rd (t : TypeId) (w : World) (g : Nat) (l : List UInt8) : Prop :=
  ∃ p n c, w.heap[g]? = some (.cells #[.slice p n c] t (0, 0)) ∧ Bs w (.slice p n c) l
theorem Rd.box {t : TypeId} {w : World} {g : Nat} {l : List UInt8} (h : Rd t w g l) : Box w g := by
  obtain ⟨p, n, c, h1, _⟩ := h
  exact ⟨p, n, c, t, _, h1⟩
theorem Rd.lt {t : TypeId} {w : World} {g : Nat} {l : List UInt8} (h : Rd t w g l) : g < w.heap.size := by
  obtain ⟨p, n, c, h1, _⟩ := h
  exact (Array.getElem?_eq_some_iff.1 h1).1
/-- a reader is as it was where neither it nor a byte was touched -/
theorem Rd.kept {t : TypeId} {w w' : World} {g : Nat} {l : List UInt8} {S : List Nat} (h : Rd t w g l) (k : Kept S w w') (hS : ∀ x ∈ S, x ≠ g ∧ (Box w x ∨ w.heap.size ≤ x)) : Rd t w' g l := by
  have hl := h.lt
  obtain ⟨p, n, c, h1, h2⟩ := h
  exact ⟨p, n, c, (k.block g hl (fun hm => (hS g hm).1 rfl)).trans h1, h2.keptBox k fun x hx => (hS x hx).2⟩
theorem Box.kept {w w' : World} {x : Nat} {S : List Nat} (h : Box w x) (k : Kept S w w') (hn : x ∉ S) : Box w' x := by
  obtain ⟨p, n, c, t, m, hb⟩ := h
  exact ⟨p, n, c, t, m, (k.block x (Array.getElem?_eq_some_iff.1 hb).1 hn).trans hb⟩
theorem Rd.fresh {t : TypeId} {w : World} {p : Option Addr} {n c : Nat} {l : List UInt8} (h : Bs w (.slice p n c) l) : Rd t (w.alloc (.cells #[.slice p n c] t)) w.heap.size l :=
  ⟨p, n, c, heap_alloc_new w _, h.kept ((Kept.refl [] w).alloc _)⟩
theorem Rd.cell {t : TypeId} {w : World} {g : Nat} {p : Option Addr} {n c : Nat} (h : w.heap[g]? = some (.cells #[.slice p n c] t (0, 0))) : w.cell? ⟨g, 0, none⟩ = some (.slice p n c) ∧ w.frozen? ⟨g, 0, none⟩ = false :=
  ⟨cell_of_one h, free_of_one h⟩
/-- the reader's box is written: the new slice in it -/
theorem Rd.set {t : TypeId} {w : World} {g : Nat} {p p' : Option Addr} {n c n' c' : Nat} {l' : List UInt8} (h : w.heap[g]? = some (.cells #[.slice p n c] t (0, 0))) (hb : Bs w (.slice p' n' c') l') :
    Rd t (w.setCell ⟨g, 0, none⟩ (.slice p' n' c')) g l' ∧ Kept [g] w (w.setCell ⟨g, 0, none⟩ (.slice p' n' c')) := by
  have hk : Kept [g] w (w.setCell ⟨g, 0, none⟩ (.slice p' n' c')) := (Kept.refl [g] w).setCell (.inl (by simp)) _
  refine ⟨⟨p', n', c', one_setCell h, hb.keptBox hk fun x hx => .inl ?_⟩, hk⟩
  simp at hx; subst hx
  exact ⟨p, n, c, t, _, h⟩
theorem own_mono {w : World} {b b' e size : Nat} {v : Value} {n : Nat} {xs : List Value} (h : w.ownsRow b e size v n xs) (hb : b' ≤ b) : w.ownsRow b' e size v n xs := by
  refine ⟨h.1, ?_⟩
  rcases h.2 with h | ⟨g, cap, cur, h1, h2, h3⟩
  · exact .inl h
  · exact .inr ⟨g, cap, cur, h1, Nat.le_trans hb h2, h3⟩
end Go.Proofs.Ytpbcfkfhkenhpaa

/-
  OWN WORK. A slice of slices of bytes; rows of the call's own.
-/
namespace Go.Proofs.Ytpbcfkfhkenhpaa
open Go.RowKit
set_option linter.unusedVariables false

theorem Kept.drewN' {S : List Nat} {a w : World} (h : Kept S a w) (n : Nat) : Kept S a (w.drewN n) := ⟨h.os, h.tape, h.output, h.size, h.block⟩
/-- THE VALUE v IS A SLICE OF SLICES OF THESE BYTES IN w. -/
def Bss (w : World) (v : Value) (ls : List (List UInt8)) : Prop :=
  ∃ (p : Option Addr) (c : Nat), v = .slice p ls.length c ∧ ls.length ≤ c ∧ c ≤ maxLen ∧ (p = none → c = 0) ∧
    ∀ a, p = some a → ∀ (i : Nat) l, ls[i]? = some l → ∃ q d, w.cell? (a.add i) = some (.slice q l.length d) ∧ Bs w (.slice q l.length d) l
theorem Bss.pos {w : World} {v : Value} {ls : List (List UInt8)} (h : Bss w v ls) (hl : 0 < ls.length) :
    ∃ b o c, v = .slice (some ⟨b, o, none⟩) ls.length c ∧ ls.length ≤ c ∧ c ≤ maxLen ∧ b < w.heap.size ∧
      ∀ (i : Nat) l, ls[i]? = some l → ∃ q d, w.cell? ⟨b, o + i, none⟩ = some (.slice q l.length d) ∧ Bs w (.slice q l.length d) l := by
  obtain ⟨p, c, rfl, h1, h2, h3, h4⟩ := h
  cases p with
  | none => have := h3 rfl; omega
  | some a =>
    obtain ⟨q, d, hc, _⟩ := h4 a rfl 0 ls[0] (List.getElem?_eq_getElem hl)
    have hs := spot_of_cell hc
    have hs' : a.spot = none := by
      unfold Addr.add at hs
      split at hs <;> simp_all
    have hb := lt_of_cell hc
    rw [add_block] at hb
    refine ⟨a.block, a.off, c, by obtain ⟨b, o, s⟩ := a; simp_all, h1, h2, hb, fun i x hx => ?_⟩
    rw [← add_none hs' i]
    exact h4 a rfl i x hx
theorem Bss.kept {w w' : World} {v : Value} {ls : List (List UInt8)} (h : Bss w v ls) (k : Kept [] w w') : Bss w' v ls := by
  obtain ⟨p, c, rfl, h1, h2, h3, h4⟩ := h
  refine ⟨p, c, rfl, h1, h2, h3, fun a e i l hl => ?_⟩
  obtain ⟨q, d, hc, hb⟩ := h4 a e i l hl
  exact ⟨q, d, k.cell hc (by simp), hb.kept k⟩
/-- a literal's slices in a block of their own -/
theorem Bss.lit (w : World) (e : TypeId) (vs : List Value) (ls : List (List UInt8)) (hl : vs.length = ls.length) (hm : ls.length ≤ maxLen) (hB : ∀ (i : Nat) v l, vs[i]? = some v → ls[i]? = some l → Bs w v l) (H : Nat) (hH : w.heap.size = H) :
    Bss (w.alloc (.cells vs.toArray e)) (.slice (some ⟨H, 0, none⟩) ls.length ls.length) ls := by
  subst hH
  refine ⟨_, ls.length, rfl, Nat.le_refl _, hm, fun e => (by cases e), fun a ha i l hi => ?_⟩
  cases ha
  have hv : i < vs.length := by rw [hl]; exact (List.getElem?_eq_some_iff.1 hi).1
  have hb := hB i vs[i] l (List.getElem?_eq_getElem hv) hi
  obtain ⟨q, d, hq, -⟩ := id hb
  refine ⟨q, d, ?_, ?_⟩
  · have := World.news_of_block (heap_alloc_new w (.cells vs.toArray e)) i vs[i] (by simp)
    rw [← hq]
    exact this
  · rw [← hq]
    exact hb.kept ((Kept.refl [] w).alloc _)
/-- the rows one behind the other -/
def flat (ls : List (List UInt8)) : List UInt8 := ls.flatten
theorem flat_nil : flat [] = [] := rfl
theorem flat_take (ls : List (List UInt8)) (k : Nat) (l : List UInt8) (h : ls[k]? = some l) : flat (ls.take (k + 1)) = flat (ls.take k) ++ l := by
  obtain ⟨hk, rfl⟩ := List.getElem?_eq_some_iff.1 h
  unfold flat
  rw [List.take_succ_eq_append_getElem hk, List.flatten_append]
  simp
theorem flat_le (ls : List (List UInt8)) (k : Nat) : (flat (ls.take k)).length ≤ (flat ls).length := by
  unfold flat
  have : ls.flatten = (ls.take k).flatten ++ (ls.drop k).flatten := by rw [← List.flatten_append, List.take_append_drop]
  rw [this, List.length_append]; omega

theorem own_shape2 {w : World} {base e size : Nat} {v : Value} {n : Nat} {xs : List Value} (h : w.ownsRow base e size v n xs) : ∃ p c, v = .slice p n c := by
  rcases h.2 with ⟨rfl, rfl⟩ | ⟨g, cap, cur, rfl, _⟩
  · exact ⟨_, _, rfl⟩
  · exact ⟨_, _, rfl⟩
theorem Bss.lit1 (w : World) (e : TypeId) (a : Value) (la : List UInt8) (ha : Bs w a la) (H : Nat) (hH : w.heap.size = H) : Bss (w.alloc (.cells #[a] e)) (.slice (some ⟨H, 0, none⟩) 1 1) [la] :=
  Bss.lit w e [a] [la] rfl (by simp [maxLen]) (by
    intro i v l h1 h2
    match i, h1, h2 with
    | 0, h1, h2 => simp at h1 h2; subst h1; subst h2; exact ha
    | i + 1, h1, h2 => simp at h1) H hH
theorem Bss.lit2 (w : World) (e : TypeId) (a b : Value) (la lb : List UInt8) (ha : Bs w a la) (hb : Bs w b lb) (H : Nat) (hH : w.heap.size = H) : Bss (w.alloc (.cells #[a, b] e)) (.slice (some ⟨H, 0, none⟩) 2 2) [la, lb] :=
  Bss.lit w e [a, b] [la, lb] rfl (by simp [maxLen]) (by
    intro i v l h1 h2
    match i, h1, h2 with
    | 0, h1, h2 => simp at h1 h2; subst h1; subst h2; exact ha
    | 1, h1, h2 => simp at h1 h2; subst h1; subst h2; exact hb
    | i + 2, h1, h2 => simp at h1) H hH
theorem Bss.lit3 (w : World) (e : TypeId) (a b c : Value) (la lb lc : List UInt8) (ha : Bs w a la) (hb : Bs w b lb) (hc : Bs w c lc) (H : Nat) (hH : w.heap.size = H) : Bss (w.alloc (.cells #[a, b, c] e)) (.slice (some ⟨H, 0, none⟩) 3 3) [la, lb, lc] :=
  Bss.lit w e [a, b, c] [la, lb, lc] rfl (by simp [maxLen]) (by
    intro i v l h1 h2
    match i, h1, h2 with
    | 0, h1, h2 => simp at h1 h2; subst h1; subst h2; exact ha
    | 1, h1, h2 => simp at h1 h2; subst h1; subst h2; exact hb
    | 2, h1, h2 => simp at h1 h2; subst h1; subst h2; exact hc
    | i + 3, h1, h2 => simp at h1) H hH
/-- rows made behind a literal's block -/
theorem own_late {w w' : World} {o : Obj} {e n : Nat} {v : Value} {xs : List Value} (h : w'.ownsRow (w.alloc o).heap.size e 1 v n xs) : w'.ownsRow w.heap.size e 1 v n xs := by
  refine ⟨h.1, ?_⟩
  rcases h.2 with h1 | ⟨g, cap, cur, h1, h2, h3⟩
  · exact .inl h1
  · exact .inr ⟨g, cap, cur, h1, Nat.le_trans (by simp) h2, h3⟩

end Go.Proofs.Ytpbcfkfhkenhpaa

/-
  OWN WORK. What a reading of an argument says in the words of 'Bs' and 'Bss', and what the bound gives of it.
-/
namespace Go.Proofs.Ytpbcfkfhkenhpaa
open Go.ChangeShapes Go.WideShapes Go.ChangeAt Go.RowKit Go.Deep
set_option linter.unusedVariables false

theorem own : ownKnob Try.prog.godebug = none := by kernel_rfl
theorem laidOut : laidOutB Try.prog = true := by kernel_rfl

theorem bulk_one {H : Type} (d : DataW H) : 1 ≤ Rows.uptoBulk d := by
  cases d with
  | lit l => cases l <;> simp [Rows.uptoBulk]
  | nil => simp [Rows.uptoBulk]
  | ptr d => simp [Rows.uptoBulk]
  | slice elems spare => simp [Rows.uptoBulk]
  | agg parts => simp [Rows.uptoBulk]
  | iface t d => simp [Rows.uptoBulk]
  | map entries => simp [Rows.uptoBulk]
  | held h => simp [Rows.uptoBulk]
theorem bulk_length {H : Type} (l : List (DataW H)) : l.length ≤ Rows.uptoBulkAll l := by
  induction l with
  | nil => simp [Rows.uptoBulkAll]
  | cons x r ih => have := bulk_one x; simp only [Rows.uptoBulkAll, List.length_cons]; omega
theorem bulk_append {H : Type} (l r : List (DataW H)) : Rows.uptoBulkAll (l ++ r) = Rows.uptoBulkAll l + Rows.uptoBulkAll r := by
  induction l with
  | nil => simp [Rows.uptoBulkAll]
  | cons x l ih => simp only [List.cons_append, Rows.uptoBulkAll, ih]; omega

/-- the bytes that these numbers are -/
def bytesOfInts (zs : List Int) : List UInt8 := zs.map fun n => UInt8.ofNat n.toNat
theorem bytes_length (zs : List Int) : (bytesOfInts zs).length = zs.length := by simp [bytesOfInts]
theorem byte_wf {n : Int} (h : (Lit.int .u8 n).wf = true) : ((UInt8.ofNat n.toNat).toNat : Int) = n := by
  have hx : 0 ≤ n ∧ n ≤ 255 := by simpa [Lit.wf, IntKind.min, IntKind.max, IntKind.signed, IntKind.bits] using h
  rw [UInt8.toNat_ofNat']
  omega
theorem bs_cells {w : World} {ao : Option Addr} {len cap : Nat} {zs : List Int} (hl : len ≤ cap) (hm : cap ≤ maxLen) (hz : zs.length = cap) (hn : ao = none → cap = 0)
    (hc : ∀ a, ao = some a → ∀ i, i < cap → w.cell? (a.add i) = some (.int .u8 (zs.getD i 0))) (hw : ∀ n ∈ zs, (Lit.int .u8 n).wf = true) : Bs w (.slice ao len cap) (bytesOfInts (zs.take len)) := by
  have hlen : (bytesOfInts (zs.take len)).length = len := by rw [bytes_length, List.length_take]; omega
  refine ⟨ao, cap, by rw [hlen], by omega, hm, hn, fun a ha i x hx => ?_⟩
  have hi : i < len := by rw [← hlen]; exact (List.getElem?_eq_some_iff.1 hx).1
  rw [hc a ha i (by omega)]
  have e : x = UInt8.ofNat (zs.getD i 0).toNat := by
    simp only [bytesOfInts, List.getElem?_map, List.getElem?_take, hi, if_true] at hx
    obtain ⟨y, hy, rfl⟩ := Option.map_eq_some_iff.1 hx
    simp [List.getD, hy]
  rw [e, byte_wf (hw _ ?_)]
  rw [List.getD, List.getElem?_eq_getElem (by omega)]
  exact List.getElem_mem _

theorem bs_open {H : Type} {enc : TypeId × Value → H} {W : World} {t e : TypeId} {ao : Option Addr} {len cap : Nat} {d : DataW H} {p : List MemPlace} (ht : Try.prog.underlying t = some (.slice e)) (he : Try.prog.underlying e = some (.int .u8)) (hc : Try.prog.cellsOf e = 1)
    (h : DataW.Trod enc Try.prog W 0 (fun _ => true) true t (.slice ao len cap) d p) : ∃ l : List UInt8, l.length = len ∧ Bs W (.slice ao len cap) l ∧ l.length + 1 ≤ Rows.uptoBulk d ∧ (d = .nil ∧ len = 0 ∨ ∃ el sp, d = .slice el sp ∧ el.length = len) := by
  obtain ⟨fuel, hf⟩ := h
  rcases open_ints ht he hc hf with ⟨hcs, hx⟩ | ⟨x, n, c, zs, hcs, _, hl, hm, hz, hx, hcell, hwz⟩
  · simp [Value.cells] at hcs
    obtain ⟨rfl, rfl, rfl⟩ := hcs
    obtain ⟨rfl, rfl⟩ := Prod.mk.inj hx
    exact ⟨[], rfl, Bs.nil W, by simp [Rows.uptoBulk], .inl ⟨rfl, rfl⟩⟩
  · simp [Value.cells] at hcs
    obtain ⟨rfl, rfl, rfl⟩ := hcs
    obtain ⟨rfl, rfl⟩ := Prod.mk.inj hx
    have hz' : zs.length = cap := by simpa using hz
    have hlen : (bytesOfInts (zs.take len)).length = len := by rw [bytes_length, List.length_take]; omega
    refine ⟨bytesOfInts (zs.take len), hlen, bs_cells hl hm hz' (fun e => by cases e) (fun a ha i hi => by cases ha; exact hcell i (by omega)) hwz, ?_, .inr ⟨_, _, rfl, by simp [lits]; omega⟩⟩
    rw [hlen]
    have h1 := bulk_length (lits (H := H) .u8 (zs.take len))
    simp only [Rows.uptoBulk]
    simp only [lits, List.length_map, List.length_take] at h1 ⊢
    omega

/-- the form's own reach, of a slice of bytes -/
theorem sized_len {H : Type} {ts : List TypeId} {ds : List (DataW H)} {j : Nat} {t e : TypeId} {d : DataW H} {len : Nat} (hsz : (DataW.weightsEach Try.prog ts ds).all (· ≤ reachBytes) = true) (ht : ts[j]? = some t) (hd : ds[j]? = some d)
    (hu : Try.prog.underlying t = some (.slice e)) (hb : Try.prog.bytesOf e = 1) (h : d = .nil ∧ len = 0 ∨ ∃ el sp, d = .slice el sp ∧ el.length = len) : len ≤ 140737488351232 := by
  rcases h with ⟨_, rfl⟩ | ⟨el, sp, rfl, rfl⟩
  · omega
  · have := sized_slice hsz ht hd hu
    rw [hb] at this
    simp only [reachBytes] at this
    omega

theorem bss_open {H : Type} {enc : TypeId × Value → H} {W : World} {t e q : TypeId} {ao : Option Addr} {len cap : Nat} {d : DataW H} {p : List MemPlace} (ht : Try.prog.underlying t = some (.slice e)) (he : Try.prog.underlying e = some (.slice q)) (hq : Try.prog.underlying q = some (.int .u8))
    (ce : Try.prog.cellsOf e = 1) (cq : Try.prog.cellsOf q = 1) (h : DataW.Trod enc Try.prog W 0 (fun _ => true) true t (.slice ao len cap) d p) : ∃ ls : List (List UInt8), Bss W (.slice ao len cap) ls ∧ (flat ls).length + ls.length + 1 ≤ Rows.uptoBulk d := by
  obtain ⟨fuel, hf⟩ := h
  rcases open_int_rows ht he hq ce cq hf with ⟨hcs, hx⟩ | ⟨a, n, c, A, L, C, Z, hcs, _, hl, hm, hx, hr⟩
  · simp [Value.cells] at hcs
    obtain ⟨rfl, rfl, rfl⟩ := hcs
    obtain ⟨rfl, rfl⟩ := Prod.mk.inj hx
    exact ⟨[], ⟨none, 0, rfl, Nat.le_refl _, by simp [maxLen], fun _ => rfl, fun a e => (by cases e)⟩, by simp [Rows.uptoBulk, flat]⟩
  · simp [Value.cells] at hcs
    obtain ⟨rfl, rfl, rfl⟩ := hcs
    obtain ⟨rfl, rfl⟩ := Prod.mk.inj hx
    have hlr : ∀ r, r < cap → (bytesOfInts ((Z r).take (L r))).length = L r := fun r h => by
      obtain ⟨_, h1, _, h3, _⟩ := hr r h
      rw [bytes_length, List.length_take]; omega
    refine ⟨(List.range len).map fun r => bytesOfInts ((Z r).take (L r)), ⟨some a, cap, by simp, by simpa using hl, hm, fun e => (by cases e), fun a' e i l hi => ?_⟩, ?_⟩
    · cases e
      simp only [List.getElem?_map] at hi
      obtain ⟨r, hr1, rfl⟩ := Option.map_eq_some_iff.1 hi
      obtain ⟨hr2, rfl⟩ := List.getElem?_eq_some_iff.1 hr1
      have hr3 : i < len := by simpa using hr2
      simp only [List.getElem_range]
      obtain ⟨k1, k2, k3, k4, k5, k6, k7⟩ := hr i (by omega)
      rw [hlr i (by omega)]
      exact ⟨A i, C i, k1, bs_cells k2 k3 k4 k6 (fun a' ha j hj => (k7 a' ha).2 j hj) k5⟩
    · have key : ∀ (m : Nat), m ≤ len → (flat ((List.range m).map fun r => bytesOfInts ((Z r).take (L r)))).length + m ≤ Rows.uptoBulkAll ((List.range m).map fun r => intRow (H := H) .u8 (A r) (L r) (Z r)) := by
        intro m
        induction m with
        | zero => intro _; simp [flat, Rows.uptoBulkAll]
        | succ m ih =>
          intro hm'
          have := ih (by omega)
          rw [List.range_succ, List.map_append, List.map_append, bulk_append]
          have e1 : (flat (((List.range m).map fun r => bytesOfInts ((Z r).take (L r))) ++ [m].map fun r => bytesOfInts ((Z r).take (L r)))).length = (flat ((List.range m).map fun r => bytesOfInts ((Z r).take (L r)))).length + L m := by
            unfold flat
            rw [List.flatten_append, List.length_append]
            simp only [List.map_cons, List.map_nil, List.flatten_cons, List.flatten_nil, List.append_nil]
            rw [hlr m (by omega)]
          rw [e1]
          have e2 : L m + 1 ≤ Rows.uptoBulkAll ([m].map fun r => intRow (H := H) .u8 (A r) (L r) (Z r)) := by
            obtain ⟨k1, k2, k3, k4, k5, k6, k7⟩ := hr m (by omega)
            simp only [List.map_cons, List.map_nil, Rows.uptoBulkAll]
            cases ha : A m with
            | none => have := k6 ha; simp [intRow, Rows.uptoBulk]; omega
            | some y =>
              have h1 := bulk_length (lits (H := H) .u8 ((Z m).take (L m)))
              simp only [intRow, Rows.uptoBulk]
              simp only [lits, List.length_map, List.length_take] at h1 ⊢
              omega
          omega
      have := key len (Nat.le_refl _)
      simp only [Rows.uptoBulk, List.length_map, List.length_range]
      omega
end Go.Proofs.Ytpbcfkfhkenhpaa

/-
  OWN WORK. What must be kept free (layer 17) in plain words: transactions in the order of their begins, each with its updates.
-/
namespace Go.Proofs.Ytpbcfkfhkenhpaa
set_option linter.unusedVariables false

structure Tx where
  b : Int
  u : List Int
  deriving DecidableEq
def findT (T : List Tx) (b : Int) : Option Tx := T.find? fun x => x.b == b
def sumU : List Int → Int
  | [] => 0
  | n :: r => 46 + n + sumU r
def Tx.sum (t : Tx) : Int := 99 + sumU t.u
def sumO : Option Tx → Int
  | none => 0
  | some t => t.sum
def ofT (T : List Tx) (b : Int) : Int := sumO (findT T b)
def keptT : List Tx → Int
  | [] => 0
  | t :: r => t.sum + keptT r
def szT : List Tx → Nat
  | [] => 0
  | t :: r => 1 + t.u.length + szT r
def setU (T : List Tx) (b : Int) (u : List Int) : List Tx := T.map fun x => if x.b = b then ⟨b, u⟩ else x
def dropL (T : List Tx) (b : Int) : List Tx := T.filter fun x => x.b != b
def isN (n : Int) : Prop := 1 ≤ n ∧ n ≤ 65535
instance (n : Int) : Decidable (isN n) := inferInstanceAs (Decidable (1 ≤ n ∧ n ≤ 65535))
def begE (T : List Tx) (b : Int) : Int := if (findT T b).isSome = true then 160 else 0
def begT (T : List Tx) (b : Int) : List Tx := if (findT T b).isSome = true then T else T ++ [⟨b, []⟩]
def updE (T : List Tx) (b n : Int) : Int := match findT T b with
  | none => 160
  | some t => if isN n then 0 else 30
def updT (T : List Tx) (b n : Int) : List Tx := match findT T b with
  | none => T
  | some t => if isN n then setU T b (t.u ++ [n]) else T
def undE (T : List Tx) (b n : Int) : Int := match findT T b with
  | none => 160
  | some t => if n ∈ t.u then 0 else 30
def undT (T : List Tx) (b n : Int) : List Tx := match findT T b with
  | none => T
  | some t => if n ∈ t.u then setU T b (t.u.erase n) else T
def drpE (T : List Tx) (b : Int) : Int := if (findT T b).isSome = true then 0 else 160
def drpT (T : List Tx) (b : Int) : List Tx := dropL T b
def isF (n m : Int) : Prop := 0 ≤ n ∧ 0 ≤ m ∧ n ≤ 65535 ∧ m ≤ 65535
instance (n m : Int) : Decidable (isF n m) := inferInstanceAs (Decidable (0 ≤ n ∧ 0 ≤ m ∧ n ≤ 65535 ∧ m ≤ 65535))
def frameI (k n m : Int) : Int := if isF n m then (if k = 1 then 34 else if k = 2 then 38 + 2 * n else if k = 3 then 46 + n else if k = 4 ∨ k = 5 ∨ k = 6 then 33 else if k = 7 then 35 + 26 * n + 9 * m else 0) else 0
def fitsB (a : Int) (T : List Tx) (u m k : Int) : Bool := decide (0 ≤ u ∧ 0 ≤ m ∧ 0 ≤ k ∧ u + m + k + keptT T ≤ a)
structure OkR (T : List Tx) : Prop where
  dif : T.Pairwise fun x y => x.b ≠ y.b
  rng : ∀ t ∈ T, ∀ n ∈ t.u, isN n
  sz : szT T ≤ 4398046511104
theorem OkR.nil : OkR [] := ⟨.nil, by simp, by simp [szT]⟩
theorem findT_some {l : List Tx} {b : Int} {x : Tx} (h : findT l b = some x) : x ∈ l ∧ x.b = b := ⟨List.mem_of_find?_eq_some h, by have := List.find?_some h; simpa using this⟩
theorem findT_none {l : List Tx} {b : Int} : findT l b = none ↔ ∀ x ∈ l, x.b ≠ b := by simp [findT]
theorem findT_at {l : List Tx} {k : Nat} {x : Tx} {b : Int} (hk : l[k]? = some x) (e : x.b = b) (hn : ∀ i y, i < k → l[i]? = some y → y.b ≠ b) : findT l b = some x := by
  obtain ⟨hl, hx⟩ := List.getElem?_eq_some_iff.1 hk
  have es : l = l.take k ++ x :: l.drop (k + 1) := by rw [← hx, List.getElem_cons_drop]; exact (List.take_append_drop k l).symm
  unfold findT
  rw [es, List.find?_append, List.find?_eq_none.2 fun y hy => ?_]
  · simp [e]
  · obtain ⟨i, hi, rfl⟩ := List.getElem_of_mem hy
    have hik : i < k := by simp at hi; omega
    have := hn i l[i] hik (List.getElem?_eq_getElem (by omega))
    simpa using this
theorem findT_no {l : List Tx} {b : Int} (hn : ∀ i y, i < l.length → l[i]? = some y → y.b ≠ b) : findT l b = none := findT_none.2 fun x hx => by
  obtain ⟨i, hi, rfl⟩ := List.getElem_of_mem hx
  exact hn i _ hi (List.getElem?_eq_getElem hi)
theorem setU_none {l : List Tx} {b : Int} (u : List Int) (h : ∀ x ∈ l, x.b ≠ b) : setU l b u = l := by
  unfold setU
  conv => rhs; rw [← List.map_id' l]
  apply List.map_congr_left
  intro x hx
  rw [if_neg (h x hx)]
theorem dropL_none {l : List Tx} {b : Int} (h : ∀ x ∈ l, x.b ≠ b) : dropL l b = l := List.filter_eq_self.2 fun y hy => by have := h y hy; simpa using this
theorem split_at {l : List Tx} {k : Nat} {x : Tx} (hk : l[k]? = some x) : l = l.take k ++ x :: l.drop (k + 1) := by
  obtain ⟨hl, hx⟩ := List.getElem?_eq_some_iff.1 hk
  rw [← hx, List.getElem_cons_drop]
  exact (List.take_append_drop k l).symm
/-- a transaction that is there: what is ahead of it, and what is behind -/
theorem split_find {l : List Tx} (h : l.Pairwise fun x y => x.b ≠ y.b) {b : Int} {t : Tx} (hf : findT l b = some t) : ∃ p q, l = p ++ t :: q ∧ t.b = b ∧ (∀ x ∈ p, x.b ≠ b) ∧ ∀ x ∈ q, x.b ≠ b := by
  obtain ⟨hm, rfl⟩ := findT_some hf
  obtain ⟨k, hl, hx⟩ := List.getElem_of_mem hm
  have es := split_at (List.getElem?_eq_some_iff.2 ⟨hl, hx⟩)
  rw [es] at h
  obtain ⟨p1, p2, p3⟩ := List.pairwise_append.1 h
  obtain ⟨p4, p5⟩ := List.pairwise_cons.1 p2
  exact ⟨_, _, es, rfl, fun x hx => p3 x hx t (by simp), fun x hx e => p4 x hx e.symm⟩
theorem setU_split {p q : List Tx} {t : Tx} {b : Int} (u : List Int) (hb : t.b = b) (hp : ∀ x ∈ p, x.b ≠ b) (hq : ∀ x ∈ q, x.b ≠ b) : setU (p ++ t :: q) b u = p ++ ⟨b, u⟩ :: q := by
  have e1 := setU_none u hp
  have e2 := setU_none u hq
  unfold setU at *
  rw [List.map_append, List.map_cons, e1, e2, if_pos hb]
theorem dropL_split {p q : List Tx} {t : Tx} {b : Int} (hb : t.b = b) (hp : ∀ x ∈ p, x.b ≠ b) (hq : ∀ x ∈ q, x.b ≠ b) : dropL (p ++ t :: q) b = p ++ q := by
  have e1 := dropL_none hp
  have e2 := dropL_none hq
  unfold dropL at *
  rw [List.filter_append, List.filter_cons, e1, e2, if_neg (by simp [hb])]
theorem at_apart {l : List Tx} (h : l.Pairwise fun x y => x.b ≠ y.b) {k : Nat} {t : Tx} (hk : l[k]? = some t) : (∀ x ∈ l.take k, x.b ≠ t.b) ∧ ∀ x ∈ l.drop (k + 1), x.b ≠ t.b := by
  have es := split_at hk
  rw [es] at h
  obtain ⟨p1, p2, p3⟩ := List.pairwise_append.1 h
  obtain ⟨p4, p5⟩ := List.pairwise_cons.1 p2
  exact ⟨fun x hx => p3 x hx t (by simp), fun x hx e => p4 x hx e.symm⟩
theorem setU_at {l : List Tx} (h : l.Pairwise fun x y => x.b ≠ y.b) {k : Nat} {t : Tx} (hk : l[k]? = some t) (u : List Int) : setU l t.b u = l.set k ⟨t.b, u⟩ := by
  obtain ⟨h1, h2⟩ := at_apart h hk
  have es := split_at hk
  have hl := (List.getElem?_eq_some_iff.1 hk).1
  conv => lhs; rw [es]
  rw [setU_split u rfl h1 h2, List.set_eq_take_append_cons_drop, if_pos hl]
theorem dropL_at {l : List Tx} (h : l.Pairwise fun x y => x.b ≠ y.b) {k : Nat} {t : Tx} (hk : l[k]? = some t) : dropL l t.b = l.take k ++ l.drop (k + 1) := by
  obtain ⟨h1, h2⟩ := at_apart h hk
  have es := split_at hk
  conv => lhs; rw [es]
  rw [dropL_split rfl h1 h2]
theorem sumU_append (a b : List Int) : sumU (a ++ b) = sumU a + sumU b := by
  induction a with
  | nil => simp [sumU]
  | cons n r ih => simp only [List.cons_append, sumU, ih]; omega
theorem sumU_erase : ∀ {u : List Int} {n : Int}, n ∈ u → sumU (u.erase n) = sumU u - 46 - n
  | [], n, h => by simp at h
  | m :: r, n, h => by
    by_cases c : m = n
    · subst c; rw [List.erase_cons_head]; simp only [sumU]; omega
    · rw [List.erase_cons_tail (by simpa using c)]
      have := sumU_erase (u := r) (n := n) (by rcases List.mem_cons.1 h with e | e; exact absurd e.symm c; exact e)
      simp only [sumU, this]; omega
theorem keptT_append (a b : List Tx) : keptT (a ++ b) = keptT a + keptT b := by
  induction a with
  | nil => simp [keptT]
  | cons n r ih => simp only [List.cons_append, keptT, ih]; omega
theorem szT_append (a b : List Tx) : szT (a ++ b) = szT a + szT b := by
  induction a with
  | nil => simp [szT]
  | cons n r ih => simp only [List.cons_append, szT, ih]; omega
theorem sumU_range {u : List Int} (h : ∀ n ∈ u, isN n) : 0 ≤ sumU u ∧ sumU u ≤ 65581 * (u.length : Int) := by
  induction u with
  | nil => simp [sumU]
  | cons n r ih =>
    have h1 := h n (by simp)
    have h2 := ih (fun x hx => h x (by simp [hx]))
    unfold isN at h1
    simp only [sumU, List.length_cons]
    omega
theorem keptT_range {T : List Tx} (h : ∀ t ∈ T, ∀ n ∈ t.u, isN n) : 0 ≤ keptT T ∧ keptT T ≤ 65581 * (szT T : Int) := by
  induction T with
  | nil => simp [keptT, szT]
  | cons t r ih =>
    have h1 := sumU_range (h t (by simp))
    have h2 := ih (fun x hx => h x (by simp [hx]))
    simp only [keptT, szT, Tx.sum]
    omega
theorem len_szT (T : List Tx) : T.length ≤ szT T := by
  induction T with
  | nil => simp
  | cons t r ih => simp only [szT, List.length_cons]; omega
theorem len_upd {T : List Tx} {t : Tx} (h : t ∈ T) : t.u.length < szT T := by
  induction T with
  | nil => simp at h
  | cons x r ih =>
    rcases List.mem_cons.1 h with rfl | h
    · simp only [szT]; omega
    · have := ih h; simp only [szT]; omega
theorem sum_le {T : List Tx} (h : ∀ t ∈ T, ∀ n ∈ t.u, isN n) {t : Tx} (ht : t ∈ T) : 99 ≤ t.sum ∧ t.sum ≤ keptT T := by
  induction T with
  | nil => simp at ht
  | cons x r ih =>
    have h1 := sumU_range (h x (by simp))
    have h2 := keptT_range (T := r) (fun x hx => h x (by simp [hx]))
    rcases List.mem_cons.1 ht with rfl | ht
    · simp only [keptT, Tx.sum] at *; omega
    · have := ih (fun x hx => h x (by simp [hx])) ht
      simp only [keptT, Tx.sum] at *; omega
theorem OkR.kept {T : List Tx} (h : OkR T) : 0 ≤ keptT T ∧ keptT T ≤ 288500000000000000 := by
  have h1 := keptT_range h.rng
  have h2 := h.sz
  omega
theorem OkR.of {T : List Tx} (h : OkR T) (b : Int) : 0 ≤ ofT T b ∧ ofT T b ≤ keptT T := by
  have hk := h.kept
  unfold ofT
  cases e : findT T b with
  | none => simp only [sumO]; omega
  | some t =>
    have := sum_le h.rng (findT_some e).1
    simp only [sumO]; omega
-- each call: its answer, what it leaves
theorem beg_old {T : List Tx} {b : Int} {t : Tx} (h : findT T b = some t) : begE T b = 160 ∧ begT T b = T := by simp [begE, begT, h]
theorem beg_new {T : List Tx} {b : Int} (h : findT T b = none) : begE T b = 0 ∧ begT T b = T ++ [⟨b, []⟩] := by simp [begE, begT, h]
theorem upd_none {T : List Tx} {b n : Int} (h : findT T b = none) : updE T b n = 160 ∧ updT T b n = T := by simp [updE, updT, h]
theorem upd_range {T : List Tx} {b n : Int} {t : Tx} (h : findT T b = some t) (hn : ¬ isN n) : updE T b n = 30 ∧ updT T b n = T := by simp [updE, updT, h, hn]
theorem upd_ok {T : List Tx} {b n : Int} {t : Tx} (h : findT T b = some t) (hn : isN n) : updE T b n = 0 ∧ updT T b n = setU T b (t.u ++ [n]) := by simp [updE, updT, h, hn]
theorem und_none {T : List Tx} {b n : Int} (h : findT T b = none) : undE T b n = 160 ∧ undT T b n = T := by simp [undE, undT, h]
theorem und_range {T : List Tx} {b n : Int} {t : Tx} (h : findT T b = some t) (hn : n ∉ t.u) : undE T b n = 30 ∧ undT T b n = T := by simp [undE, undT, h, hn]
theorem und_ok {T : List Tx} {b n : Int} {t : Tx} (h : findT T b = some t) (hn : n ∈ t.u) : undE T b n = 0 ∧ undT T b n = setU T b (t.u.erase n) := by simp [undE, undT, h, hn]
theorem drp_none {T : List Tx} {b : Int} (h : findT T b = none) : drpE T b = 160 ∧ drpT T b = T := ⟨by simp [drpE, h], dropL_none (findT_none.1 h)⟩
theorem drp_ok {T : List Tx} {b : Int} {t : Tx} (h : findT T b = some t) : drpE T b = 0 ∧ drpT T b = dropL T b := ⟨by simp [drpE, h], rfl⟩
theorem set_sums {T : List Tx} (h : OkR T) {b : Int} {t : Tx} (hf : findT T b = some t) (u : List Int) : keptT (setU T b u) = keptT T - sumU t.u + sumU u ∧ szT (setU T b u) + t.u.length = szT T + u.length := by
  obtain ⟨p, q, rfl, hb, hp, hq⟩ := split_find h.dif hf
  rw [setU_split u hb hp hq]
  simp only [keptT_append, szT_append, keptT, szT, Tx.sum]
  omega
theorem drop_sums {T : List Tx} (h : OkR T) {b : Int} {t : Tx} (hf : findT T b = some t) : keptT (dropL T b) = keptT T - t.sum ∧ szT (dropL T b) + 1 + t.u.length = szT T := by
  obtain ⟨p, q, rfl, hb, hp, hq⟩ := split_find h.dif hf
  rw [dropL_split hb hp hq]
  simp only [keptT_append, szT_append, keptT, szT]
  omega
theorem OkR.setU {T : List Tx} (h : OkR T) {b : Int} {t : Tx} (hf : findT T b = some t) {u : List Int} (hu : ∀ n ∈ u, isN n) (hs : szT T + u.length ≤ 4398046511104 + t.u.length) : OkR (setU T b u) := by
  have e := (set_sums h hf u).2
  obtain ⟨p, q, rfl, hb, hp, hq⟩ := split_find h.dif hf
  rw [setU_split u hb hp hq] at e ⊢
  refine ⟨?_, fun x hx n hn => ?_, by omega⟩
  · have := h.dif
    rw [List.pairwise_append, List.pairwise_cons] at this ⊢
    subst hb
    refine ⟨this.1, ⟨this.2.1.1, this.2.1.2⟩, fun a ha c hc => ?_⟩
    rcases List.mem_cons.1 hc with rfl | hc
    · exact this.2.2 a ha t (by simp)
    · exact this.2.2 a ha c (by simp [hc])
  · rcases List.mem_append.1 hx with hx | hx
    · exact h.rng x (by simp [hx]) n hn
    · rcases List.mem_cons.1 hx with rfl | hx
      · exact hu n hn
      · exact h.rng x (by simp [hx]) n hn
theorem OkR.beg {T : List Tx} (h : OkR T) (b : Int) (hs : szT T < 4398046511104) : OkR (begT T b) := by
  cases e : findT T b with
  | some t => rw [(beg_old e).2]; exact h
  | none =>
    rw [(beg_new e).2]
    refine ⟨List.pairwise_append.2 ⟨h.dif, by simp, fun x hx y hy => ?_⟩, fun x hx n hn => ?_, ?_⟩
    · simp at hy; subst hy; exact findT_none.1 e x hx
    · rcases List.mem_append.1 hx with hx | hx
      · exact h.rng x hx n hn
      · simp at hx; subst hx; simp at hn
    · rw [szT_append]; simp only [szT, List.length_nil]; omega
theorem OkR.upd {T : List Tx} (h : OkR T) (b n : Int) (hs : szT T < 4398046511104) : OkR (updT T b n) := by
  cases e : findT T b with
  | none => rw [(upd_none e).2]; exact h
  | some t =>
    by_cases hn : isN n
    · rw [(upd_ok e hn).2]
      refine h.setU e (fun x hx => ?_) (by simp; omega)
      rcases List.mem_append.1 hx with hx | hx
      · exact h.rng t (findT_some e).1 x hx
      · simp at hx; subst hx; exact hn
    · rw [(upd_range e hn).2]; exact h
theorem OkR.und {T : List Tx} (h : OkR T) (b n : Int) : OkR (undT T b n) := by
  cases e : findT T b with
  | none => rw [(und_none e).2]; exact h
  | some t =>
    by_cases hn : n ∈ t.u
    · rw [(und_ok e hn).2]
      exact h.setU e (fun x hx => h.rng t (findT_some e).1 x (List.mem_of_mem_erase hx)) (by rw [List.length_erase_of_mem hn]; have := h.sz; omega)
    · rw [(und_range e hn).2]; exact h
theorem OkR.drp {T : List Tx} (h : OkR T) (b : Int) : OkR (drpT T b) := by
  refine ⟨h.dif.filter _, fun x hx => h.rng x (List.mem_filter.1 hx).1, ?_⟩
  cases e : findT T b with
  | none => rw [(drp_none e).2]; exact h.sz
  | some t => have := (drop_sums h e).2; have := h.sz; unfold drpT; omega
-- how much a call may add
theorem sz_beg (T : List Tx) (b : Int) : szT (begT T b) ≤ szT T + 1 := by
  unfold begT
  split
  · omega
  · rw [szT_append]; simp [szT]
theorem sz_upd {T : List Tx} (h : OkR T) (b n : Int) : szT (updT T b n) ≤ szT T + 1 := by
  cases e : findT T b with
  | none => rw [(upd_none e).2]; omega
  | some t =>
    by_cases hn : isN n
    · rw [(upd_ok e hn).2]; have := (set_sums h e (t.u ++ [n])).2; simp at this; omega
    · rw [(upd_range e hn).2]; omega
theorem sz_und {T : List Tx} (h : OkR T) (b n : Int) : szT (undT T b n) ≤ szT T + 1 := by
  cases e : findT T b with
  | none => rw [(und_none e).2]; omega
  | some t =>
    by_cases hn : n ∈ t.u
    · rw [(und_ok e hn).2]; have := (set_sums h e (t.u.erase n)).2; rw [List.length_erase_of_mem hn] at this; omega
    · rw [(und_range e hn).2]; omega
theorem sz_drp {T : List Tx} (h : OkR T) (b : Int) : szT (drpT T b) ≤ szT T + 1 := by
  cases e : findT T b with
  | none => rw [(drp_none e).2]; omega
  | some t => have := (drop_sums h e).2; unfold drpT; omega
end Go.Proofs.Ytpbcfkfhkenhpaa

/-
  OWN WORK. Plain arithmetic: numbers as bytes, the lowest first.
-/
namespace Go.Proofs.Ytpbcfkfhkenhpaa
set_option linter.unusedVariables false

/-- the number that these bytes are -/
def low : List UInt8 → Nat
  | [] => 0
  | x :: r => x.toNat + 256 * low r
/-- n bytes of a number, the lowest first -/
def lay (n v : Nat) : List UInt8 := (List.range n).map fun i => UInt8.ofNat (v / 256 ^ i)

theorem low_lt (l : List UInt8) : low l < 256 ^ l.length := by
  induction l with
  | nil => simp [low]
  | cons x r ih =>
    have := x.toNat_lt
    simp only [low, List.length_cons, Nat.pow_succ]
    omega
theorem low_append (a b : List UInt8) : low (a ++ b) = low a + 256 ^ a.length * low b := by
  induction a with
  | nil => simp [low]
  | cons x r ih =>
    simp only [List.cons_append, low, ih, List.length_cons, Nat.pow_succ, Nat.mul_add]
    rw [Nat.mul_comm (256 ^ r.length) 256, Nat.mul_assoc]
    omega
theorem low_take (l : List UInt8) (k : Nat) (h : k < l.length) : low (l.take (k + 1)) = low (l.take k) + l[k].toNat * 256 ^ k := by
  rw [List.take_succ_eq_append_getElem h, low_append]
  have : (l.take k).length = k := by simp; omega
  rw [this]
  simp [low, Nat.mul_comm]
theorem low_take_lt (l : List UInt8) (k : Nat) (h : k ≤ l.length) : low (l.take k) < 256 ^ k := by
  have := low_lt (l.take k)
  rwa [show (l.take k).length = k by simp; omega] at this
theorem pow256 (k : Nat) : 256 ^ k = 2 ^ (8 * k) := by rw [Nat.pow_mul]
theorem low_lt64 (l : List UInt8) (h : l.length ≤ 8) : low l < 18446744073709551616 := by
  have h1 := low_lt l
  have h2 : 256 ^ l.length ≤ 256 ^ 8 := Nat.pow_le_pow_right (by omega) h
  have h3 : 256 ^ 8 = 18446744073709551616 := by decide
  omega

theorem bits_or_u64_nat (a b : Nat) (ha : a < 18446744073709551616) (hb : b < 18446744073709551616) :
    bits .or .u64 (a : Int) (b : Int) = ((a ||| b : Nat) : Int) := by
  have hx : a ||| b < 2 ^ 64 := Nat.or_lt_two_pow (by omega) (by omega)
  have h1 : (BitVec.ofInt 64 (a : Int)).toNat = a := by
    rw [BitVec.ofInt_natCast, BitVec.toNat_ofNat]; exact Nat.mod_eq_of_lt (by omega)
  have h2 : (BitVec.ofInt 64 (b : Int)).toNat = b := by
    rw [BitVec.ofInt_natCast, BitVec.toNat_ofNat]; exact Nat.mod_eq_of_lt (by omega)
  show IntKind.u64.wrap ((BitVec.ofInt 64 (a : Int) ||| BitVec.ofInt 64 (b : Int)).toNat : Int) = _
  rw [BitVec.toNat_or, h1, h2, IntKind.wrap_u64]
  omega
theorem bits_and_u64_nat (a b : Nat) (ha : a < 18446744073709551616) (hb : b < 18446744073709551616) :
    bits .and .u64 (a : Int) (b : Int) = ((a &&& b : Nat) : Int) := by
  have hx : a &&& b < 2 ^ 64 := Nat.and_lt_two_pow _ (by omega)
  have h1 : (BitVec.ofInt 64 (a : Int)).toNat = a := by
    rw [BitVec.ofInt_natCast, BitVec.toNat_ofNat]; exact Nat.mod_eq_of_lt (by omega)
  have h2 : (BitVec.ofInt 64 (b : Int)).toNat = b := by
    rw [BitVec.ofInt_natCast, BitVec.toNat_ofNat]; exact Nat.mod_eq_of_lt (by omega)
  show IntKind.u64.wrap ((BitVec.ofInt 64 (a : Int) &&& BitVec.ofInt 64 (b : Int)).toNat : Int) = _
  rw [BitVec.toNat_and, h1, h2, IntKind.wrap_u64]
  omega

/-- one byte more, from above: 'v |= uint64(x) << (8 * i)' -/
theorem or_byte (a k : Nat) (x : UInt8) (h : a < 256 ^ k) (hk : k < 8) :
    bits .or .u64 (a : Int) (IntKind.u64.wrap (IntKind.u64.wrap (x.toNat : Int) * 2 ^ (8 * k))) = ((a + x.toNat * 256 ^ k : Nat) : Int) := by
  have hx := x.toNat_lt
  have h1 : IntKind.u64.wrap (x.toNat : Int) = (x.toNat : Int) := by rw [IntKind.wrap_u64]; omega
  have hp : 256 ^ (k + 1) ≤ 256 ^ 8 := Nat.pow_le_pow_right (by omega) (by omega)
  have h8 : 256 ^ 8 = 18446744073709551616 := by decide
  have hpk : 0 < 256 ^ k := Nat.pow_pos (by omega)
  have hm : x.toNat * 256 ^ k ≤ 255 * 256 ^ k := Nat.mul_le_mul_right _ (by omega)
  have hs : 256 ^ (k + 1) = 256 ^ k * 256 := Nat.pow_succ ..
  have h2 : IntKind.u64.wrap ((x.toNat : Int) * 2 ^ (8 * k)) = ((x.toNat * 256 ^ k : Nat) : Int) := by
    have e : ((x.toNat : Int) * 2 ^ (8 * k)) = ((x.toNat * 256 ^ k : Nat) : Int) := by rw [pow256]; simp
    rw [e, IntKind.wrap_u64]
    omega
  rw [h1, h2, bits_or_u64_nat _ _ (by omega) (by omega)]
  have := Nat.two_pow_add_eq_or_of_lt (i := 8 * k) (b := a) (by rw [← pow256]; exact h) x.toNat
  rw [Nat.or_comm, Nat.mul_comm, pow256, ← this, Nat.add_comm]
theorem low_or (l : List UInt8) (k : Nat) (h : k < l.length) (h8 : l.length ≤ 8) :
    bits .or .u64 (low (l.take k) : Int) (IntKind.u64.wrap (IntKind.u64.wrap (l[k].toNat : Int) * 2 ^ (8 * k))) = (low (l.take (k + 1)) : Int) := by
  rw [or_byte _ _ _ (low_take_lt l k (by omega)) (by omega), low_take l k h]

theorem lay_length (n v : Nat) : (lay n v).length = n := by simp [lay]
theorem lay_succ (n v : Nat) : lay (n + 1) v = lay n v ++ [UInt8.ofNat (v / 256 ^ n)] := by simp [lay, List.range_succ]
theorem lay_zero (v : Nat) : lay 0 v = [] := rfl
theorem low_lay (n v : Nat) : low (lay n v) = v % 256 ^ n := by
  induction n with
  | zero => simp [lay, low, Nat.mod_one]
  | succ n ih =>
    rw [lay_succ, low_append, ih, lay_length]
    simp only [low, Nat.mul_zero, Nat.add_zero, UInt8.toNat_ofNat']
    have e : v % 256 ^ (n + 1) = v % 256 ^ n + 256 ^ n * (v / 256 ^ n % 256) := by rw [Nat.pow_succ, Nat.mod_mul]
    rw [e]
theorem lay_cons (n v : Nat) : lay (n + 1) v = UInt8.ofNat v :: lay n (v / 256) := by
  simp only [lay, List.range_succ_eq_map, List.map_cons, List.map_map]
  simp only [Nat.pow_zero, Nat.div_one]
  congr 1
  apply List.map_congr_left
  intro i _
  simp only [Function.comp]
  rw [Nat.div_div_eq_div_mul, Nat.pow_succ, Nat.mul_comm]
theorem byte_of (x k : Nat) : (x : Int) / 2 ^ (8 * k) % 256 = ((UInt8.ofNat (x / 256 ^ k)).toNat : Int) := by
  rw [UInt8.toNat_ofNat', pow256]
  have : ((2 : Int) ^ (8 * k)) = ((2 ^ (8 * k) : Nat) : Int) := by simp
  rw [this]
  generalize 2 ^ (8 * k) = m
  rw [← Int.natCast_ediv]
  show ((x / m : Nat) : Int) % ((256 : Nat) : Int) = _
  rw [← Int.natCast_emod]
theorem wrap_u8 {x : Nat} (h : x < 256 ^ 1) : IntKind.u8.wrap (x : Int) = (x : Int) := by
  simp only [IntKind.wrap, IntKind.bits, IntKind.signed]
  have : 256 ^ 1 = 256 := by decide
  simp
  omega
theorem wrap_u16 {x : Nat} (h : x < 256 ^ 2) : IntKind.u16.wrap (x : Int) = (x : Int) := by
  simp only [IntKind.wrap, IntKind.bits, IntKind.signed]
  have : 256 ^ 2 = 65536 := by decide
  simp
  omega
theorem wrap_u32 {x : Nat} (h : x < 256 ^ 4) : IntKind.u32.wrap (x : Int) = (x : Int) := by
  simp only [IntKind.wrap, IntKind.bits, IntKind.signed]
  have : 256 ^ 4 = 4294967296 := by decide
  simp
  omega
theorem byte_mod (z : Nat) : (z : Int) % 256 = ((UInt8.ofNat z).toNat : Int) := by
  rw [UInt8.toNat_ofNat']
  omega
theorem low_drop (l : List UInt8) (j : Nat) (h : j < l.length) : low (l.drop j) = l[j].toNat + 256 * low (l.drop (j + 1)) := by
  rw [List.drop_eq_getElem_cons h, low]
theorem get_step (z : Nat) (x : UInt8) (h : x.toNat + 256 * z < 18446744073709551616) :
    IntKind.u64.wrap (IntKind.u64.wrap ((z : Int) * 256) + IntKind.u64.wrap (x.toNat : Int)) = ((x.toNat + 256 * z : Nat) : Int) := by
  rw [IntKind.wrap_u64, IntKind.wrap_u64, IntKind.wrap_u64]
  omega
theorem div_step (z : Nat) (h : z < 18446744073709551616) : IntKind.u64.wrap ((z : Int) / 256) = ((z / 256 : Nat) : Int) := by
  rw [IntKind.wrap_u64]
  omega
theorem get_bound (l : List UInt8) (n j : Nat) (hl : n ≤ l.length) (hj : j < n) (h8 : n ≤ 8) : low ((l.take n).drop j) = l[j].toNat + 256 * low ((l.take n).drop (j + 1)) ∧ low ((l.take n).drop j) < 18446744073709551616 := by
  have hlen : (l.take n).length = n := by simp; omega
  refine ⟨?_, low_lt64 _ (by simp; omega)⟩
  rw [low_drop _ j (by omega)]
  simp
/-- 'v & (1<<(8*width) - 1)' -/
theorem and_mask (x n : Nat) (hx : x < 18446744073709551616) (h8 : n ≤ 8) : bits .and .u64 (x : Int) ((256 ^ n - 1 : Nat) : Int) = ((x % 256 ^ n : Nat) : Int) := by
  have h2 : 256 ^ n ≤ 256 ^ 8 := Nat.pow_le_pow_right (by omega) h8
  have h3 : 256 ^ 8 = 18446744073709551616 := by decide
  have h4 : 0 < 256 ^ n := Nat.pow_pos (by decide)
  rw [bits_and_u64_nat _ _ hx (by omega), pow256, Nat.and_two_pow_sub_one_eq_mod]
theorem low_lay_lt (n m : Nat) (h : m < 256 ^ n) : low (lay n m) = m := by rw [low_lay, Nat.mod_eq_of_lt h]
theorem low_lay_take (n m : Nat) (h : m < 256 ^ n) : low ((lay n m).take n) = m := by
  rw [List.take_of_length_le (by rw [lay_length]; omega)]
  exact low_lay_lt n m h
theorem take_left {α : Type} (a b : List α) : (a ++ b).take a.length = a := by simp
theorem drop_left {α : Type} (a b : List α) : (a ++ b).drop a.length = b := by simp
end Go.Proofs.Ytpbcfkfhkenhpaa

/-
  OWN WORK. copy into a part of an owned row; a byte list laid over another.
-/
namespace Go.Proofs.Ytpbcfkfhkenhpaa
open Go.RowKit
set_option linter.unusedVariables false

/-- r laid over L from the place off on -/
def over (L : List UInt8) (off : Nat) (r : List UInt8) : List UInt8 := L.take off ++ (r ++ L.drop (off + r.length))
theorem over_length (L : List UInt8) (off : Nat) (r : List UInt8) (h : off + r.length ≤ L.length) : (over L off r).length = L.length := by simp [over]; omega
theorem over_nil (L : List UInt8) (off : Nat) : over L off [] = L := by simp [over]
theorem over_at (L : List UInt8) (off : Nat) (r : List UInt8) (h : off + r.length ≤ L.length) (i : Nat) : (over L off r)[i]? = if off ≤ i ∧ i < off + r.length then r[i - off]? else L[i]? := by
  unfold over
  by_cases h1 : i < off
  · rw [List.getElem?_append_left (by simp; omega), List.getElem?_take, if_pos h1, if_neg (by omega)]
  · rw [List.getElem?_append_right (by simp; omega)]
    have e : (L.take off).length = off := by simp; omega
    rw [e]
    by_cases h2 : i < off + r.length
    · rw [List.getElem?_append_left (by omega), if_pos ⟨by omega, h2⟩]
    · rw [List.getElem?_append_right (by omega), List.getElem?_drop, if_neg (by omega)]
      congr 1; omega
/-- 'copy(out[off:..], b)': out the call's own row; what is cut is at least as long as b. -/
theorem wpList_copy_part {P : Program} {w : World} {ops : Array Oper} {rest : List Oper} {o : Oper} {a : Act} {Q : Exit → Act → World → Prop} (hgd : o.guard = none) (d s : Operand) (t : TypeId)
    (ho : o.op = .call { callee := .builtin .copy, args := #[d, s], argTypes := #[t, t] }) (base : Nat) (e : TypeId) (hu : P.underlying t = some (.slice e))
    (hsz : (P.info? e).map (·.size) = some 1)
    (v : Value) (n : Nat) (L : List UInt8) (hown : w.ownsRow base e 1 v n (u8s L)) (off : Nat) (dp : Option Addr) (dLen dCap : Nat) (hd : a.eval d = .slice dp dLen dCap)
    (hdp : 0 < dLen → ∃ g, v.ownBlock = some g ∧ dp = some ⟨g, off, none⟩) (sv : Value) (r : List UInt8) (hx : a.eval s = sv) (hb : Bs w sv r) (hr : r.length ≤ dLen) (hfit : off + dLen ≤ n)
    (h : ∀ w', w'.ownsRow base e 1 v n (u8s (over L off r)) → w.grownBy w' v.ownBlock → wpList P ops Q rest (a.put o.dst (goInt r.length)) w') : wpList P ops Q (o :: rest) a w := by
  obtain ⟨p, c, rfl, h1, h2, h3, h4⟩ := hb
  by_cases h0 : r.length = 0
  · obtain rfl : r = [] := List.eq_nil_of_length_eq_zero h0
    refine wpList_copy_nothing hgd d s t t ho e hu hsz dp p dLen dCap 0 c hd hx (by simp) ?_
    exact h w (by rw [over_nil]; exact hown) (World.grownBy.refl _ _)
  · obtain ⟨g, hgv, rfl⟩ := hdp (by omega)
    cases p with
    | none => have := h3 rfl; omega
    | some ad =>
      have hn : n = L.length := by have := hown.1; rw [u8s_length] at this; omega
      subst hn
      rcases hown.2 with ⟨rfl, hz⟩ | ⟨g', cap, cur, rfl, hbg, hg, hnc, hcm, hcs, htk⟩
      · simp [Value.ownBlock] at hgv
      · have e1 : g' = g := by simpa [Value.ownBlock] using hgv
        subst e1
        refine wpList_copy_own hgd d s t t ho e hu hsz g' off dLen dCap ad r.length c hd hx cur e hg (u8s r) (by rw [u8s_length]; simp [Nat.min_def]; omega) (fun j u hj => by obtain ⟨y, hy, rfl⟩ := u8s_at hj; exact h4 ad rfl j y hy) (by rw [u8s_length]; omega) (u8s_one r) ?_
        rw [u8s_length]
        have hgl : g' < w.heap.size := (Array.getElem?_eq_some_iff.1 hg).1
        refine h _ ⟨by rw [u8s_length, over_length _ _ _ (by omega)]; omega, .inr ⟨g', cap, _, rfl, hbg, setRow_heap w g' cur _ e (0, 0) hg, hnc, hcm, ?_, ?_⟩⟩ ⟨rfl, rfl, rfl, by simp [World.setRow], fun k hk hne => setRow_other w g' k _ (by intro e2; subst e2; exact hne rfl)⟩
        · simp [u8s_length]; omega
        · simp only [Nat.mul_one] at htk ⊢
          have hT : cur.toList.take L.length = u8s L := htk
          have hsz' : cur.toList.length = cap := by simp [hcs]
          apply List.ext_getElem?
          intro j
          have hcur : ∀ j, j < L.length → cur.toList[j]? = (u8s L)[j]? := fun j hj => by rw [← hT, List.getElem?_take, if_pos hj]
          by_cases hj : j < L.length
          · rw [List.getElem?_take, if_pos hj]
            have e3 : (u8s (over L off r))[j]? = if off ≤ j ∧ j < off + r.length then (u8s r)[j - off]? else (u8s L)[j]? := by
              simp only [u8s, List.getElem?_map, over_at L off r (by omega) j]
              split <;> rfl
            rw [e3]
            by_cases c1 : j < off
            · rw [List.getElem?_append_left (by simp; omega), List.getElem?_take, if_pos c1, if_neg (by omega), hcur j hj]
            · rw [List.getElem?_append_right (by simp; omega)]
              have e4 : (cur.toList.take off).length = off := by simp; omega
              rw [e4]
              by_cases c2 : j < off + r.length
              · rw [List.getElem?_append_left (by rw [u8s_length]; omega), if_pos ⟨by omega, c2⟩]
              · rw [List.getElem?_append_right (by rw [u8s_length]; omega), List.getElem?_drop, if_neg (by omega), u8s_length, ← hcur j hj]
                congr 1; omega
          · rw [List.getElem?_eq_none (by simp; omega), List.getElem?_eq_none (by rw [u8s_length, over_length _ _ _ (by omega)]; omega)]
end Go.Proofs.Ytpbcfkfhkenhpaa

/-
  OWN WORK. Rows of the call's own whose elements have several cells, told by their cells: also a front of one, with no spare.
-/
namespace Go.Proofs.Ytpbcfkfhkenhpaa
open Go.RowKit
set_option linter.unusedVariables false

/-- v: n elements of sz cells each, the cells cs, in a block of the call's own (at base or behind), from its beginning on -/
def Row (w : World) (base sz : Nat) (v : Value) (n : Nat) (cs : List Value) : Prop :=
  cs.length = n * sz ∧ (∀ u ∈ cs, u.oneCell' = true) ∧ ∃ p c, v = .slice p n c ∧ n ≤ c ∧ c ≤ maxLen ∧ ((p = none ∧ c = 0) ∨ ∃ g, p = some ⟨g, 0, none⟩ ∧ base ≤ g ∧ g < w.heap.size ∧
    (∀ (j : Nat) u, cs[j]? = some u → w.cell? ⟨g, j, none⟩ = some u) ∧ ∀ j, j < c * sz → (w.cell? ⟨g, j, none⟩).isSome = true ∧ w.frozen? ⟨g, j, none⟩ = false)
theorem Row.nil (w : World) (base sz : Nat) : Row w base sz (.slice none 0 0) 0 [] := ⟨by simp, by simp, none, 0, rfl, Nat.le_refl _, by simp [maxLen], .inl ⟨rfl, rfl⟩⟩
theorem frozen_of_block {w w' : World} {a : Addr} (h : w'.heap[a.block]? = w.heap[a.block]?) : w'.frozen? a = w.frozen? a := World.frozen?_of_block h
theorem Row.kept {w w' : World} {base sz : Nat} {v : Value} {n : Nat} {cs : List Value} {S : List Nat} (h : Row w base sz v n cs) (k : Kept S w w') (hS : ∀ x, v.ownBlock = some x → x ∉ S) : Row w' base sz v n cs := by
  obtain ⟨h1, h2, p, c, rfl, h3, h4, h5⟩ := h
  refine ⟨h1, h2, p, c, rfl, h3, h4, ?_⟩
  rcases h5 with h5 | ⟨g, rfl, h6, h7, h8, h9⟩
  · exact .inl h5
  · have e := k.block g h7 (hS g rfl)
    exact .inr ⟨g, rfl, h6, Nat.lt_of_lt_of_le h7 k.size, fun j u hj => (World.cell?_of_block (a := ⟨g, j, none⟩) e).trans (h8 j u hj), fun j hj => ⟨by rw [World.cell?_of_block (a := ⟨g, j, none⟩) e]; exact (h9 j hj).1, (frozen_of_block (a := ⟨g, j, none⟩) e).trans (h9 j hj).2⟩⟩
theorem Row.shape {w : World} {base sz : Nat} {v : Value} {n : Nat} {cs : List Value} (h : Row w base sz v n cs) : ∃ p c, v = .slice p n c ∧ n ≤ c ∧ c ≤ maxLen := by
  obtain ⟨-, -, p, c, rfl, h3, h4, -⟩ := h
  exact ⟨p, c, rfl, h3, h4⟩
theorem Row.pos {w : World} {base sz : Nat} {p : Option Addr} {n c : Nat} {cs : List Value} (h : Row w base sz (.slice p n c) n cs) (hn : 0 < n) :
    ∃ g, p = some ⟨g, 0, none⟩ ∧ base ≤ g ∧ g < w.heap.size ∧ (∀ (j : Nat) u, cs[j]? = some u → w.cell? ⟨g, j, none⟩ = some u) ∧ ∀ j, j < c * sz → (w.cell? ⟨g, j, none⟩).isSome = true ∧ w.frozen? ⟨g, j, none⟩ = false := by
  obtain ⟨h1, h2, p', c', e, h3, h4, h5⟩ := h
  cases e
  rcases h5 with ⟨-, h5⟩ | h5
  · omega
  · exact h5
theorem Row.lt {w : World} {base sz : Nat} {v : Value} {n : Nat} {cs : List Value} (h : Row w base sz v n cs) (x : Nat) (hx : v.ownBlock = some x) : base ≤ x ∧ x < w.heap.size := by
  obtain ⟨h1, h2, p, c, rfl, h3, h4, h5⟩ := h
  rcases h5 with ⟨rfl, -⟩ | ⟨g, rfl, h6, h7, -⟩
  · simp [Value.ownBlock] at hx
  · simp [Value.ownBlock] at hx
    subst hx
    exact ⟨h6, h7⟩
theorem Row.mono {w : World} {base base' sz : Nat} {v : Value} {n : Nat} {cs : List Value} (h : Row w base sz v n cs) (hb : base' ≤ base) : Row w base' sz v n cs := by
  obtain ⟨h1, h2, p, c, rfl, h3, h4, h5⟩ := h
  refine ⟨h1, h2, p, c, rfl, h3, h4, ?_⟩
  rcases h5 with h5 | ⟨g, rfl, h6, h7, h8⟩
  · exact .inl h5
  · exact .inr ⟨g, rfl, Nat.le_trans hb h6, h7, h8⟩
/-- a cell of one is set -/
theorem Row.set {w : World} {base sz g n c : Nat} {cs : List Value} (h : Row w base sz (.slice (some ⟨g, 0, none⟩) n c) n cs) (j : Nat) (hj : j < n * sz) (u : Value) (hu : u.oneCell' = true) :
    Row (w.setCell ⟨g, j, none⟩ u) base sz (.slice (some ⟨g, 0, none⟩) n c) n (cs.set j u) ∧ Kept [g] w (w.setCell ⟨g, j, none⟩ u) := by
  have hk : Kept [g] w (w.setCell ⟨g, j, none⟩ u) := (Kept.refl [g] w).setCell (.inl (by simp)) u
  obtain ⟨h1, h2, p', c', e, h3, h4, h5⟩ := h
  cases e
  refine ⟨⟨by rw [List.length_set]; exact h1, fun x hx => ?_, _, _, rfl, h3, h4, ?_⟩, hk⟩
  · rcases List.mem_or_eq_of_mem_set hx with hx | hx
    · exact h2 x hx
    · rw [hx]; exact hu
  · rcases h5 with ⟨h5, -⟩ | ⟨g', e, h6, h7, h8, h9⟩
    · cases h5
    · cases e
      obtain ⟨old, hold⟩ : ∃ old, cs[j]? = some old := ⟨_, List.getElem?_eq_getElem (by omega)⟩
      have hc := h8 j old hold
      refine .inr ⟨g, rfl, h6, Nat.lt_of_lt_of_le h7 hk.size, fun k x hx => ?_, fun k hk' => ⟨?_, by rw [World.frozen?_setCell]; exact (h9 k hk').2⟩⟩
      · rw [List.getElem?_set] at hx
        by_cases e : j = k
        · subst e
          rw [if_pos rfl, if_pos (by omega)] at hx
          cases hx
          exact World.cell?_setCell_same _ _ _ hc
        · rw [if_neg e] at hx
          rw [World.cell?_setCell_other _ _ _ _ (by first | (simp; done) | (simp; omega))]
          exact h8 k x hx
      · by_cases e : j = k
        · subst e
          rw [World.cell?_setCell_same _ _ _ hc]; rfl
        · rw [World.cell?_setCell_other _ _ _ _ (by first | (simp; done) | (simp; omega))]
          exact (h9 k hk').1
/-- a front of one, with no spare -/
theorem Row.front {w : World} {base sz : Nat} {p : Option Addr} {n c : Nat} {cs : List Value} (h : Row w base sz (.slice p n c) n cs) (i : Nat) (hi : i ≤ n) (hn : 0 < n) : Row w base sz (.slice p i i) i (cs.take (i * sz)) := by
  obtain ⟨g, rfl, h6, h7, h8, h9⟩ := h.pos hn
  obtain ⟨h1, h2, p', c', e, h3, h4, h5⟩ := h
  cases e
  have hm : i * sz ≤ n * sz := Nat.mul_le_mul_right _ hi
  have hm2 : i * sz ≤ c * sz := Nat.mul_le_mul_right _ (by omega)
  refine ⟨by rw [List.length_take]; omega, fun u hu => h2 u (List.mem_of_mem_take hu), _, i, rfl, Nat.le_refl _, by omega, .inr ⟨g, rfl, h6, h7, fun j u hj => ?_, fun j hj => h9 j (by omega)⟩⟩
  rw [List.getElem?_take] at hj
  split at hj
  · exact h8 j u hj
  · cases hj
theorem kept_setCells (g : Nat) : ∀ (vs : List Value) (o : Nat) (w : World), Kept [g] w (w.setCells g o vs)
  | [], _, w => Kept.refl _ _
  | v :: r, o, w => ((Kept.refl [g] w).setCell (p := ⟨g, o, none⟩) (.inl (by simp)) v).trans (kept_setCells g r (o + 1) _) (by intro x hx; exact .inl hx)
/-- 'append(l, x...)' -/
theorem run_append_row {P : Program} (w : World) (base : Nat) (t ty e : TypeId) (i : TypeInfo) (z : Value) (sz bytes : Nat) (ht : P.underlying t = some (.slice e)) (hi : P.info? e = some i) (hz : i.zero = some z) (hsize : i.size = sz) (hby : i.bytes = bytes) (hzs : z.cells.size = sz)
    (v : Value) (n : Nat) (cs : List Value) (h : Row w base sz v n cs) (x : Value) (m : Nat) (news : List Value) (hs : Src P sz t x m news w) (h63 : n + m ≤ 9223372036854775807) (hmx : n + m ≤ maxLen) (hbytes : (n + m) * bytes ≤ 140737488355328) (hbase : base ≤ w.heap.size) :
    ∃ v' w', (Builtin.append_ #[t, t] ty #[v, x]).run P w = .ok v' w' ∧ Row w' base sz v' (n + m) (cs ++ news) ∧ Kept v.ownBlock.toList w w' ∧ (v'.ownBlock = v.ownBlock ∨ v'.ownBlock = some w.heap.size) := by
  subst hsize
  subst hby
  have hnl := hs.newsLen
  have hall : ∀ u ∈ cs ++ news, u.oneCell' = true := by
    intro u hu
    rcases List.mem_append.1 hu with hu | hu
    · exact h.2.1 u hu
    · exact hs.one u hu
  have hlen : (cs ++ news).length = (n + m) * i.size := by rw [List.length_append, h.1, hnl, Nat.add_mul]
  obtain ⟨p, c, rfl, h3, h4⟩ := h.shape
  by_cases hfit : n + m ≤ c
  · cases p with
    | none =>
      obtain ⟨h1, h2, p', c', e', -, -, h5⟩ := id h
      cases e'
      rcases h5 with ⟨-, rfl⟩ | ⟨g, e, -⟩
      · obtain rfl : n = 0 := by omega
        obtain rfl : m = 0 := by omega
        obtain rfl : news = [] := List.eq_nil_of_length_eq_zero (by simpa using hnl)
        exact ⟨_, _, run_append_nothing (P := P) w t t ty e i ht hi none 0 0 (Nat.le_refl _) x hs, by simpa using h, Kept.refl _ _, .inl rfl⟩
      · cases e
    | some a =>
      obtain ⟨h1, h2, p', c', e', -, -, h5⟩ := id h
      cases e'
      rcases h5 with ⟨e, -⟩ | ⟨g, e, h6, h7, h8, h9⟩
      · cases e
      · cases e
        have hm : n * i.size + m * i.size ≤ c * i.size := by rw [← Nat.add_mul]; exact Nat.mul_le_mul_right _ hfit
        have hthere : ∀ j, j < news.length → (w.cell? ⟨g, 0 + n * i.size + j, none⟩).isSome = true := fun j hj => (h9 _ (by omega)).1
        have hrun := run_append_room_src (P := P) w t t ty e i ht hi g 0 n c x m news hs hfit hthere (fun j hj => (h9 _ (by omega)).2)
        have hk := kept_setCells g news (0 + n * i.size) w
        refine ⟨_, _, hrun, ⟨hlen, hall, _, _, rfl, hfit, h4, .inr ⟨g, rfl, h6, Nat.lt_of_lt_of_le h7 hk.size, fun j u hj => ?_, fun j hj => ⟨?_, by rw [World.frozen?_setCells]; exact (h9 j hj).2⟩⟩⟩, by simpa [Value.ownBlock] using hk, .inl rfl⟩
        · by_cases hjc : j < cs.length
          · rw [List.getElem?_append_left hjc] at hj
            rw [World.cell?_setCells_out g news _ w _ (fun _ _ => .inl (by simp; omega))]
            exact h8 j u hj
          · rw [List.getElem?_append_right (by omega)] at hj
            obtain ⟨hlt, rfl⟩ := List.getElem?_eq_some_iff.1 hj
            have := World.cell?_setCells_in g news (0 + n * i.size) w hthere (j - cs.length) hlt
            rw [show 0 + n * i.size + (j - cs.length) = j by omega] at this
            exact this
        · by_cases hjin : 0 + n * i.size ≤ j ∧ j < 0 + n * i.size + news.length
          · have := World.cell?_setCells_in g news (0 + n * i.size) w hthere (j - (0 + n * i.size)) (by omega)
            rw [show 0 + n * i.size + (j - (0 + n * i.size)) = j by omega] at this
            rw [this]; rfl
          · rw [World.cell?_setCells_out g news _ w _ (fun _ _ => by simp; omega)]
            exact (h9 j hj).1
  · have hold : (Builtin.firstCells i.size n (.slice p n c)).run P w.drew = .ok cs.toArray w.drew := by
      obtain ⟨h1, h2, p', c', e', -, -, h5⟩ := id h
      cases e'
      rcases h5 with ⟨rfl, rfl⟩ | ⟨g, rfl, h6, h7, h8, h9⟩
      · obtain rfl : n = 0 := by omega
        obtain rfl : cs = [] := List.eq_nil_of_length_eq_zero (by simpa using h1)
        exact run_firstCells_none w.drew i.size 0 0 0
      · exact run_firstCells_some w.drew i.size n ⟨g, 0, none⟩ n c cs h1 (fun j u hj => by rw [add_none rfl]; simpa using h8 j u hj)
    have hg : c < n + m := by omega
    have hrun := run_append_grow_src (P := P) w t t ty e i z ht hi hz p n c cs hold x m news hs hg (by omega) (growslice_fits hg hbytes)
    have hge := grownCap_ge w (n + m) c e
    have hcm := grownCap_le_maxLen w (n + m) c e hmx
    have hsz : ((cs ++ news).toArray ++ Builtin.zeroCells z.cells (grownCap w (n + m) c e - (n + m))).size = grownCap w (n + m) c e * i.size := by
      rw [Array.size_append, List.size_toArray, hlen, size_zeroCells, hzs, ← Nat.add_mul]
      congr 1
      omega
    have hk : Kept [] w (w.drew.alloc (.cells ((cs ++ news).toArray ++ Builtin.zeroCells z.cells (grownCap w (n + m) c e - (n + m))) e)) := ((Kept.refl [] w).drew).alloc _
    refine ⟨_, _, hrun, ⟨hlen, hall, _, _, rfl, hge, hcm, .inr ⟨w.heap.size, rfl, hbase, by simp, fun j u hj => ?_, fun j hj => ⟨?_, World.frozen?_alloc_new w.drew _ _ j⟩⟩⟩, hk.mono (by simp), .inr rfl⟩
    · have e1 : (w.drew.alloc (.cells ((cs ++ news).toArray ++ Builtin.zeroCells z.cells (grownCap w (n + m) c e - (n + m))) e)).cell? ⟨w.heap.size, j, none⟩ = _ := World.cell?_alloc_new w.drew _ _ j
      have hjl := (List.getElem?_eq_some_iff.1 hj).1
      rw [e1, Array.getElem?_append_left (by simpa using hjl), List.getElem?_toArray, hj]
    · have e1 : (w.drew.alloc (.cells ((cs ++ news).toArray ++ Builtin.zeroCells z.cells (grownCap w (n + m) c e - (n + m))) e)).cell? ⟨w.heap.size, j, none⟩ = _ := World.cell?_alloc_new w.drew _ _ j
      rw [e1, Array.getElem?_eq_getElem (by rw [hsz]; exact hj)]
      rfl
theorem info_parts3 {P : Program} {e : TypeId} {z : Value} {sz by' : Nat} (h : (P.info? e).map (fun i => (i.zero, i.size, i.bytes)) = some (some z, sz, by')) : ∃ i, P.info? e = some i ∧ i.zero = some z ∧ i.size = sz ∧ i.bytes = by' := by
  obtain ⟨i, hi, h'⟩ := Option.map_eq_some_iff.1 h
  simp only [Prod.mk.injEq] at h'
  exact ⟨i, hi, h'.1, h'.2.1, h'.2.2⟩
/-- what is cut off a row behind its k-th element is a source -/
theorem Row.rest {P : Program} {w w' : World} {base sz g n c : Nat} {cs : List Value} {t e : TypeId} (ht : P.underlying t = some (.slice e)) (h : Row w base sz (.slice (some ⟨g, 0, none⟩) n c) n cs) (hc : ∀ (j : Nat) u, cs[j]? = some u → w'.cell? ⟨g, j, none⟩ = some u) (k : Nat) (hk : k ≤ n) (sa : Option Addr)
    (hsa : sa = if c = k then some ⟨g, 0, none⟩ else Option.map (fun x : Addr => x.add (k * sz)) (some ⟨g, 0, none⟩)) : Src P sz t (.slice sa (n - k) (c - k)) (n - k) (cs.drop (k * sz)) w' := by
  obtain ⟨h1, h2, p', c', e', h3, h4, h5⟩ := h
  cases e'
  have hl : (cs.drop (k * sz)).length = (n - k) * sz := by rw [List.length_drop, h1, Nat.sub_mul]
  have hone : ∀ u ∈ cs.drop (k * sz), u.oneCell' = true := fun u hu => h2 u (List.mem_of_mem_drop hu)
  by_cases e : c = k
  · rw [if_pos e] at hsa
    subst hsa
    have h0 : cs.drop (k * sz) = [] := List.eq_nil_of_length_eq_zero (by rw [hl, show n - k = 0 by omega]; simp)
    exact Src.ofSlice w' ht _ _ _ _ hl (fun j u hj => by rw [h0] at hj; simp at hj) hone
  · rw [if_neg e] at hsa
    subst hsa
    refine Src.ofSlice w' ht _ _ _ _ hl (fun j u hj => ?_) hone
    rw [Go.Proofs.Ytpbcfkfhkenhpaa.add_add, add_none (a := ⟨g, 0, none⟩) rfl]
    rw [List.getElem?_drop] at hj
    simpa using hc _ u hj
/-- the same in a walk, and at a step of a region that draws its order -/
theorem wpList_append_row {P : Program} {w : World} {ops : Array Oper} {rest : List Oper} {o : Oper} {a : Act} {Q : Exit → Act → World → Prop} (hgd : o.guard = none) (s x : Operand) (t : TypeId)
    (ho : o.op = .call { callee := .builtin .append, args := #[s, x], argTypes := #[t, t] }) (base : Nat) (e : TypeId) (i : TypeInfo) (z : Value) (sz bytes : Nat) (ht : P.underlying t = some (.slice e)) (hi : P.info? e = some i) (hz : i.zero = some z) (hsize : i.size = sz) (hby : i.bytes = bytes) (hzs : z.cells.size = sz)
    (v : Value) (n : Nat) (cs : List Value) (hv : a.eval s = v) (h : Row w base sz v n cs) (xv : Value) (m : Nat) (news : List Value) (hx : a.eval x = xv) (hs : Src P sz t xv m news w) (h63 : n + m ≤ 9223372036854775807) (hmx : n + m ≤ maxLen) (hbytes : (n + m) * bytes ≤ 140737488355328) (hbase : base ≤ w.heap.size)
    (hgo : ∀ v' w', Row w' base sz v' (n + m) (cs ++ news) → Kept v.ownBlock.toList w w' → (v'.ownBlock = v.ownBlock ∨ v'.ownBlock = some w.heap.size) → wpList P ops Q rest (a.put o.dst v') w') : wpList P ops Q (o :: rest) a w := by
  refine wpList_plain hgd fun K hK => ?_
  obtain ⟨v', w', hr, k1, k2, k3⟩ := run_append_row (P := P) w base t o.type e i z sz bytes ht hi hz hsize hby hzs v n cs h xv m news hs h63 hmx hbytes hbase
  unfold Oper.wp execOp
  simp only [ho, resolve, invoke, builtin, Sem.run_bind, Sem.run_pure, Result.andThen_ok, List.map_toArray, List.map_cons, List.map_nil, hv, hx, hr]
  exact hK _ _ (hgo v' w' k1 k2 k3)
theorem step_append_row {P : Program} {w : World} {ops : Array Oper} {o : Oper} {a : Act} {K : Act → World → Prop} {Q : Exit → Act → World → Prop} {E : Prop} (hgd : o.guard = none) (s x : Operand) (t : TypeId)
    (ho : o.op = .call { callee := .builtin .append, args := #[s, x], argTypes := #[t, t] }) (base : Nat) (e : TypeId) (i : TypeInfo) (z : Value) (sz bytes : Nat) (ht : P.underlying t = some (.slice e)) (hi : P.info? e = some i) (hz : i.zero = some z) (hsize : i.size = sz) (hby : i.bytes = bytes) (hzs : z.cells.size = sz)
    (v : Value) (n : Nat) (cs : List Value) (hv : a.eval s = v) (h : Row w base sz v n cs) (xv : Value) (m : Nat) (news : List Value) (hx : a.eval x = xv) (hs : Src P sz t xv m news w) (h63 : n + m ≤ 9223372036854775807) (hmx : n + m ≤ maxLen) (hbytes : (n + m) * bytes ≤ 140737488355328) (hbase : base ≤ w.heap.size)
    (hgo : ∀ v' w', Row w' base sz v' (n + m) (cs ++ news) → Kept v.ownBlock.toList w w' → (v'.ownBlock = v.ownBlock ∨ v'.ownBlock = some w.heap.size) → K (a.put o.dst v') w') :
    if Region.wanted o (yielded ops a.tmps) = true then Oper.wp P o a w K Q else E := by
  have hw : Region.wanted o (yielded ops a.tmps) = true := by simp [Region.wanted, hgd]
  rw [if_pos hw]
  obtain ⟨v', w', hr, k1, k2, k3⟩ := run_append_row (P := P) w base t o.type e i z sz bytes ht hi hz hsize hby hzs v n cs h xv m news hs h63 hmx hbytes hbase
  unfold Oper.wp execOp
  simp only [ho, resolve, invoke, builtin, Sem.run_bind, Sem.run_pure, Result.andThen_ok, List.map_toArray, List.map_cons, List.map_nil, hv, hx, hr]
  exact hgo v' w' k1 k2 k3
/-- 'l[k:]' and 'l[:k:k]', of elements of several cells -/
theorem run_cut_from_sz {P : Program} (w : World) (t e : TypeId) (sz : Nat) (hu : P.underlying t = some (.slice e)) (hsz : (P.info? e).map (·.size) = some sz) (p : Option Addr) (n c k : Nat) (hk : k ≤ n) :
    (Instr.slice t (.slice p n c) (some (.int .i64 (k : Int))) none none).run P w = .ok (.slice (if c = k then p else p.map (·.add (k * sz))) (n - k) (c - k)) w := by
  obtain ⟨i, hi, hs⟩ := Option.map_eq_some_iff.1 hsz
  simp [Instr.slice, run_underlying hu, Instr.sliceBounds, run_sliceBound, sizeOf, typeInfo, hi, hs, (by omega : (k : Int) ≤ (n : Int))]
theorem run_cut_tight {P : Program} (w : World) (t e : TypeId) (sz : Nat) (hu : P.underlying t = some (.slice e)) (hsz : (P.info? e).map (·.size) = some sz) (p : Option Addr) (n c k : Nat) (hk : k ≤ c) :
    (Instr.slice t (.slice p n c) none (some (.int .i64 (k : Int))) (some (.int .i64 (k : Int)))).run P w = .ok (.slice p k k) w := by
  obtain ⟨i, hi, hs⟩ := Option.map_eq_some_iff.1 hsz
  simp [Instr.slice, run_underlying hu, Instr.sliceBounds, run_sliceBound, sizeOf, typeInfo, hi, (by omega : (k : Int) ≤ (c : Int))]
  intro _
  cases p with
  | none => rfl
  | some a =>
    obtain ⟨b, o, s⟩ := a
    cases s <;> simp [Addr.add]
end Go.Proofs.Ytpbcfkfhkenhpaa

/-
  OWN WORK. 'append' of elements of several cells, as in Rows3, that says besides: on a new block the old one stays as it was.
-/
namespace Go.Proofs.Ytpbcfkfhkenhpaa
open Go.RowKit
/-- 'append(l, x...)' -/
theorem run_append_row2 {P : Program} (w : World) (base : Nat) (t ty e : TypeId) (i : TypeInfo) (z : Value) (sz bytes : Nat) (ht : P.underlying t = some (.slice e)) (hi : P.info? e = some i) (hz : i.zero = some z) (hsize : i.size = sz) (hby : i.bytes = bytes) (hzs : z.cells.size = sz)
    (v : Value) (n : Nat) (cs : List Value) (h : Row w base sz v n cs) (x : Value) (m : Nat) (news : List Value) (hs : Src P sz t x m news w) (h63 : n + m ≤ 9223372036854775807) (hmx : n + m ≤ maxLen) (hbytes : (n + m) * bytes ≤ 140737488355328) (hbase : base ≤ w.heap.size) :
    ∃ v' w', (Builtin.append_ #[t, t] ty #[v, x]).run P w = .ok v' w' ∧ Row w' base sz v' (n + m) (cs ++ news) ∧ Kept v.ownBlock.toList w w' ∧ (v'.ownBlock = v.ownBlock ∨ (v'.ownBlock = some w.heap.size ∧ Kept [] w w')) := by
  subst hsize
  subst hby
  have hnl := hs.newsLen
  have hall : ∀ u ∈ cs ++ news, u.oneCell' = true := by
    intro u hu
    rcases List.mem_append.1 hu with hu | hu
    · exact h.2.1 u hu
    · exact hs.one u hu
  have hlen : (cs ++ news).length = (n + m) * i.size := by rw [List.length_append, h.1, hnl, Nat.add_mul]
  obtain ⟨p, c, rfl, h3, h4⟩ := h.shape
  by_cases hfit : n + m ≤ c
  · cases p with
    | none =>
      obtain ⟨h1, h2, p', c', e', -, -, h5⟩ := id h
      cases e'
      rcases h5 with ⟨-, rfl⟩ | ⟨g, e, -⟩
      · obtain rfl : n = 0 := by omega
        obtain rfl : m = 0 := by omega
        obtain rfl : news = [] := List.eq_nil_of_length_eq_zero (by simpa using hnl)
        exact ⟨_, _, run_append_nothing (P := P) w t t ty e i ht hi none 0 0 (Nat.le_refl _) x hs, by simpa using h, Kept.refl _ _, .inl rfl⟩
      · cases e
    | some a =>
      obtain ⟨h1, h2, p', c', e', -, -, h5⟩ := id h
      cases e'
      rcases h5 with ⟨e, -⟩ | ⟨g, e, h6, h7, h8, h9⟩
      · cases e
      · cases e
        have hm : n * i.size + m * i.size ≤ c * i.size := by rw [← Nat.add_mul]; exact Nat.mul_le_mul_right _ hfit
        have hthere : ∀ j, j < news.length → (w.cell? ⟨g, 0 + n * i.size + j, none⟩).isSome = true := fun j hj => (h9 _ (by omega)).1
        have hrun := run_append_room_src (P := P) w t t ty e i ht hi g 0 n c x m news hs hfit hthere (fun j hj => (h9 _ (by omega)).2)
        have hk := kept_setCells g news (0 + n * i.size) w
        refine ⟨_, _, hrun, ⟨hlen, hall, _, _, rfl, hfit, h4, .inr ⟨g, rfl, h6, Nat.lt_of_lt_of_le h7 hk.size, fun j u hj => ?_, fun j hj => ⟨?_, by rw [World.frozen?_setCells]; exact (h9 j hj).2⟩⟩⟩, by simpa [Value.ownBlock] using hk, .inl rfl⟩
        · by_cases hjc : j < cs.length
          · rw [List.getElem?_append_left hjc] at hj
            rw [World.cell?_setCells_out g news _ w _ (fun _ _ => .inl (by simp; omega))]
            exact h8 j u hj
          · rw [List.getElem?_append_right (by omega)] at hj
            obtain ⟨hlt, rfl⟩ := List.getElem?_eq_some_iff.1 hj
            have := World.cell?_setCells_in g news (0 + n * i.size) w hthere (j - cs.length) hlt
            rw [show 0 + n * i.size + (j - cs.length) = j by omega] at this
            exact this
        · by_cases hjin : 0 + n * i.size ≤ j ∧ j < 0 + n * i.size + news.length
          · have := World.cell?_setCells_in g news (0 + n * i.size) w hthere (j - (0 + n * i.size)) (by omega)
            rw [show 0 + n * i.size + (j - (0 + n * i.size)) = j by omega] at this
            rw [this]; rfl
          · rw [World.cell?_setCells_out g news _ w _ (fun _ _ => by simp; omega)]
            exact (h9 j hj).1
  · have hold : (Builtin.firstCells i.size n (.slice p n c)).run P w.drew = .ok cs.toArray w.drew := by
      obtain ⟨h1, h2, p', c', e', -, -, h5⟩ := id h
      cases e'
      rcases h5 with ⟨rfl, rfl⟩ | ⟨g, rfl, h6, h7, h8, h9⟩
      · obtain rfl : n = 0 := by omega
        obtain rfl : cs = [] := List.eq_nil_of_length_eq_zero (by simpa using h1)
        exact run_firstCells_none w.drew i.size 0 0 0
      · exact run_firstCells_some w.drew i.size n ⟨g, 0, none⟩ n c cs h1 (fun j u hj => by rw [add_none rfl]; simpa using h8 j u hj)
    have hg : c < n + m := by omega
    have hrun := run_append_grow_src (P := P) w t t ty e i z ht hi hz p n c cs hold x m news hs hg (by omega) (growslice_fits hg hbytes)
    have hge := grownCap_ge w (n + m) c e
    have hcm := grownCap_le_maxLen w (n + m) c e hmx
    have hsz : ((cs ++ news).toArray ++ Builtin.zeroCells z.cells (grownCap w (n + m) c e - (n + m))).size = grownCap w (n + m) c e * i.size := by
      rw [Array.size_append, List.size_toArray, hlen, size_zeroCells, hzs, ← Nat.add_mul]
      congr 1
      omega
    have hk : Kept [] w (w.drew.alloc (.cells ((cs ++ news).toArray ++ Builtin.zeroCells z.cells (grownCap w (n + m) c e - (n + m))) e)) := ((Kept.refl [] w).drew).alloc _
    refine ⟨_, _, hrun, ⟨hlen, hall, _, _, rfl, hge, hcm, .inr ⟨w.heap.size, rfl, hbase, by simp, fun j u hj => ?_, fun j hj => ⟨?_, World.frozen?_alloc_new w.drew _ _ j⟩⟩⟩, hk.mono (by simp), .inr ⟨rfl, hk⟩⟩
    · have e1 : (w.drew.alloc (.cells ((cs ++ news).toArray ++ Builtin.zeroCells z.cells (grownCap w (n + m) c e - (n + m))) e)).cell? ⟨w.heap.size, j, none⟩ = _ := World.cell?_alloc_new w.drew _ _ j
      have hjl := (List.getElem?_eq_some_iff.1 hj).1
      rw [e1, Array.getElem?_append_left (by simpa using hjl), List.getElem?_toArray, hj]
    · have e1 : (w.drew.alloc (.cells ((cs ++ news).toArray ++ Builtin.zeroCells z.cells (grownCap w (n + m) c e - (n + m))) e)).cell? ⟨w.heap.size, j, none⟩ = _ := World.cell?_alloc_new w.drew _ _ j
      rw [e1, Array.getElem?_eq_getElem (by rw [hsz]; exact hj)]
      rfl
theorem wpList_append_row2 {P : Program} {w : World} {ops : Array Oper} {rest : List Oper} {o : Oper} {a : Act} {Q : Exit → Act → World → Prop} (hgd : o.guard = none) (s x : Operand) (t : TypeId)
    (ho : o.op = .call { callee := .builtin .append, args := #[s, x], argTypes := #[t, t] }) (base : Nat) (e : TypeId) (i : TypeInfo) (z : Value) (sz bytes : Nat) (ht : P.underlying t = some (.slice e)) (hi : P.info? e = some i) (hz : i.zero = some z) (hsize : i.size = sz) (hby : i.bytes = bytes) (hzs : z.cells.size = sz)
    (v : Value) (n : Nat) (cs : List Value) (hv : a.eval s = v) (h : Row w base sz v n cs) (xv : Value) (m : Nat) (news : List Value) (hx : a.eval x = xv) (hs : Src P sz t xv m news w) (h63 : n + m ≤ 9223372036854775807) (hmx : n + m ≤ maxLen) (hbytes : (n + m) * bytes ≤ 140737488355328) (hbase : base ≤ w.heap.size)
    (hgo : ∀ v' w', Row w' base sz v' (n + m) (cs ++ news) → Kept v.ownBlock.toList w w' → (v'.ownBlock = v.ownBlock ∨ (v'.ownBlock = some w.heap.size ∧ Kept [] w w')) → wpList P ops Q rest (a.put o.dst v') w') : wpList P ops Q (o :: rest) a w := by
  refine wpList_plain hgd fun K hK => ?_
  obtain ⟨v', w', hr, k1, k2, k3⟩ := run_append_row2 (P := P) w base t o.type e i z sz bytes ht hi hz hsize hby hzs v n cs h xv m news hs h63 hmx hbytes hbase
  unfold Oper.wp execOp
  simp only [ho, resolve, invoke, builtin, Sem.run_bind, Sem.run_pure, Result.andThen_ok, List.map_toArray, List.map_cons, List.map_nil, hv, hx, hr]
  exact hK _ _ (hgo v' w' k1 k2 k3)
theorem step_append_row2 {P : Program} {w : World} {ops : Array Oper} {o : Oper} {a : Act} {K : Act → World → Prop} {Q : Exit → Act → World → Prop} {E : Prop} (hgd : o.guard = none) (s x : Operand) (t : TypeId)
    (ho : o.op = .call { callee := .builtin .append, args := #[s, x], argTypes := #[t, t] }) (base : Nat) (e : TypeId) (i : TypeInfo) (z : Value) (sz bytes : Nat) (ht : P.underlying t = some (.slice e)) (hi : P.info? e = some i) (hz : i.zero = some z) (hsize : i.size = sz) (hby : i.bytes = bytes) (hzs : z.cells.size = sz)
    (v : Value) (n : Nat) (cs : List Value) (hv : a.eval s = v) (h : Row w base sz v n cs) (xv : Value) (m : Nat) (news : List Value) (hx : a.eval x = xv) (hs : Src P sz t xv m news w) (h63 : n + m ≤ 9223372036854775807) (hmx : n + m ≤ maxLen) (hbytes : (n + m) * bytes ≤ 140737488355328) (hbase : base ≤ w.heap.size)
    (hgo : ∀ v' w', Row w' base sz v' (n + m) (cs ++ news) → Kept v.ownBlock.toList w w' → (v'.ownBlock = v.ownBlock ∨ (v'.ownBlock = some w.heap.size ∧ Kept [] w w')) → K (a.put o.dst v') w') :
    if Region.wanted o (yielded ops a.tmps) = true then Oper.wp P o a w K Q else E := by
  have hw : Region.wanted o (yielded ops a.tmps) = true := by simp [Region.wanted, hgd]
  rw [if_pos hw]
  obtain ⟨v', w', hr, k1, k2, k3⟩ := run_append_row2 (P := P) w base t o.type e i z sz bytes ht hi hz hsize hby hzs v n cs h xv m news hs h63 hmx hbytes hbase
  unfold Oper.wp execOp
  simp only [ho, resolve, invoke, builtin, Sem.run_bind, Sem.run_pure, Result.andThen_ok, List.map_toArray, List.map_cons, List.map_nil, hv, hx, hr]
  exact hgo v' w' k1 k2 k3
end Go.Proofs.Ytpbcfkfhkenhpaa

/-
  OWN WORK. A region that draws its order and ends with a store into a cell that it read: the reads may be taken first, and the store need keep nothing.
-/
namespace Go.Proofs.Ytpbcfkfhkenhpaa
open Go.RowKit
set_option linter.unusedVariables false

section
variable {P : Program} {ops : Array Oper} {Q : Exit → Act → World → Prop} {md : Region.Mode} {S : World → Prop} {z : Nat}

/-- whatever order is picked: S holds behind every operation but number z -/
def wpAnyZ (P : Program) (md : Region.Mode) (ops : Array Oper) (Q : Exit → Act → World → Prop) (S : World → Prop) (z : Nat) : Nat → Array Bool → Act → World → Prop
  | 0, listed, a, w => Region.ready md ops listed = [] ∧ Q .normal a w
  | n + 1, listed, a, w =>
    (Region.ready md ops listed = [] → Q .normal a w) ∧
      ∀ i ∈ Region.ready md ops listed, wpOp P ops Q i (fun a' w' => (i ≠ z → S w') ∧ wpAnyZ P md ops Q S z n (listed.setIfInBounds i true) a' w') a w
theorem wpAnyZ_any : ∀ (n : Nat) (listed : Array Bool) (a : Act) (w : World), wpAnyZ P md ops Q S z n listed a w → wpAny P md ops Q n listed a w
  | 0, _, _, _, h => h
  | n + 1, _, _, _, h => ⟨h.1, fun i hi => wpOp_mono (fun a' w' h' => wpAnyZ_any n _ a' w' h'.2) (h.2 i hi)⟩
/-- number z waits for number i -/
def waits (md : Region.Mode) (ops : Array Oper) (z i : Nat) : Bool := match ops[z]? with
  | some o => o.after.any fun e => Region.binds md e && e.on == i
  | none => true
theorem waits_ready {i : Nat} {listed : Array Bool} (h : waits md ops z i = true) (hi : listed.getD i false = false) : z ∉ Region.ready md ops listed := fun hm => by
  obtain ⟨-, o, ho, hall⟩ := mem_ready.1 hm
  unfold waits at h
  rw [ho] at h
  obtain ⟨k, hk, he⟩ := Array.any_eq_true.1 h
  simp at he
  have := hall (o.after[k]) (Array.getElem_mem hk) he.1
  rw [he.2, hi] at this
  cases this
theorem wpAnyZ_first {i : Nat} {oi : Oper} {v : Value} (hi : ops[i]? = some oi) (hsel : ∀ (j : Nat) (o : Oper) cs b, ops[j]? = some o → o.op ≠ .select cs b)
    (hQ : ∀ c a w, Q (.panic c) (a.put oi.dst v) w → Q (.panic c) a w) (hz : waits md ops z i = true) :
    ∀ (n : Nat) (listed : Array Bool) (a : Act) (w : World),
      (∀ j oj, ops[j]? = some oj → j ≠ i → listed.getD j true = false → (∀ e ∈ oj.after, Region.binds md e = true → e.on ≠ i) → oi.apart ops oj = true) →
      i ∈ Region.ready md ops listed → YieldsIf P ops S oi v a → S w →
      wpAnyZ P md ops Q S z n (listed.setIfInBounds i true) (a.put oi.dst v) w → wpAnyZ P md ops Q S z (n + 1) listed a w := by
  intro n
  induction n with
  | zero =>
    intro listed a w _ hr hy hS H
    refine ⟨fun h => (by rw [h] at hr; cases hr), fun j hj => ?_⟩
    by_cases e : j = i
    · subst e; exact hy.wpOp hi hS ⟨fun _ => hS, H⟩
    · have := ready_mono hj e
      rw [H.1] at this
      cases this
  | succ n ih =>
    intro listed a w hfree hr hy hS H
    have hun := (mem_ready.1 hr).1
    have hunf : listed.getD i false = false := by
      rcases Nat.lt_or_ge i listed.size with c | c
      · simp [c] at hun ⊢; exact hun
      · simp [c]
    refine ⟨fun h => (by rw [h] at hr; cases hr), fun j hj => ?_⟩
    by_cases e : j = i
    · subst e; exact hy.wpOp hi hS ⟨fun _ => hS, H⟩
    · have hjz : j ≠ z := fun c => waits_ready hz hunf (c ▸ hj)
      obtain ⟨hju, oj, hoj, hall⟩ := mem_ready.1 hj
      have hno : ∀ e ∈ oj.after, Region.binds md e = true → e.on ≠ i := fun e he hb c => by
        have := hall e he hb
        rw [c, hunf] at this
        cases this
      have h2 := wpOp_putIf hoj (hfree j oj hoj e hju hno) (fun cs b => hsel i oi cs b hi) (fun cs b => hsel j oj cs b hoj) hQ hy (H.2 j (ready_mono hj e))
      have hfree2 : ∀ k ok, ops[k]? = some ok → k ≠ i → (listed.setIfInBounds j true).getD k true = false → (∀ e ∈ ok.after, Region.binds md e = true → e.on ≠ i) → oi.apart ops ok = true := fun k ok hk hki hkj hnk => by
        by_cases c : j = k
        · subst c; exact hfree j ok hk hki hju hnk
        · exact hfree k ok hk hki (by rwa [getD_set_ne true c] at hkj) hnk
      refine wpOp_mono (fun a' w' h3 => ⟨h3.2.1, ih (listed.setIfInBounds j true) a' w' hfree2 (ready_mono hr (Ne.symm e)) h3.1 (h3.2.1 hjz) ?_⟩) h2
      rw [Array.setIfInBounds_comm _ _ e]
      exact h3.2.2
/-- take number i first -/
theorem wpAnyZ_take (i : Nat) {oi : Oper} {v : Value} {n : Nat} {listed : Array Bool} {a : Act} {w : World} (hi : ops[i]? = some oi)
    (hs : Region.noSelect ops = true) (hz : waits md ops z i = true) (hf : Region.free md ops listed i = true) (hr : (Region.ready md ops listed).contains i = true)
    (hQ : ∀ c a w, Q (.panic c) (a.put oi.dst v) w → Q (.panic c) a w) (hw : Region.wanted oi (yielded ops a.tmps) = true) (hy : ∀ w, S w → (execOp a.eval oi).run P w = .ok (.value v) w) (hS : S w)
    (h : wpAnyZ P md ops Q S z n (listed.setIfInBounds i true) (a.put oi.dst v) w) : wpAnyZ P md ops Q S z (n + 1) listed a w :=
  wpAnyZ_first hi (Region.noSelect_spec hs) hQ hz n listed a w (Region.free_spec hi hf) (by simpa using hr) (.inl ⟨hw, hy⟩) hS h
/-- only number i may come up -/
theorem wpAnyZ_one (i : Nat) {oi : Oper} {n : Nat} {listed : Array Bool} {a : Act} {w : World} (hi : ops[i]? = some oi) (hr : Region.ready md ops listed = [i])
    (h : ∀ K : Act → World → Prop, (∀ a' w', (i ≠ z → S w') → wpAnyZ P md ops Q S z n (listed.setIfInBounds i true) a' w' → K a' w') → if Region.wanted oi (yielded ops a.tmps) = true then Oper.wp P oi a w K Q else K (a.put oi.dst undef) w) : wpAnyZ P md ops Q S z (n + 1) listed a w := by
  refine ⟨fun c => absurd (hr.symm.trans c) (by simp), fun j hj => ?_⟩
  rw [hr] at hj
  simp at hj
  subst hj
  exact wpOp_step hi fun K hK => h K fun a' w' h1 h2 => hK a' w' ⟨h1, h2⟩
theorem wpAnyZ_done {listed : Array Bool} {a : Act} {w : World} (hr : Region.ready md ops listed = []) (h : Q .normal a w) : ∀ n, wpAnyZ P md ops Q S z n listed a w
  | 0 => ⟨hr, h⟩
  | _ + 1 => ⟨fun _ => h, by rw [hr]; simp⟩
theorem wp_region_late (S : World → Prop) (z : Nat) {id : Nat} {a : Act} {w : World} (hm : P.follows .mixedOrders = true)
    (h : wpAnyZ P .any ops Q S z ops.size (Array.replicate ops.size false) a w.drew) : (Code.region id ops true).wp P Q a w :=
  wp_region_any hm (wpAnyZ_any _ _ _ _ h)
end
end Go.Proofs.Ytpbcfkfhkenhpaa

/-
  OWN WORK. What must be kept free (layer 17): how the document's Room lies in memory.
-/
namespace Go.Proofs.Ytpbcfkfhkenhpaa
open Go.RowKit
set_option linter.unusedVariables false

theorem hideH {p : Prop} (h : p) : Hid p := h
def I64 (x : Int) : Prop := -9223372036854775808 ≤ x ∧ x < 9223372036854775808
theorem wrap_i64_of {x : Int} (h1 : -9223372036854775808 ≤ x) (h2 : x < 9223372036854775808) : IntKind.i64.wrap x = x := by rw [IntKind.wrap_i64]; omega
/-- block g holds just these cells -/
def Blk (w : World) (g : Nat) (t : TypeId) (cs : List Value) : Prop := w.heap[g]? = some (.cells cs.toArray t (0, 0))
theorem Blk.new (w : World) (t : TypeId) (cs : List Value) : Blk (w.alloc (.cells cs.toArray t)) w.heap.size t cs := heap_alloc_new w _
theorem Blk.lt {w : World} {g : Nat} {t : TypeId} {cs : List Value} (h : Blk w g t cs) : g < w.heap.size := (Array.getElem?_eq_some_iff.1 h).1
theorem Blk.cell {w : World} {g : Nat} {t : TypeId} {cs : List Value} (h : Blk w g t cs) {j : Nat} {v : Value} (hj : cs[j]? = some v) : w.cell? ⟨g, j, none⟩ = some v := by
  have h' : w.heap[g]? = some (.cells cs.toArray t (0, 0)) := h
  simp [World.cell?, h', hj]
theorem Blk.free {w : World} {g : Nat} {t : TypeId} {cs : List Value} (h : Blk w g t cs) (j : Nat) : w.frozen? ⟨g, j, none⟩ = false := by
  have h' : w.heap[g]? = some (.cells cs.toArray t (0, 0)) := h
  simp [World.frozen?, h']
theorem Blk.kept {w w' : World} {g : Nat} {t : TypeId} {cs : List Value} {S : List Nat} (h : Blk w g t cs) (k : Kept S w w') (hS : g ∉ S) : Blk w' g t cs := (k.block g h.lt hS).trans h
theorem Blk.set {w : World} {g : Nat} {t : TypeId} {cs : List Value} (h : Blk w g t cs) (j : Nat) (v : Value) : Blk (w.setCell ⟨g, j, none⟩ v) g t (cs.set j v) ∧ Kept [g] w (w.setCell ⟨g, j, none⟩ v) := by
  have h' : w.heap[g]? = some (.cells cs.toArray t (0, 0)) := h
  refine ⟨?_, (Kept.refl [g] w).setCell (.inl (by simp)) v⟩
  simp [Blk, World.setCell, Array.getElem?_modify, h', List.setIfInBounds_toArray]
def i64s (l : List Int) : List Value := l.map (Value.int .i64)
theorem i64s_length (l : List Int) : (i64s l).length = l.length := by simp [i64s]
theorem i64s_one (l : List Int) : ∀ u ∈ i64s l, u.oneCell' = true := fun u hu => by
  obtain ⟨x, -, rfl⟩ := List.mem_map.1 hu
  rfl
theorem i64s_at {l : List Int} {j : Nat} {x : Int} (h : l[j]? = some x) : (i64s l)[j]? = some (.int .i64 x) := by simp [i64s, h]
theorem src_i64 {P : Program} (w : World) (t e : TypeId) (ht : P.underlying t = some (.slice e)) (x : Int) : Src P 1 t (.slice (some ⟨w.heap.size, 0, none⟩) 1 1) 1 [.int .i64 x] (w.alloc (.cells #[.int .i64 x] e)) := by
  refine Src.ofSlice _ ht _ _ _ _ rfl (fun j u hj => ?_) (by simp [Value.oneCell'])
  rw [add_none rfl]
  have q := (Blk.new w e [.int .i64 x]).cell hj
  simpa using q
/-- a list of numbers of one's own -/
def Ns (w : World) (base : Nat) (v : Value) (l : List Int) : Prop := Row w base 1 v l.length (i64s l)
theorem Ns.kept {w w' : World} {base : Nat} {v : Value} {l : List Int} {S : List Nat} (h : Ns w base v l) (k : Kept S w w') (hS : ∀ x, v.ownBlock = some x → x ∉ S) : Ns w' base v l := Row.kept h k hS
theorem Ns.mono {w : World} {b b' : Nat} {v : Value} {l : List Int} (h : Ns w b v l) (hb : b' ≤ b) : Ns w b' v l := Row.mono h hb
theorem Ns.nil (w : World) (base : Nat) : Ns w base (.slice none 0 0) [] := Row.nil w base 1
theorem Ns.lt {w : World} {base : Nat} {v : Value} {l : List Int} (h : Ns w base v l) {x : Nat} (hx : v.ownBlock = some x) : base ≤ x ∧ x < w.heap.size := Row.lt h x hx
theorem Ns.shape {w : World} {base : Nat} {v : Value} {l : List Int} (h : Ns w base v l) : ∃ p c, v = .slice p l.length c ∧ l.length ≤ c ∧ c ≤ maxLen := Row.shape h
theorem Ns.at {w : World} {base : Nat} {p : Option Addr} {n c : Nat} {l : List Int} (h : Ns w base (.slice p n c) l) {j : Nat} {x : Int} (hj : l[j]? = some x) : ∃ g, p = some ⟨g, 0, none⟩ ∧ base ≤ g ∧ g < w.heap.size ∧ w.cell? ⟨g, j, none⟩ = some (.int .i64 x) ∧ w.frozen? ⟨g, j, none⟩ = false := by
  have h' : Row w base 1 (.slice p n c) l.length (i64s l) := h
  obtain ⟨p', c', e, h3, h4⟩ := Row.shape h'
  cases e
  have hl := (List.getElem?_eq_some_iff.1 hj).1
  obtain ⟨g, rfl, h6, h7, h8, h9⟩ := Row.pos h' (by omega)
  exact ⟨g, rfl, h6, h7, h8 j _ (i64s_at hj), (h9 j (by omega)).2⟩
theorem own_mem {v : Value} {x : Nat} : x ∈ v.ownBlock.toList ↔ v.ownBlock = some x := by
  cases h : v.ownBlock <;> simp [eq_comm]
/-- what is new lies behind what was there -/
def Fr (w : World) (F F' : List Nat) : Prop := ∀ x ∈ F', x ∈ F ∨ w.heap.size ≤ x
theorem Fr.refl (w : World) (F : List Nat) : Fr w F F := fun x hx => .inl hx
theorem Fr.old {w w' : World} {F F' : List Nat} (h : Fr w' F F') (hs : w.heap.size ≤ w'.heap.size) : Fr w F F' := fun x hx => (h x hx).imp id (fun q => by omega)
/-- rows of two cells: a birth, and a list -/
def tcells : List (Tx × Value) → List Value
  | [] => []
  | x :: r => .int .i64 x.1.b :: x.2 :: tcells r
theorem tcells_length : ∀ (l : List (Tx × Value)), (tcells l).length = l.length * 2
  | [] => rfl
  | x :: r => by simp [tcells, tcells_length r]; omega
theorem tcells_at : ∀ {l : List (Tx × Value)} {i : Nat} {x : Tx × Value}, l[i]? = some x → (tcells l)[i * 2]? = some (.int .i64 x.1.b) ∧ (tcells l)[i * 2 + 1]? = some x.2
  | [], i, x, h => by simp at h
  | y :: r, 0, x, h => by
    simp at h
    subst h
    exact ⟨rfl, rfl⟩
  | y :: r, i + 1, x, h => by
    have := tcells_at (l := r) (i := i) (x := x) (by simpa using h)
    rw [show (i + 1) * 2 = i * 2 + 2 by omega]
    exact this
theorem tcells_append (a b : List (Tx × Value)) : tcells (a ++ b) = tcells a ++ tcells b := by
  induction a with
  | nil => rfl
  | cons x r ih => simp [tcells, ih]
theorem tcells_set : ∀ (l : List (Tx × Value)) (k : Nat) (t : Tx) (u v : Value), l[k]? = some (t, u) → ∀ l', tcells (l.set k (⟨t.b, l'⟩, v)) = (tcells l).set (k * 2 + 1) v
  | [], k, t, u, v, h, l' => by simp at h
  | y :: r, 0, t, u, v, h, l' => by simp at h; subst h; simp [tcells]
  | y :: r, k + 1, t, u, v, h, l' => by
    have q := tcells_set r k t u v (by simpa using h) l'
    rw [show (k + 1) * 2 = k * 2 + 2 by omega]
    simp only [List.set_cons_succ, tcells, q]
theorem tcells_take : ∀ (l : List (Tx × Value)) (k : Nat), (tcells l).take (k * 2) = tcells (l.take k)
  | [], k => by simp [tcells]
  | y :: r, 0 => by simp [tcells]
  | y :: r, k + 1 => by
    have q := tcells_take r k
    rw [show (k + 1) * 2 = k * 2 + 2 by omega]
    simp only [tcells, List.take_succ_cons, q]
theorem tcells_drop : ∀ (l : List (Tx × Value)) (k : Nat), (tcells l).drop (k * 2) = tcells (l.drop k)
  | [], k => by simp [tcells]
  | y :: r, 0 => by simp [tcells]
  | y :: r, k + 1 => by
    have q := tcells_drop r k
    rw [show (k + 1) * 2 = k * 2 + 2 by omega]
    simp only [tcells, List.drop_succ_cons, q]
/-- two lists share no block -/
def Ap (a b : Value) : Prop := ∀ x, a.ownBlock = some x → b.ownBlock ≠ some x
theorem Ap.symm {a b : Value} (h : Ap a b) : Ap b a := fun x hx e => h x e hx
theorem Ap.none {a b : Value} (h : b.ownBlock = none) : Ap a b := fun x hx e => by rw [h] at e; cases e
/-- the document's Room: the box at g, the list v of the transactions' rows, each with its list -/
structure RrP (w : World) (g : Nat) (a : Int) (v : Value) (P : List (Tx × Value)) : Prop where
  box : Blk w g 49 [.int .i64 a, v]
  row : Row w 0 2 v P.length (tcells P)
  ups : ∀ x ∈ P, Ns w 0 x.2 x.1.u
  apt : (v :: P.map Prod.snd).Pairwise Ap
  far : ∀ x ∈ v :: P.map Prod.snd, x.ownBlock ≠ some g
  ok : OkR (P.map Prod.fst)
def blks (g : Nat) (v : Value) (P : List (Tx × Value)) : List Nat := g :: (v :: P.map Prod.snd).filterMap Value.ownBlock
theorem mem_blks {g : Nat} {v : Value} {P : List (Tx × Value)} {x : Nat} : x ∈ blks g v P ↔ x = g ∨ ∃ u ∈ v :: P.map Prod.snd, u.ownBlock = some x := by
  unfold blks
  rw [List.mem_cons, List.mem_filterMap]
def Rr (w : World) (g : Nat) (F : List Nat) (a : Int) (T : List Tx) : Prop := ∃ v P, RrP w g a v P ∧ T = P.map Prod.fst ∧ F = blks g v P
theorem RrP.kept {w w' : World} {g : Nat} {a : Int} {v : Value} {P : List (Tx × Value)} {D : List Nat} (h : RrP w g a v P) (k : Kept D w w') (hD : ∀ x ∈ blks g v P, x ∉ D) : RrP w' g a v P :=
  ⟨h.box.kept k (hD g (mem_blks.2 (.inl rfl))), h.row.kept k (fun x hx => hD x (mem_blks.2 (.inr ⟨v, by simp, hx⟩))),
    fun y hy => (h.ups y hy).kept k (fun x hx => hD x (mem_blks.2 (.inr ⟨y.2, List.mem_cons_of_mem _ (List.mem_map_of_mem hy), hx⟩))), h.apt, h.far, h.ok⟩
theorem Rr.kept {w w' : World} {g : Nat} {F : List Nat} {a : Int} {T : List Tx} {D : List Nat} (h : Rr w g F a T) (k : Kept D w w') (hD : ∀ x ∈ F, x ∉ D) : Rr w' g F a T := by
  obtain ⟨v, P, h1, h2, rfl⟩ := h
  exact ⟨v, P, h1.kept k hD, h2, rfl⟩
theorem RrP.lt {w : World} {g : Nat} {a : Int} {v : Value} {P : List (Tx × Value)} (h : RrP w g a v P) : ∀ x ∈ blks g v P, x < w.heap.size := by
  intro x hx
  rcases mem_blks.1 hx with rfl | ⟨u, hu, hxu⟩
  · exact h.box.lt
  · rcases List.mem_cons.1 hu with rfl | hu
    · exact (h.row.lt x hxu).2
    · obtain ⟨y, hy, rfl⟩ := List.mem_map.1 hu
      exact ((h.ups y hy).lt hxu).2
theorem Rr.lt {w : World} {g : Nat} {F : List Nat} {a : Int} {T : List Tx} (h : Rr w g F a T) : ∀ x ∈ F, x < w.heap.size := by
  obtain ⟨v, P, h1, h2, rfl⟩ := h
  exact h1.lt
theorem Rr.ok {w : World} {g : Nat} {F : List Nat} {a : Int} {T : List Tx} (h : Rr w g F a T) : OkR T := by
  obtain ⟨v, P, h1, rfl, rfl⟩ := h
  exact h1.ok
/-- a row of it -/
theorem RrP.at {w : World} {g : Nat} {a : Int} {p : Option Addr} {n c : Nat} {P : List (Tx × Value)} (h : RrP w g a (.slice p n c) P) {j : Nat} {x : Tx × Value} (hj : P[j]? = some x) :
    ∃ gl, p = some ⟨gl, 0, none⟩ ∧ w.cell? ⟨gl, j * 2, none⟩ = some (.int .i64 x.1.b) ∧ w.cell? ⟨gl, j * 2 + 1, none⟩ = some x.2 ∧ w.frozen? ⟨gl, j * 2, none⟩ = false ∧ w.frozen? ⟨gl, j * 2 + 1, none⟩ = false := by
  have hjl := (List.getElem?_eq_some_iff.1 hj).1
  obtain ⟨p', c', e, h3, h4⟩ := Row.shape h.row
  cases e
  obtain ⟨gl, rfl, h6, h7, h8, h9⟩ := Row.pos h.row (by omega)
  obtain ⟨a0, a1⟩ := tcells_at hj
  exact ⟨gl, rfl, h8 _ _ a0, h8 _ _ a1, (h9 _ (by omega)).2, (h9 _ (by omega)).2⟩
theorem splitP {l : List (Tx × Value)} {k : Nat} {x : Tx × Value} (hk : l[k]? = some x) : l = l.take k ++ x :: l.drop (k + 1) := by
  obtain ⟨hl, hx⟩ := List.getElem?_eq_some_iff.1 hk
  rw [← hx, List.getElem_cons_drop]
  exact (List.take_append_drop k l).symm
/-- one row's list is another one -/
theorem RrP.set {w w8 : World} {g : Nat} {a : Int} {gl n c : Nat} {P : List (Tx × Value)} (h : RrP w g a (.slice (some ⟨gl, 0, none⟩) n c) P) {k : Nat} {t : Tx} {u u' : Value} {l' : List Int} (hk : P[k]? = some (t, u))
    (k8 : Kept u.ownBlock.toList w w8) (n8 : Ns w8 0 u' l') (hu : u'.ownBlock = u.ownBlock ∨ ∀ y, u'.ownBlock = some y → w.heap.size ≤ y) (ok : OkR (setU (P.map Prod.fst) t.b l')) :
    RrP (w8.setCell ⟨gl, k * 2 + 1, none⟩ u') g a (.slice (some ⟨gl, 0, none⟩) n c) (P.set k (⟨t.b, l'⟩, u')) ∧ (P.set k (⟨t.b, l'⟩, u')).map Prod.fst = setU (P.map Prod.fst) t.b l' ∧
      Fr w (blks g (.slice (some ⟨gl, 0, none⟩) n c) P) (blks g (.slice (some ⟨gl, 0, none⟩) n c) (P.set k (⟨t.b, l'⟩, u'))) ∧ Kept (blks g (.slice (some ⟨gl, 0, none⟩) n c) P) w (w8.setCell ⟨gl, k * 2 + 1, none⟩ u') := by
  have hkl := (List.getElem?_eq_some_iff.1 hk).1
  have es := splitP hk
  have eP' : P.set k (⟨t.b, l'⟩, u') = P.take k ++ (⟨t.b, l'⟩, u') :: P.drop (k + 1) := by rw [List.set_eq_take_append_cons_drop, if_pos hkl]
  have hmap : (P.set k (⟨t.b, l'⟩, u')).map Prod.fst = setU (P.map Prod.fst) t.b l' := by
    have hk' : (P.map Prod.fst)[k]? = some t := by rw [List.getElem?_map, hk]; rfl
    rw [List.map_set, setU_at h.ok.dif hk']
  have hown : (Value.slice (some ⟨gl, 0, none⟩) n c).ownBlock = some gl := rfl
  have hpm : (t, u) ∈ P := List.mem_of_getElem? hk
  have hum : u ∈ P.map Prod.snd := List.mem_map.2 ⟨_, hpm, rfl⟩
  have hglt : gl < w.heap.size := (h.row.lt gl hown).2
  have hulg : ∀ y, u.ownBlock = some y → y ≠ gl := fun y hy e => (List.pairwise_cons.1 h.apt).1 u hum gl hown (by rw [hy, e])
  have hglu : gl ∉ u.ownBlock.toList := fun hm => hulg gl (own_mem.1 hm) rfl
  have hugl : ∀ y, u'.ownBlock = some y → y ≠ gl := fun y hy e => by
    rcases hu with q | q
    · exact hulg y (by rw [← q]; exact hy) e
    · have := q y hy; omega
  have hgg : gl ≠ g := fun e => h.far _ (List.mem_cons_self ..) (by rw [hown, e])
  have hgu : g ∉ u.ownBlock.toList := fun hm => h.far u (List.mem_cons_of_mem _ hum) (own_mem.1 hm)
  have r8 := h.row.kept k8 (fun x hx hm => by rw [hown] at hx; cases hx; exact hglu hm)
  obtain ⟨p', c', e, -, -⟩ := Row.shape r8
  cases e
  have hone : u'.oneCell' = true := by obtain ⟨p, c, e, -⟩ := n8.shape; rw [e]; rfl
  obtain ⟨r9, k9⟩ := r8.set (k * 2 + 1) (by omega) u' hone
  have hub : ∀ y, u'.ownBlock = some y → u.ownBlock = some y ∨ w.heap.size ≤ y := fun y hy => by
    rcases hu with q | q
    · exact .inl (by rw [← q]; exact hy)
    · exact .inr (q y hy)
  have hother : ∀ x ∈ P.take k ++ P.drop (k + 1), Ap u x.2 ∧ Ns w 0 x.2 x.1.u ∧ (∀ y, x.2.ownBlock = some y → y ≠ gl) ∧ x ∈ P := by
    have hp := (List.pairwise_cons.1 h.apt).2
    rw [es, List.map_append, List.map_cons, List.pairwise_append, List.pairwise_cons] at hp
    intro x hx
    have hxP : x ∈ P := by
      rcases List.mem_append.1 hx with hx | hx
      · exact List.mem_of_mem_take hx
      · exact List.mem_of_mem_drop hx
    refine ⟨?_, h.ups x hxP, fun y hy e => (List.pairwise_cons.1 h.apt).1 x.2 (List.mem_map_of_mem hxP) gl hown (by rw [hy, e]), hxP⟩
    rcases List.mem_append.1 hx with hx | hx
    · exact (hp.2.2 x.2 (List.mem_map_of_mem hx) u (by simp)).symm
    · exact hp.2.1.1 x.2 (List.mem_map_of_mem hx)
  have hap' : ∀ x ∈ P.take k ++ P.drop (k + 1), Ap u' x.2 := fun x hx y hy e => by
    obtain ⟨q1, q2, -, -⟩ := hother x hx
    rcases hub y hy with q | q
    · exact q1 y q e
    · have := (q2.lt e).2; omega
  refine ⟨⟨?_, ?_, ?_, ?_, ?_, by rw [hmap]; exact ok⟩, hmap, ?_, ?_⟩
  · exact (h.box.kept k8 hgu).kept k9 (by simp; exact fun e => hgg e.symm)
  · rw [List.length_set, tcells_set P k t u u' hk l']
    exact r9
  · intro x hx
    rw [eP'] at hx
    rcases List.mem_append.1 hx with hx | hx
    · obtain ⟨q1, q2, q3, -⟩ := hother x (List.mem_append_left _ hx)
      exact (q2.kept k8 (fun y hy hm => q1 y (own_mem.1 hm) hy)).kept k9 (fun y hy hm => q3 y hy (by simpa using hm))
    · rcases List.mem_cons.1 hx with rfl | hx
      · exact n8.kept k9 (fun y hy hm => hugl y hy (by simpa using hm))
      · obtain ⟨q1, q2, q3, -⟩ := hother x (List.mem_append_right _ hx)
        exact (q2.kept k8 (fun y hy hm => q1 y (own_mem.1 hm) hy)).kept k9 (fun y hy hm => q3 y hy (by simpa using hm))
  · have hp := h.apt
    rw [eP']
    rw [es, List.map_append, List.map_cons, List.pairwise_cons, List.pairwise_append, List.pairwise_cons] at hp
    rw [List.map_append, List.map_cons, List.pairwise_cons, List.pairwise_append, List.pairwise_cons]
    refine ⟨fun x hx => ?_, hp.2.1, ⟨fun x hx => ?_, hp.2.2.1.2⟩, fun x hx y hy => ?_⟩
    · rcases List.mem_append.1 hx with q | q
      · exact hp.1 x (List.mem_append_left _ q)
      · rcases List.mem_cons.1 q with rfl | q
        · exact fun y hy e => hugl y e (by rw [hown] at hy; cases hy; rfl)
        · exact hp.1 x (List.mem_append_right _ (List.mem_cons_of_mem _ q))
    · obtain ⟨z, hz, rfl⟩ := List.mem_map.1 hx
      exact hap' z (List.mem_append_right _ hz)
    · rcases List.mem_cons.1 hy with rfl | hy
      · obtain ⟨z, hz, rfl⟩ := List.mem_map.1 hx
        exact (hap' z (List.mem_append_left _ hz)).symm
      · exact hp.2.2.2 x hx y (List.mem_cons_of_mem _ hy)
  · intro x hx e
    rw [eP'] at hx
    rcases List.mem_cons.1 hx with rfl | hx
    · exact h.far _ (by simp) e
    · obtain ⟨z, hz, rfl⟩ := List.mem_map.1 hx
      rcases List.mem_append.1 hz with q | q
      · exact h.far z.2 (List.mem_cons_of_mem _ (List.mem_map_of_mem (List.mem_of_mem_take q))) e
      · rcases List.mem_cons.1 q with rfl | q
        · rcases hub g e with q | q
          · exact h.far u (List.mem_cons_of_mem _ hum) q
          · have := h.box.lt; omega
        · exact h.far z.2 (List.mem_cons_of_mem _ (List.mem_map_of_mem (List.mem_of_mem_drop q))) e
  · intro x hx
    rcases mem_blks.1 hx with rfl | ⟨y, hy, hxy⟩
    · exact .inl (mem_blks.2 (.inl rfl))
    · rw [eP'] at hy
      rcases List.mem_cons.1 hy with rfl | hy
      · exact .inl (mem_blks.2 (.inr ⟨_, by simp, hxy⟩))
      · obtain ⟨z, hz, rfl⟩ := List.mem_map.1 hy
        rcases List.mem_append.1 hz with q | q
        · exact .inl (mem_blks.2 (.inr ⟨z.2, List.mem_cons_of_mem _ (List.mem_map_of_mem (List.mem_of_mem_take q)), hxy⟩))
        · rcases List.mem_cons.1 q with rfl | q
          · rcases hub x hxy with q | q
            · exact .inl (mem_blks.2 (.inr ⟨u, List.mem_cons_of_mem _ hum, q⟩))
            · exact .inr q
          · exact .inl (mem_blks.2 (.inr ⟨z.2, List.mem_cons_of_mem _ (List.mem_map_of_mem (List.mem_of_mem_drop q)), hxy⟩))
  · refine (k8.mono (fun x hx => mem_blks.2 (.inr ⟨u, List.mem_cons_of_mem _ hum, own_mem.1 hx⟩))).trans k9 (fun x hx => .inl (mem_blks.2 (.inr ⟨_, List.mem_cons_self .., by simp at hx; rw [hx, hown]⟩)))
/-- the list of the rows is another one -/
theorem RrP.list {w w8 : World} {g : Nat} {a : Int} {v v' : Value} {P P' : List (Tx × Value)} (h : RrP w g a v P) (k8 : Kept v.ownBlock.toList w w8) (r8 : Row w8 0 2 v' P'.length (tcells P'))
    (hv : v'.ownBlock = v.ownBlock ∨ ∀ y, v'.ownBlock = some y → w.heap.size ≤ y) (hP : ∀ x ∈ P', x ∈ P ∨ (x.2 = .slice none 0 0 ∧ x.1.u = [])) (hpw : (P'.map Prod.snd).Pairwise Ap) (ok : OkR (P'.map Prod.fst)) :
    Blk w8 g 49 [.int .i64 a, v] ∧ RrP (w8.setCell ⟨g, 1, none⟩ v') g a v' P' ∧ Fr w (blks g v P) (blks g v' P') ∧ Kept (blks g v P) w (w8.setCell ⟨g, 1, none⟩ v') := by
  have hgv : ∀ y, v.ownBlock = some y → y ≠ g := fun y hy e => h.far v (by simp) (by rw [hy, e])
  have B8 := h.box.kept k8 (fun hm => hgv g (own_mem.1 hm) rfl)
  obtain ⟨B9, k9⟩ := B8.set 1 v'
  have hvb : ∀ y, v'.ownBlock = some y → v.ownBlock = some y ∨ w.heap.size ≤ y := fun y hy => by
    rcases hv with q | q
    · exact .inl (by rw [← q]; exact hy)
    · exact .inr (q y hy)
  have hv'g : ∀ y, v'.ownBlock = some y → y ≠ g := fun y hy e => by
    rcases hvb y hy with q | q
    · exact hgv y q e
    · have := h.box.lt; omega
  have hvx : ∀ x ∈ P, Ap v x.2 := fun x hx => (List.pairwise_cons.1 h.apt).1 x.2 (List.mem_map_of_mem hx)
  have hown : ∀ x ∈ P', x ∈ P ∨ x.2.ownBlock = none := fun x hx => (hP x hx).imp id (fun q => by rw [q.1]; rfl)
  refine ⟨B8, ⟨B9, r8.kept k9 (fun y hy hm => hv'g y hy (by simpa using hm)), fun x hx => ?_, ?_, ?_, ok⟩, ?_, ?_⟩
  · rcases hP x hx with q | ⟨q1, q2⟩
    · exact ((h.ups x q).kept k8 (fun y hy hm => hvx x q y (own_mem.1 hm) hy)).kept k9 (fun y hy hm => h.far x.2 (List.mem_cons_of_mem _ (List.mem_map_of_mem q)) (by simp at hm; rw [hy, hm]))
    · rw [q1, q2]; exact Ns.nil _ _
  · rw [List.pairwise_cons]
    refine ⟨fun x hx y hy e => ?_, hpw⟩
    obtain ⟨z, hz, rfl⟩ := List.mem_map.1 hx
    rcases hown z hz with q | q
    · rcases hvb y hy with c | c
      · exact hvx z q y c e
      · have := ((h.ups z q).lt e).2; omega
    · rw [q] at e; cases e
  · intro x hx e
    rcases List.mem_cons.1 hx with rfl | hx
    · exact hv'g g e rfl
    · obtain ⟨z, hz, rfl⟩ := List.mem_map.1 hx
      rcases hown z hz with q | q
      · exact h.far z.2 (List.mem_cons_of_mem _ (List.mem_map_of_mem q)) e
      · rw [q] at e; cases e
  · intro x hx
    rcases mem_blks.1 hx with rfl | ⟨y, hy, hxy⟩
    · exact .inl (mem_blks.2 (.inl rfl))
    · rcases List.mem_cons.1 hy with rfl | hy
      · rcases hvb x hxy with q | q
        · exact .inl (mem_blks.2 (.inr ⟨v, by simp, q⟩))
        · exact .inr q
      · obtain ⟨z, hz, rfl⟩ := List.mem_map.1 hy
        rcases hown z hz with q | q
        · exact .inl (mem_blks.2 (.inr ⟨z.2, List.mem_cons_of_mem _ (List.mem_map_of_mem q), hxy⟩))
        · rw [q] at hxy; cases hxy
  · exact (k8.mono (fun x hx => mem_blks.2 (.inr ⟨v, by simp, own_mem.1 hx⟩))).trans k9 (fun x hx => .inl (mem_blks.2 (.inl (by simpa using hx))))
end Go.Proofs.Ytpbcfkfhkenhpaa

/-
  OWN WORK (by mkrm1.py). The document's Room (layer 17): what is asked of it and changes nothing.
-/
namespace Go.Proofs.Ytpbcfkfhkenhpaa
open Go.RowKit
set_option linter.unusedVariables false
set_option linter.unusedSimpArgs false

theorem frame_no {k n m : Int} (h : ¬ isF n m) : frameI k n m = 0 := by simp [frameI, h]
theorem frame_1 {n m : Int} (h : isF n m) : frameI 1 n m = 34 := by simp [frameI, h]
theorem frame_2 {n m : Int} (h : isF n m) : frameI 2 n m = 38 + 2 * n := by simp [frameI, h]
theorem frame_3 {n m : Int} (h : isF n m) : frameI 3 n m = 46 + n := by simp [frameI, h]
theorem frame_4 {n m : Int} (h : isF n m) : frameI 4 n m = 33 := by simp [frameI, h]
theorem frame_5 {n m : Int} (h : isF n m) : frameI 5 n m = 33 := by simp [frameI, h]
theorem frame_6 {n m : Int} (h : isF n m) : frameI 6 n m = 33 := by simp [frameI, h]
theorem frame_7 {n m : Int} (h : isF n m) : frameI 7 n m = 35 + 26 * n + 9 * m := by simp [frameI, h]
theorem frame_else {k n m : Int} (h : isF n m) (h1 : k ≠ 1) (h2 : k ≠ 2) (h3 : k ≠ 3) (h4 : k ≠ 4) (h5 : k ≠ 5) (h6 : k ≠ 6) (h7 : k ≠ 7) : frameI k n m = 0 := by simp [frameI, h, h1, h2, h3, h4, h5, h6, h7]
set_option maxRecDepth 20000 in
set_option maxHeartbeats 1600000 in
theorem rFrame (k n m : Int) (w : World) : Calls Try.prog 14 #[.int .i64 k, .int .i64 n, .int .i64 m] w fun e w' => e = .returned (.int .i64 (frameI k n m)) ∧ w' = w := by
  by_cases hF : isF n m
  rotate_left
  · have HF := @hideH _ (frame_no (k := k) hF)
    have hor : n < 0 ∨ m < 0 ∨ (65535 : Int) < n ∨ (65535 : Int) < m := by unfold isF at hF; omega
    clear hF
    by_cases h1 : n < 0
    · go_enter Try.func14, Try.ntmps14
      go_wp2
      go_ret
      exact ⟨by rw [HF.out]; rfl, by first | rfl | trivial⟩
    by_cases h2 : m < 0
    · go_enter Try.func14, Try.ntmps14
      go_wp2
      go_ret
      exact ⟨by rw [HF.out]; rfl, by first | rfl | trivial⟩
    by_cases h3 : (65535 : Int) < n
    · go_enter Try.func14, Try.ntmps14
      go_wp2
      go_ret
      exact ⟨by rw [HF.out]; rfl, by first | rfl | trivial⟩
    by_cases h4 : (65535 : Int) < m
    · go_enter Try.func14, Try.ntmps14
      go_wp2
      go_ret
      exact ⟨by rw [HF.out]; rfl, by first | rfl | trivial⟩
    · omega
  have h1 : ¬ n < 0 := by have := hF.1; omega
  have h2 : ¬ m < 0 := by have := hF.2.1; omega
  have h3 : ¬ (65535 : Int) < n := by have := hF.2.2.1; omega
  have h4 : ¬ (65535 : Int) < m := by have := hF.2.2.2; omega
  have HF := @hideH _ hF
  clear hF
  have w1 : IntKind.i64.wrap (2 * n) = 2 * n := wrap_i64_of (by omega) (by omega)
  have w2 : IntKind.i64.wrap (38 + 2 * n) = 38 + 2 * n := wrap_i64_of (by omega) (by omega)
  have w3 : IntKind.i64.wrap (46 + n) = 46 + n := wrap_i64_of (by omega) (by omega)
  have w4 : IntKind.i64.wrap (26 * n) = 26 * n := wrap_i64_of (by omega) (by omega)
  have w5 : IntKind.i64.wrap (35 + 26 * n) = 35 + 26 * n := wrap_i64_of (by omega) (by omega)
  have w6 : IntKind.i64.wrap (9 * m) = 9 * m := wrap_i64_of (by omega) (by omega)
  have w7 : IntKind.i64.wrap (35 + 26 * n + 9 * m) = 35 + 26 * n + 9 * m := wrap_i64_of (by omega) (by omega)
  by_cases k1 : k = 1
  · subst k1
    go_enter Try.func14, Try.ntmps14
    go_wp2
    go_ret
    exact ⟨by rw [frame_1 HF.out]; rfl, by first | rfl | trivial⟩
  by_cases k2 : k = 2
  · subst k2
    go_enter Try.func14, Try.ntmps14
    go_wp2
    go_ret
    exact ⟨by rw [frame_2 HF.out]; rfl, by first | rfl | trivial⟩
  by_cases k3 : k = 3
  · subst k3
    go_enter Try.func14, Try.ntmps14
    go_wp2
    go_ret
    exact ⟨by rw [frame_3 HF.out]; rfl, by first | rfl | trivial⟩
  by_cases k4 : k = 4
  · subst k4
    go_enter Try.func14, Try.ntmps14
    go_wp2
    go_ret
    exact ⟨by rw [frame_4 HF.out]; rfl, by first | rfl | trivial⟩
  by_cases k5 : k = 5
  · subst k5
    go_enter Try.func14, Try.ntmps14
    go_wp2
    go_ret
    exact ⟨by rw [frame_5 HF.out]; rfl, by first | rfl | trivial⟩
  by_cases k6 : k = 6
  · subst k6
    go_enter Try.func14, Try.ntmps14
    go_wp2
    go_ret
    exact ⟨by rw [frame_6 HF.out]; rfl, by first | rfl | trivial⟩
  by_cases k7 : k = 7
  · subst k7
    go_enter Try.func14, Try.ntmps14
    go_wp2
    go_ret
    exact ⟨by rw [frame_7 HF.out]; rfl, by first | rfl | trivial⟩
  have e1 : (k == 1) = false := by simpa using k1
  have e2 : (k == 2) = false := by simpa using k2
  have e3 : (k == 3) = false := by simpa using k3
  have e4 : (k == 4) = false := by simpa using k4
  have e5 : (k == 5) = false := by simpa using k5
  have e6 : (k == 6) = false := by simpa using k6
  have e7 : (k == 7) = false := by simpa using k7
  have HE := @hideH _ (frame_else HF.out k1 k2 k3 k4 k5 k6 k7)
  clear k1 k2 k3 k4 k5 k6 k7
  go_enter Try.func14, Try.ntmps14
  go_wp2
  go_ret
  exact ⟨by rw [HE.out]; rfl, by first | rfl | trivial⟩
set_option maxRecDepth 20000 in
set_option maxHeartbeats 1600000 in
theorem rAt {g : Nat} {a : Int} {v : Value} {P : List (Tx × Value)} (b : Int) (w : World) (h : RrP w g a v P) : Calls Try.prog 31 #[.pointer (some ⟨g, 0, none⟩), .int .i64 b] w fun e w' => w' = w ∧ ∃ i : Int, e = .returned (.int .i64 i) ∧ ((i = -1 ∧ findT (P.map Prod.fst) b = none) ∨ ∃ (k : Nat) (x : Tx × Value), i = (k : Int) ∧ P[k]? = some x ∧ x.1.b = b ∧ findT (P.map Prod.fst) b = some x.1) := by
  obtain ⟨p, c, hv, hnc, hcm⟩ := h.row.shape
  subst hv
  obtain ⟨n, hn⟩ : ∃ n, n = P.length := ⟨_, rfl⟩
  have HR := @hideH _ h
  have HN := @hideH _ (And.intro hn (Nat.le_trans hnc hcm))
  have B := h.box
  rw [← hn] at B
  have c1 := B.cell (j := 1) rfl
  clear h hn B hnc hcm
  go_enter Try.func31, Try.ntmps31
  go_wp2
  go_loopw [5] (fun i wr => ∃ k : Nat, k ≤ n ∧ i = .int .i64 k ∧ wr = w ∧ Hid (∀ (i : Nat) (y : Tx), i < k → (P.map Prod.fst)[i]? = some y → y.b ≠ b)) (fun i _ => n - (intOf i).toNat)
  case atStart => exact ⟨0, Nat.zero_le _, rfl, rfl, fun i y hi => absurd hi (Nat.not_lt_zero i)⟩
  case round =>
    obtain ⟨k, hk, rfl, hw, hh⟩ := hrel
    subst hw
    by_cases hkl : k < n
    · have hkl' : (k : Int) < (n : Int) := by omega
      have h0 : (0 : Int) ≤ (k : Int) := by omega
      have wk : IntKind.i64.wrap ((k : Int) + 1) = (k : Int) + 1 := wrap_i64_of (by omega) (by have e1 := HN.out.1; have e2 := HN.out.2; unfold maxLen at e2; omega)
      obtain ⟨x, hx⟩ : ∃ x, P[k]? = some x := ⟨_, List.getElem?_eq_getElem (by have := HN.out.1; omega)⟩
      obtain ⟨gl, hp, d0, -⟩ := HR.out.at hx
      subst hp
      have HX := @hideH _ hx
      have HX' := @hideH _ (show (P.map Prod.fst)[k]? = some x.1 by rw [List.getElem?_map, hx]; rfl)
      clear hx
      by_cases e : x.1.b = b
      · have HE := @hideH _ (findT_at HX'.out e hh.out)
        have HB := @hideH _ e
        rw [e] at d0
        clear e
        go_wp2
        go_ret
        exact ⟨by first | rfl | trivial, _, rfl, .inr ⟨k, x, rfl, HX.out, HB.out, HE.out⟩⟩
      · have e' : (x.1.b == b) = false := by simpa using e
        have HB := @hideH _ e
        clear e
        go_wp2
        go_roundw
        case rel => exact ⟨k + 1, by omega, by go_num, by first | rfl | trivial, fun i y hi hy => by
          by_cases c : i = k
          · subst c; rw [HX'.out] at hy; cases hy; exact HB.out
          · exact hh.out i y (by omega) hy⟩
        case measure => simp [intOf]; omega
    · have hkl' : ¬ (k : Int) < (n : Int) := by omega
      have HE := @hideH _ (findT_no (l := P.map Prod.fst) (b := b) (fun i y hi hy => hh.out i y (by rw [List.length_map, ← HN.out.1] at hi; omega) hy))
      go_wp2
      go_ret
      exact ⟨by first | rfl | trivial, _, rfl, .inl ⟨rfl, HE.out⟩⟩
theorem take_sum {u : List Int} {j : Nat} {x : Int} (h : u[j]? = some x) : sumU (u.take (j + 1)) = sumU (u.take j) + (46 + x) := by
  rw [List.take_add_one, h, sumU_append]
  simp [sumU]
theorem take_range {u : List Int} (h : ∀ n ∈ u, isN n) (hl : u.length ≤ 4398046511104) (j : Nat) : 0 ≤ sumU (u.take j) ∧ sumU (u.take j) ≤ 288500000000000000 := by
  have q := sumU_range (u := u.take j) (fun n hn => h n (List.mem_of_mem_take hn))
  have : (u.take j).length ≤ u.length := by rw [List.length_take]; omega
  omega
theorem frame_undo {n : Int} (h : isN n) : frameI 3 n 0 = 46 + n := frame_3 ⟨by have := h.1; omega, by omega, h.2, by omega⟩
set_option maxRecDepth 20000 in
set_option maxHeartbeats 1600000 in
theorem rOfP {g : Nat} {a : Int} {v : Value} {P : List (Tx × Value)} (b : Int) (w : World) (h : RrP w g a v P) : Calls Try.prog 22 #[.pointer (some ⟨g, 0, none⟩), .int .i64 b] w fun e w' => e = .returned (.int .i64 (ofT (P.map Prod.fst) b)) ∧ w' = w := by
  have HA := @hideH _ (rAt b w h)
  obtain ⟨p, c, hv, hnc, hcm⟩ := h.row.shape
  subst hv
  obtain ⟨n, hn⟩ : ∃ n, n = P.length := ⟨_, rfl⟩
  have HR := @hideH _ h
  have HN := @hideH _ (And.intro hn (Nat.le_trans hnc hcm))
  have B := h.box
  rw [← hn] at B
  have c1 := B.cell (j := 1) rfl
  clear h hn B hnc hcm
  go_enter Try.func22, Try.ntmps22
  go_wp2_with fail
  refine HA.out.mono ?_
  clear HA
  rintro e wx ⟨hwx, i, rfl, hi⟩
  rw [hwx]
  clear hwx wx
  rcases hi with ⟨rfl, he⟩ | ⟨k, x, rfl, hx, hb, he⟩
  · have HE := @hideH _ he
    clear he
    go_wp2
    go_ret
    exact ⟨by rw [ofT, HE.out]; rfl, by first | rfl | trivial⟩
  · have hkl' : (k : Int) < (n : Int) := by have := (List.getElem?_eq_some_iff.1 hx).1; have := HN.out.1; omega
    have h0 : (0 : Int) ≤ (k : Int) := by omega
    have h0' : ¬ (k : Int) < (0 : Int) := by omega
    obtain ⟨gl, hp, d0, d1, -⟩ := HR.out.at hx
    subst hp
    obtain ⟨t, u⟩ := x
    have hm : (t, u) ∈ P := List.mem_of_getElem? hx
    have hN := HR.out.ups _ hm
    have HE := @hideH _ he
    have HR2 := @hideH _ (take_range (HR.out.ok.rng t (List.mem_map_of_mem hm)) (by have := len_upd (List.mem_map_of_mem (f := Prod.fst) hm); have := HR.out.ok.sz; simp only at *; omega))
    have HRN := @hideH _ (HR.out.ok.rng t (List.mem_map_of_mem hm))
    dsimp only at hN d0 d1 hb
    obtain ⟨pu, cu, hu, hmc, hcm⟩ := hN.shape
    subst hu
    obtain ⟨m, hm'⟩ : ∃ m, m = t.u.length := ⟨_, rfl⟩
    have HU := @hideH _ hN
    have HM := @hideH _ (And.intro hm' (Nat.le_trans hmc hcm))
    rw [← hm'] at d1
    clear he hx hb hm hN hm' hmc hcm d0
    go_wp2
    go_loopw [6, 7] (fun s i wr => ∃ j : Nat, j ≤ m ∧ i = .int .i64 j ∧ s = .int .i64 (99 + sumU (t.u.take j)) ∧ wr = w) (fun _ i _ => m - (intOf i).toNat)
    case atStart => exact ⟨0, Nat.zero_le _, rfl, rfl, rfl⟩
    case round =>
      obtain ⟨j, hj, rfl, rfl, hw⟩ := hrel
      subst hw
      by_cases hjl : j < m
      · have hjl' : (j : Int) < (m : Int) := by omega
        have hj0 : (0 : Int) ≤ (j : Int) := by omega
        have wj : IntKind.i64.wrap ((j : Int) + 1) = (j : Int) + 1 := wrap_i64_of (by omega) (by have e1 := HM.out.1; have e2 := HM.out.2; unfold maxLen at e2; omega)
        obtain ⟨z, hz⟩ : ∃ z, t.u[j]? = some z := ⟨_, List.getElem?_eq_getElem (by have := HM.out.1; omega)⟩
        obtain ⟨gu, hpu, -, -, e0, -⟩ := HU.out.at hz
        subst hpu
        have HZ := @hideH _ (And.intro (take_sum hz) (HRN.out z (List.mem_of_getElem? hz)))
        have HQ := @hideH _ (rFrame 3 z 0 wr)
        rw [frame_undo HZ.out.2] at HQ
        have hs1 := HZ.out.1
        have hr1 := HR2.out (j + 1)
        have hr0 := HR2.out j
        obtain ⟨s, hs⟩ : ∃ s, s = sumU (t.u.take j) := ⟨_, rfl⟩
        have ws : IntKind.i64.wrap (99 + s + (46 + z)) = 99 + s + (46 + z) := wrap_i64_of (by rw [hs]; omega) (by rw [hs]; omega)
        have HS := @hideH _ hs
        rw [← hs]
        clear hz hs1 hr1 hr0 hs
        go_wp2_with fail
        refine HQ.out.mono ?_
        clear HQ
        rintro e wx ⟨rfl, hwx⟩
        rw [hwx]
        clear hwx wx
        go_wp2
        go_roundw
        case rel => exact ⟨j + 1, by omega, by go_num, by rw [HZ.out.1, HS.out]; congr 1; omega, by first | rfl | trivial⟩
        case measure => simp [intOf]; omega
      · have hjl' : ¬ (j : Int) < (m : Int) := by omega
        have HJ := @hideH _ (show t.u.take j = t.u from List.take_of_length_le (by have := HM.out.1; omega))
        go_wp2
        go_ret
        exact ⟨by rw [ofT, HE.out, sumO, Tx.sum, HJ.out]; rfl, by first | rfl | trivial⟩
theorem OkR.find {T : List Tx} (h : OkR T) {k : Nat} {t : Tx} (hk : T[k]? = some t) : ofT T t.b = t.sum ∧ keptT (T.take (k + 1)) = keptT (T.take k) + t.sum := by
  refine ⟨?_, ?_⟩
  · have hf : findT T t.b = some t := findT_at hk rfl (fun i y hi hy => by
      have h1 := (List.getElem?_eq_some_iff.1 hk)
      have h2 := (List.getElem?_eq_some_iff.1 hy)
      have := List.pairwise_iff_getElem.1 h.dif i k h2.1 h1.1 hi
      rw [h1.2, h2.2] at this
      exact this)
    rw [ofT, hf, sumO]
  · rw [List.take_add_one, hk, keptT_append]
    simp [keptT]
theorem OkR.takes {T : List Tx} (h : OkR T) (j : Nat) : 0 ≤ keptT (T.take j) ∧ keptT (T.take j) ≤ 288500000000000000 := by
  have e := h.kept
  rw [← List.take_append_drop j T, keptT_append] at e
  have h1 := keptT_range (T := T.take j) (fun t ht => h.rng t (List.mem_of_mem_take ht))
  have h2 := keptT_range (T := T.drop j) (fun t ht => h.rng t (List.mem_of_mem_drop ht))
  omega
set_option maxRecDepth 20000 in
set_option maxHeartbeats 1600000 in
theorem rKeptP {g : Nat} {a : Int} {v : Value} {P : List (Tx × Value)} (w : World) (h : RrP w g a v P) : Calls Try.prog 21 #[.pointer (some ⟨g, 0, none⟩)] w fun e w' => e = .returned (.int .i64 (keptT (P.map Prod.fst))) ∧ w' = w := by
  have HO := @hideH _ (fun b => rOfP b w h)
  obtain ⟨p, c, hv, hnc, hcm⟩ := h.row.shape
  subst hv
  obtain ⟨n, hn⟩ : ∃ n, n = P.length := ⟨_, rfl⟩
  have HR := @hideH _ h
  have HN := @hideH _ (And.intro hn (Nat.le_trans hnc hcm))
  have B := h.box
  rw [← hn] at B
  have c1 := B.cell (j := 1) rfl
  clear h hn B hnc hcm
  go_enter Try.func21, Try.ntmps21
  go_wp2
  go_loopw [3, 4] (fun s i wr => ∃ k : Nat, k ≤ n ∧ i = .int .i64 k ∧ s = .int .i64 (keptT ((P.map Prod.fst).take k)) ∧ wr = w) (fun _ i _ => n - (intOf i).toNat)
  case atStart => exact ⟨0, Nat.zero_le _, rfl, rfl, rfl⟩
  case round =>
    obtain ⟨k, hk, rfl, rfl, hw⟩ := hrel
    subst hw
    by_cases hkl : k < n
    · have hkl' : (k : Int) < (n : Int) := by omega
      have h0 : (0 : Int) ≤ (k : Int) := by omega
      have wk : IntKind.i64.wrap ((k : Int) + 1) = (k : Int) + 1 := wrap_i64_of (by omega) (by have e1 := HN.out.1; have e2 := HN.out.2; unfold maxLen at e2; omega)
      obtain ⟨x, hx⟩ : ∃ x, P[k]? = some x := ⟨_, List.getElem?_eq_getElem (by have := HN.out.1; omega)⟩
      obtain ⟨gl, hp, d0, -⟩ := HR.out.at hx
      subst hp
      have hf := HR.out.ok.find (show (P.map Prod.fst)[k]? = some x.1 by rw [List.getElem?_map, hx]; rfl)
      have hr1 := HR.out.ok.takes (k + 1)
      have hr0 := HR.out.ok.takes k
      have HF := @hideH _ hf
      obtain ⟨s, hs⟩ : ∃ s, s = keptT ((P.map Prod.fst).take k) := ⟨_, rfl⟩
      obtain ⟨z, hz⟩ : ∃ z, z = x.1.sum := ⟨_, rfl⟩
      have ws : IntKind.i64.wrap (s + z) = s + z := wrap_i64_of (by rw [hs, hz]; omega) (by rw [hs, hz]; omega)
      have HS := @hideH _ (And.intro hs hz)
      have HQ := @hideH _ (HO.out x.1.b)
      rw [hf.1, ← hz] at HQ
      rw [← hs]
      clear hx hf hr1 hr0 hs hz
      go_wp2_with fail
      refine HQ.out.mono ?_
      clear HQ
      rintro e wx ⟨rfl, hwx⟩
      rw [hwx]
      clear hwx wx
      go_wp2
      go_roundw
      case rel => exact ⟨k + 1, by omega, by go_num, by rw [HF.out.2, HS.out.1, HS.out.2], by first | rfl | trivial⟩
      case measure => simp [intOf]; omega
    · have hkl' : ¬ (k : Int) < (n : Int) := by omega
      have HJ := @hideH _ (show (P.map Prod.fst).take k = P.map Prod.fst from List.take_of_length_le (by rw [List.length_map, ← HN.out.1]; omega))
      go_wp2
      go_ret
      exact ⟨by rw [HJ.out]; rfl, by first | rfl | trivial⟩
def four (a b c d : Int) : Nat → Int
  | 0 => 0
  | 1 => a
  | 2 => a + b
  | 3 => a + b + c
  | _ => a + b + c + d
def fourAt (a b c d : Int) : Nat → Int
  | 0 => a
  | 1 => b
  | 2 => c
  | _ => d
theorem four_next (a b c d : Int) {j : Nat} (h : j < 4) : four a b c d (j + 1) = four a b c d j + fourAt a b c d j := by
  match j, h with
  | 0, _ => simp [four, fourAt]
  | 1, _ => rfl
  | 2, _ => rfl
  | 3, _ => rfl
theorem four_le {a b c d : Int} (ha : 0 ≤ a) (hb : 0 ≤ b) (hc : 0 ≤ c) (hd : 0 ≤ d) {j : Nat} (h : j < 4) : 0 ≤ fourAt a b c d j ∧ four a b c d (j + 1) ≤ a + b + c + d := by
  match j, h with
  | 0, _ => simp only [four, fourAt]; omega
  | 1, _ => simp only [four, fourAt]; omega
  | 2, _ => simp only [four, fourAt]; omega
  | 3, _ => simp only [four, fourAt]; omega
theorem four_pos {a b c d : Int} (ha : 0 ≤ a) (hb : 0 ≤ b) (hc : 0 ≤ c) {j : Nat} (h : j < 4) : 0 ≤ four a b c d j := by
  match j, h with
  | 0, _ => simp [four]
  | 1, _ => exact ha
  | 2, _ => simp only [four]; omega
  | 3, _ => simp only [four]; omega
theorem four_cell {w : World} {g : Nat} {t : TypeId} {a b c d : Int} (h : Blk w g t [.int .i64 a, .int .i64 b, .int .i64 c, .int .i64 d]) {j : Nat} (hj : j < 4) : w.cell? ⟨g, j, none⟩ = some (.int .i64 (fourAt a b c d j)) := by
  match j, hj with
  | 0, _ => exact h.cell rfl
  | 1, _ => exact h.cell rfl
  | 2, _ => exact h.cell rfl
  | 3, _ => exact h.cell rfl
theorem fits_neg {a : Int} {T : List Tx} {u m k : Int} (h : u < 0 ∨ m < 0 ∨ k < 0) : fitsB a T u m k = false := by
  unfold fitsB; exact decide_eq_false (by omega)
theorem fits_no {a : Int} {T : List Tx} {u m k : Int} (h : a < u + m + k + keptT T) : fitsB a T u m k = false := by
  unfold fitsB; exact decide_eq_false (by omega)
theorem fits_yes {a : Int} {T : List Tx} {u m k : Int} (h1 : 0 ≤ u) (h2 : 0 ≤ m) (h3 : 0 ≤ k) (h : u + m + k + keptT T ≤ a) : fitsB a T u m k = true := by
  unfold fitsB; exact decide_eq_true ⟨h1, h2, h3, h⟩
set_option maxRecDepth 20000 in
set_option maxHeartbeats 1600000 in
theorem rFitsP {g : Nat} {a : Int} {v : Value} {P : List (Tx × Value)} (u m k : Int) (w : World) (h : RrP w g a v P) (ha : I64 a) (hu : I64 u) (hm : I64 m) (hk : I64 k) : Calls Try.prog 30 #[.pointer (some ⟨g, 0, none⟩), .int .i64 u, .int .i64 m, .int .i64 k] w fun e w' => e = .returned (.bool (fitsB a (P.map Prod.fst) u m k)) ∧ Kept [] w w' := by
  have HI := @hideH _ (And.intro ha (And.intro hu (And.intro hm hk)))
  have HQ := @hideH _ (rKeptP w h)
  have c0 := h.box.cell (j := 0) rfl
  have HK := @hideH _ h.ok.kept
  clear ha hu hm hk h
  obtain ⟨T, hT⟩ : ∃ T, T = P.map Prod.fst := ⟨_, rfl⟩
  rw [← hT] at HQ HK ⊢
  clear hT
  by_cases h1 : u < 0
  · have HE := @hideH _ (fits_neg (a := a) (T := T) (u := u) (m := m) (k := k) (by omega))
    go_enter Try.func30, Try.ntmps30
    go_wp2
    go_ret
    exact ⟨by rw [HE.out]; rfl, Kept.refl _ _⟩
  by_cases h2 : m < 0
  · have HE := @hideH _ (fits_neg (a := a) (T := T) (u := u) (m := m) (k := k) (by omega))
    go_enter Try.func30, Try.ntmps30
    go_wp2
    go_ret
    exact ⟨by rw [HE.out]; rfl, Kept.refl _ _⟩
  by_cases h3 : k < 0
  · have HE := @hideH _ (fits_neg (a := a) (T := T) (u := u) (m := m) (k := k) (by omega))
    go_enter Try.func30, Try.ntmps30
    go_wp2
    go_ret
    exact ⟨by rw [HE.out]; rfl, Kept.refl _ _⟩
  have HP := @hideH _ (show 0 ≤ u ∧ 0 ≤ m ∧ 0 ≤ k from ⟨by omega, by omega, by omega⟩)
  go_enter Try.func30, Try.ntmps30
  go_wp2_with fail
  refine HQ.out.mono ?_
  clear HQ
  rintro e wx ⟨rfl, hwx⟩
  rw [hwx]
  clear hwx wx
  obtain ⟨q, hq⟩ : ∃ q, q = keptT T := ⟨_, rfl⟩
  rw [← hq]
  obtain ⟨w1, hw1⟩ : ∃ wx, wx = w.alloc (.cells #[.int .i64 q, .int .i64 u, .int .i64 m, .int .i64 k] 3) := ⟨_, rfl⟩
  have HB := @hideH _ (show Blk w1 w.heap.size 3 [.int .i64 q, .int .i64 u, .int .i64 m, .int .i64 k] by rw [hw1]; exact Blk.new w _ _)
  have HK1 := @hideH _ (show Kept [] w w1 by rw [hw1]; exact (Kept.refl [] w).alloc _)
  have HQ := @hideH _ hq
  clear hq
  go_upto_region 5 with fail
  rw [← hw1]
  clear hw1
  go_loopw [9, 11, 33] (fun l x i wr => ∃ j : Nat, j ≤ 4 ∧ i = .int .i64 j ∧ l = .int .i64 (a - four q u m k j) ∧ wr = w1 ∧ Hid (j = 0 ∨ four q u m k j ≤ a)) (fun _ _ i _ => 4 - (intOf i).toNat)
  case atStart => exact ⟨0, Nat.zero_le _, rfl, by simp [four], rfl, .inl rfl⟩
  case round =>
    obtain ⟨j, hj, rfl, rfl, hw, hh⟩ := hrel
    subst hw
    by_cases hj4 : j < 4
    · have hj' : (j : Int) < 4 := by omega
      have h0 : (0 : Int) ≤ (j : Int) := by omega
      have wj : IntKind.i64.wrap ((j : Int) + 1) = (j : Int) + 1 := wrap_i64_of (by omega) (by omega)
      have hc := four_cell HB.out hj4
      have hn := four_next q u m k hj4
      have hl := four_le (a := q) (b := u) (c := m) (d := k) (by rw [HQ.out]; exact HK.out.1) HP.out.1 HP.out.2.1 HP.out.2.2 hj4
      have HH := @hideH _ (And.intro hn hl)
      obtain ⟨z, hz⟩ : ∃ z, z = fourAt q u m k j := ⟨_, rfl⟩
      obtain ⟨s, hs⟩ : ∃ s, s = a - four q u m k j := ⟨_, rfl⟩
      rw [← hz] at hc hl
      rw [← hs]
      have HZ := @hideH _ (And.intro hz hs)
      by_cases hsz : s < z
      · have HE := @hideH _ (fits_no (a := a) (T := T) (u := u) (m := m) (k := k) (by rw [← HQ.out]; omega))
        clear hz hs hn hl
        go_wp2
        go_ret
        exact ⟨by rw [HE.out]; rfl, HK1.out⟩
      · have hsa : s ≤ a ∨ j = 0 := by
          rcases hh.out with c | c
          · exact .inr c
          · exact .inl (by have := hl.1; have e1 := four_pos (d := k) (show 0 ≤ q by rw [HQ.out]; exact HK.out.1) HP.out.1 HP.out.2.1 hj4; omega)
        have hs2 : s < 9223372036854775808 := by
          have e1 := HI.out.1.2
          rcases hsa with c | c
          · omega
          · subst c; simp only [four] at hs; omega
        have ws : IntKind.i64.wrap (s - z) = s - z := wrap_i64_of (by have := hl.1; omega) (by have := hl.1; omega)
        have HL := @hideH _ (show s - z = a - four q u m k (j + 1) ∧ four q u m k (j + 1) ≤ a from ⟨by rw [hn, ← hz, hs]; omega, by rw [hn, ← hz]; omega⟩)
        clear hz hs hn hl hsa hs2
        go_wp2
        go_roundw
        case rel => exact ⟨j + 1, by omega, by go_num, by rw [← HL.out.1], by first | rfl | trivial, .inr HL.out.2⟩
        case measure => simp [intOf]; omega
    · obtain rfl : j = 4 := by omega
      have HE := @hideH _ (fits_yes (a := a) (T := T) HP.out.1 HP.out.2.1 HP.out.2.2 (by rcases hh.out with c | c; (cases c); (simp only [four] at c; rw [HQ.out] at c; omega)))
      go_wp2
      go_ret
      exact ⟨by rw [HE.out]; rfl, HK1.out⟩
end Go.Proofs.Ytpbcfkfhkenhpaa

/-
  OWN WORK (by mkrm3.py). What must be kept free (layer 17): the face of the program's Room; the law's head; RoomFrames, RoomFits.
-/
namespace Go.Proofs.Ytpbcfkfhkenhpaa
open Go.RowKit
set_option linter.unusedVariables false
set_option linter.unusedSimpArgs false

/-- what the laws ask of the program's Room: Rm w g F a T: at g lies a Room for the area a that tells T, in the blocks F -/
structure RmOps (Rm : World → Nat → List Nat → Int → List Tx → Prop) : Prop where
  kept : ∀ {w w' : World} {g : Nat} {F : List Nat} {a : Int} {T : List Tx} {D : List Nat}, Rm w g F a T → Kept D w w' → (∀ x ∈ F, x ∉ D) → Rm w' g F a T
  lt : ∀ {w : World} {g : Nat} {F : List Nat} {a : Int} {T : List Tx}, Rm w g F a T → ∀ x ∈ F, x < w.heap.size
  ok : ∀ {w : World} {g : Nat} {F : List Nat} {a : Int} {T : List Tx}, Rm w g F a T → OkR T
  frame : ∀ (k n m : Int) (w : World), I64 k → I64 n → I64 m → Calls Try.prog 13 #[.int .i64 k, .int .i64 n, .int .i64 m] w fun e w' => e = .returned (.int .i64 (frameI k n m)) ∧ Kept [] w w'
  new : ∀ (a : Int) (w : World), I64 a → Calls Try.prog 10 #[.int .i64 a] w fun e w' => ∃ g F, e = .returned (.pointer (some ⟨g, 0, none⟩)) ∧ Rm w' g F a [] ∧ (∀ x ∈ F, w.heap.size ≤ x) ∧ Kept [] w w'
  beg : ∀ {g : Nat} {F : List Nat} {a : Int} {T : List Tx} (b : Int) (w : World), Rm w g F a T → I64 b → szT T < 4398046511104 → Calls Try.prog 12 #[.pointer (some ⟨g, 0, none⟩), .int .i64 b] w fun e w' => ∃ F', e = .returned (.int .i64 (begE T b)) ∧ Rm w' g F' a (begT T b) ∧ Fr w F F' ∧ Kept F w w'
  upd : ∀ {g : Nat} {F : List Nat} {a : Int} {T : List Tx} (b n : Int) (w : World), Rm w g F a T → I64 b → I64 n → szT T < 4398046511104 → Calls Try.prog 17 #[.pointer (some ⟨g, 0, none⟩), .int .i64 b, .int .i64 n] w fun e w' => ∃ F', e = .returned (.int .i64 (updE T b n)) ∧ Rm w' g F' a (updT T b n) ∧ Fr w F F' ∧ Kept F w w'
  und : ∀ {g : Nat} {F : List Nat} {a : Int} {T : List Tx} (b n : Int) (w : World), Rm w g F a T → I64 b → I64 n → Calls Try.prog 18 #[.pointer (some ⟨g, 0, none⟩), .int .i64 b, .int .i64 n] w fun e w' => ∃ F', e = .returned (.int .i64 (undE T b n)) ∧ Rm w' g F' a (undT T b n) ∧ Fr w F F' ∧ Kept F w w'
  drp : ∀ {g : Nat} {F : List Nat} {a : Int} {T : List Tx} (b : Int) (w : World), Rm w g F a T → I64 b → Calls Try.prog 19 #[.pointer (some ⟨g, 0, none⟩), .int .i64 b] w fun e w' => ∃ F', e = .returned (.int .i64 (drpE T b)) ∧ Rm w' g F' a (drpT T b) ∧ Fr w F F' ∧ Kept F w w'
  of : ∀ {g : Nat} {F : List Nat} {a : Int} {T : List Tx} (b : Int) (w : World), Rm w g F a T → I64 b → Calls Try.prog 15 #[.pointer (some ⟨g, 0, none⟩), .int .i64 b] w fun e w' => e = .returned (.int .i64 (ofT T b)) ∧ Kept [] w w'
  all : ∀ {g : Nat} {F : List Nat} {a : Int} {T : List Tx} (w : World), Rm w g F a T → Calls Try.prog 16 #[.pointer (some ⟨g, 0, none⟩)] w fun e w' => e = .returned (.int .i64 (keptT T)) ∧ Kept [] w w'
  fits : ∀ {g : Nat} {F : List Nat} {a : Int} {T : List Tx} (u m k : Int) (w : World), Rm w g F a T → I64 u → I64 m → I64 k → Calls Try.prog 11 #[.pointer (some ⟨g, 0, none⟩), .int .i64 u, .int .i64 m, .int .i64 k] w fun e w' => e = .returned (.bool (fitsB a T u m k)) ∧ Kept [] w w'
theorem i64_small {x : Int} (h1 : -70000 ≤ x) (h2 : x ≤ 70000) : I64 x := ⟨by omega, by omega⟩
def hd1 : List Tx := [⟨1, []⟩]
def hd2 : List Tx := [⟨1, [16]⟩]
set_option maxRecDepth 20000 in
set_option maxHeartbeats 3200000 in
theorem head_any {Rm : World → Nat → List Nat → Int → List Tx → Prop} (O : RmOps Rm) (w : World) : Calls Try.prog 9 #[] w fun e w' => e = .returned (.bool true) ∧ Kept [] w w' := by
  go_enter Try.func9, Try.ntmps9
  go_wp2_with fail
  refine (O.new 1024 w (i64_small (by decide) (by decide))).mono ?_
  rintro e w1 ⟨g, F, rfl, l1, hF, k1⟩
  have HF := @hideH _ hF
  clear hF
  have q := O.frame 2 16 0 w1 (i64_small (by decide) (by decide)) (i64_small (by decide) (by decide)) (i64_small (by decide) (by decide))
  rw [show frameI 2 16 0 = 70 from by decide] at q
  have hq := @hideH _ q
  clear q
  go_wp2_with fail
  refine hq.out.mono ?_
  clear hq
  rintro e w2 ⟨rfl, k2⟩
  have l2 := O.kept l1 k2 (by simp)
  have K2 := @hideH _ (k1.then k2)
  clear k1 k2 l1
  have q := O.beg 1 w2 l2 (i64_small (by decide) (by decide)) (by decide)
  rw [show begE [] 1 = 0 from by decide, show begT [] 1 = hd1 from by decide] at q
  have hq := @hideH _ q
  clear q
  go_wp2_with fail
  refine hq.out.mono ?_
  clear hq
  rintro e w3 ⟨F3, rfl, l3, fr, k⟩
  have K3 := @hideH _ (K2.out.trans k (fun x hx => .inr (HF.out x hx)))
  have HF3 := @hideH _ (show ∀ x ∈ F3, w.heap.size ≤ x from fun x hx => by rcases fr x hx with q | q; exact HF.out x q; have := K2.out.size; omega)
  clear fr k l2 HF K2
  have q := O.beg 1 w3 l3 (i64_small (by decide) (by decide)) (by decide)
  rw [show begE hd1 1 = 160 from by decide, show begT hd1 1 = hd1 from by decide] at q
  have hq := @hideH _ q
  clear q
  go_wp2_with fail
  refine hq.out.mono ?_
  clear hq
  rintro e w4 ⟨F4, rfl, l4, fr, k⟩
  have K4 := @hideH _ (K3.out.trans k (fun x hx => .inr (HF3.out x hx)))
  have HF4 := @hideH _ (show ∀ x ∈ F4, w.heap.size ≤ x from fun x hx => by rcases fr x hx with q | q; exact HF3.out x q; have := K3.out.size; omega)
  clear fr k l3 HF3 K3
  have q := O.upd 1 16 w4 l4 (i64_small (by decide) (by decide)) (i64_small (by decide) (by decide)) (by decide)
  rw [show updE hd1 1 16 = 0 from by decide, show updT hd1 1 16 = hd2 from by decide] at q
  have hq := @hideH _ q
  clear q
  go_wp2_with fail
  refine hq.out.mono ?_
  clear hq
  rintro e w5 ⟨F5, rfl, l5, fr, k⟩
  have K5 := @hideH _ (K4.out.trans k (fun x hx => .inr (HF4.out x hx)))
  have HF5 := @hideH _ (show ∀ x ∈ F5, w.heap.size ≤ x from fun x hx => by rcases fr x hx with q | q; exact HF4.out x q; have := K4.out.size; omega)
  clear fr k l4 HF4 K4
  have q := O.all w5 l5
  rw [show keptT hd2 = 161 from by decide] at q
  have hq := @hideH _ q
  clear q
  go_wp2_with fail
  refine hq.out.mono ?_
  clear hq
  rintro e w6 ⟨rfl, k⟩
  have l6 := O.kept l5 k (by simp)
  have K6 := @hideH _ (K5.out.then k)
  clear k l5 K5
  have q := O.of 1 w6 l6 (i64_small (by decide) (by decide))
  rw [show ofT hd2 1 = 161 from by decide] at q
  have hq := @hideH _ q
  clear q
  go_wp2_with fail
  refine hq.out.mono ?_
  clear hq
  rintro e w7 ⟨rfl, k⟩
  have l7 := O.kept l6 k (by simp)
  have K7 := @hideH _ (K6.out.then k)
  clear k l6 K6
  have q := O.of 2 w7 l7 (i64_small (by decide) (by decide))
  rw [show ofT hd2 2 = 0 from by decide] at q
  have hq := @hideH _ q
  clear q
  go_wp2_with fail
  refine hq.out.mono ?_
  clear hq
  rintro e w8 ⟨rfl, k⟩
  have l8 := O.kept l7 k (by simp)
  have K8 := @hideH _ (K7.out.then k)
  clear k l7 K7
  have q := O.fits 800 60 3 w8 l8 (i64_small (by decide) (by decide)) (i64_small (by decide) (by decide)) (i64_small (by decide) (by decide))
  rw [show fitsB 1024 hd2 800 60 3 = true from by decide] at q
  have hq := @hideH _ q
  clear q
  go_wp2_with fail
  refine hq.out.mono ?_
  clear hq
  rintro e w9 ⟨rfl, k⟩
  have l9 := O.kept l8 k (by simp)
  have K9 := @hideH _ (K8.out.then k)
  clear k l8 K8
  have q := O.fits 800 60 4 w9 l9 (i64_small (by decide) (by decide)) (i64_small (by decide) (by decide)) (i64_small (by decide) (by decide))
  rw [show fitsB 1024 hd2 800 60 4 = false from by decide] at q
  have hq := @hideH _ q
  clear q
  go_wp2_with fail
  refine hq.out.mono ?_
  clear hq
  rintro e wa ⟨rfl, k⟩
  have la := O.kept l9 k (by simp)
  have Ka := @hideH _ (K9.out.then k)
  clear k l9 K9
  go_wp2
  go_ret
  exact ⟨by first | rfl | simp, Ka.out⟩
set_option maxRecDepth 20000 in
set_option maxHeartbeats 3200000 in
theorem roomFrames_walk {Rm : World → Nat → List Nat → Int → List Tx → Prop} (O : RmOps Rm) (k n m : Int) (w : World) (hk : I64 k) (hn : I64 n) (hm : I64 m) : Calls Try.prog 4 #[.int .i64 k, .int .i64 n, .int .i64 m] w fun e w' => e = .returned (.bool true) ∧ Kept [] w w' := by
  have HI := @hideH _ (And.intro hk (And.intro hn hm))
  clear hk hn hm
  go_enter Try.func4, Try.ntmps4
  go_wp2_with fail
  refine (head_any O w).mono ?_
  rintro e w1 ⟨rfl, k1⟩
  go_wp2_with fail
  refine (O.frame k n m w1 HI.out.1 HI.out.2.1 HI.out.2.2).mono ?_
  rintro e w2 ⟨rfl, k2⟩
  go_wp2_with fail
  refine (rFrame k n m w2).mono ?_
  rintro e w3 ⟨rfl, hw⟩
  rw [hw]
  clear hw w3
  have HK := @hideH _ (k1.then k2)
  clear k1 k2
  go_wp2
  go_ret
  exact ⟨by first | rfl | simp, HK.out⟩
end Go.Proofs.Ytpbcfkfhkenhpaa

/-
  OWN WORK (by mkrm5.py). What must be kept free (layer 17): scripts that came in.
-/
namespace Go.Proofs.Ytpbcfkfhkenhpaa
open Go.ChangeShapes Go.WideShapes Go.ChangeAt Go.RowKit Go.Deep
set_option linter.unusedVariables false
set_option linter.unusedSimpArgs false
theorem choose_lt17 {α : Type} [Inhabited α] {n : Nat} {Q : Nat → α → Prop} (h : ∀ i, i < n → ∃ q, Q i q) : ∃ q : Nat → α, ∀ i, i < n → Q i (q i) := by
  refine ⟨fun i => if hi : i < n then Classical.choose (h i hi) else default, fun i hi => ?_⟩
  simp only [hi, dite_true]
  exact Classical.choose_spec (h i hi)
theorem i64_of_wf {z : Int} (h : (Lit.int .i64 z).wf = true) : I64 z := by
  have hb : -9223372036854775808 ≤ z ∧ z ≤ 9223372036854775807 := by simpa [Lit.wf, IntKind.min, IntKind.max, IntKind.signed, IntKind.bits] using h
  exact ⟨by omega, by omega⟩
structure OpR where
  kind : Int
  birth : Int
  n : Int
  m : Int
def OpR.cs (s : OpR) : List Value := [.int .i64 s.kind, .int .i64 s.birth, .int .i64 s.n, .int .i64 s.m]
def OpR.i64 (s : OpR) : Prop := I64 s.kind ∧ I64 s.birth ∧ I64 s.n ∧ I64 s.m
def OpAt (w : World) (a : Addr) (s : OpR) : Prop := (∀ (j : Nat) u, s.cs[j]? = some u → w.cell? (a.add j) = some u) ∧ s.i64
/-- v is a slice of these -/
def Ops (w : World) (v : Value) (ss : List OpR) : Prop :=
  ∃ (p : Option Addr) (c : Nat), v = .slice p ss.length c ∧ ss.length ≤ c ∧ c ≤ maxLen ∧ (p = none → c = 0) ∧ ∀ a, p = some a → ∀ (i : Nat) s, ss[i]? = some s → OpAt w (a.add (i * 4)) s
theorem OpAt.kept {w w' : World} {a : Addr} {s : OpR} (h : OpAt w a s) (k : Kept [] w w') : OpAt w' a s := ⟨fun j u hj => k.cell (h.1 j u hj) (by simp), h.2⟩
theorem Ops.kept {w w' : World} {v : Value} {ss : List OpR} (h : Ops w v ss) (k : Kept [] w w') : Ops w' v ss := by
  obtain ⟨p, c, e, h1, h2, h3, h4⟩ := h
  exact ⟨p, c, e, h1, h2, h3, fun a ha i s hs => (h4 a ha i s hs).kept k⟩
theorem Ops.shape {w : World} {v : Value} {ss : List OpR} (h : Ops w v ss) : ∃ p c, v = .slice p ss.length c ∧ ss.length ≤ maxLen := by
  obtain ⟨p, c, e, h1, h2, -⟩ := h
  exact ⟨p, c, e, by omega⟩
theorem Ops.at {w : World} {v : Value} {ss : List OpR} (h : Ops w v ss) {k : Nat} {s : OpR} (hk : ss[k]? = some s) :
    ∃ b o c, v = .slice (some ⟨b, o, none⟩) ss.length c ∧ (w.cell? ⟨b, o + k * 4, none⟩ = some (.int .i64 s.kind) ∧ w.cell? ⟨b, o + k * 4 + 1, none⟩ = some (.int .i64 s.birth) ∧ w.cell? ⟨b, o + k * 4 + 2, none⟩ = some (.int .i64 s.n) ∧ w.cell? ⟨b, o + k * 4 + 3, none⟩ = some (.int .i64 s.m)) ∧ s.i64 := by
  obtain ⟨p, c, rfl, h1, h2, h3, h4⟩ := h
  have hkl := (List.getElem?_eq_some_iff.1 hk).1
  cases p with
  | none => have := h3 rfl; omega
  | some a =>
    have h0 := (h4 a rfl 0 ss[0] (List.getElem?_eq_getElem (by omega))).1 0 _ rfl
    have hs := spot_of_cell h0
    have hs' : a.spot = none := by
      unfold Addr.add at hs
      split at hs <;> simp_all
    obtain ⟨g, g4⟩ := h4 a rfl k s hk
    obtain ⟨b, o, sp⟩ := a
    simp only at hs'
    subst hs'
    have hA : (⟨b, o, none⟩ : Addr).add (k * 4) = ⟨b, o + k * 4, none⟩ := add_none (a := ⟨b, o, none⟩) rfl (k * 4)
    rw [hA] at g
    have q : ∀ (j : Nat) u, s.cs[j]? = some u → w.cell? ⟨b, o + k * 4 + j, none⟩ = some u := fun j u hj => by have := g j u hj; rw [add_none (a := ⟨b, o + k * 4, none⟩) rfl] at this; exact this
    exact ⟨b, o, c, rfl, ⟨q 0 _ rfl, q 1 _ rfl, q 2 _ rfl, q 3 _ rfl⟩, g4⟩
theorem Op_of {α : Type} {l : List α} (h : l.length = 4) : ∃ a b c d, l = [a, b, c, d] := by
  match l, h with
  | [a, b, c, d], _ => exact ⟨a, b, c, d, rfl⟩
theorem Op_open {H : Type} {enc : TypeId × Value → H} {W : World} {t e : TypeId} {f0 f1 f2 f3 : Field} {ao : Option Addr} {len cap : Nat} {d : DataW H} {p : List MemPlace} (ht : Try.prog.underlying t = some (.slice e)) (he : Try.prog.underlying e = some (.struct #[f0, f1, f2, f3]))
    (ce : Try.prog.cellsOf e = 4) (ho : f0.offset = 0 ∧ f1.offset = 1 ∧ f2.offset = 2 ∧ f3.offset = 3) (hc : Try.prog.cellsOf f0.type = 1 ∧ Try.prog.cellsOf f1.type = 1 ∧ Try.prog.cellsOf f2.type = 1 ∧ Try.prog.cellsOf f3.type = 1) (hu : Try.prog.underlying f0.type = some (.int .i64) ∧ Try.prog.underlying f1.type = some (.int .i64) ∧ Try.prog.underlying f2.type = some (.int .i64) ∧ Try.prog.underlying f3.type = some (.int .i64))
    (h : DataW.Trod enc Try.prog W 0 (fun _ => true) true t (.slice ao len cap) d p) : ∃ ss : List OpR, ss.length = len ∧ Ops W (.slice ao len cap) ss ∧ (d = .nil ∧ len = 0 ∨ ∃ el sp, d = .slice el sp ∧ el.length = len) := by
  obtain ⟨o0, o1, o2, o3⟩ := ho
  obtain ⟨c0, c1, c2, c3⟩ := hc
  obtain ⟨t0, t1, t2, t3⟩ := hu
  obtain ⟨fuel, hf⟩ := h
  rcases open_slice ht hf with ⟨hcs, hx⟩ | ⟨a, l, c, m, n, D, Pl, hcs, hb, hl, hm, hmm, hx, hel⟩
  · simp [Value.cells] at hcs
    obtain ⟨rfl, rfl, rfl⟩ := hcs
    obtain ⟨rfl, rfl⟩ := Prod.mk.inj hx
    exact ⟨[], rfl, ⟨none, 0, rfl, Nat.le_refl _, by simp [maxLen], fun _ => rfl, fun a e => (by cases e)⟩, .inl ⟨rfl, rfl⟩⟩
  · simp [Value.cells] at hcs
    obtain ⟨rfl, rfl, rfl⟩ := hcs
    obtain ⟨rfl, rfl⟩ := Prod.mk.inj hx
    have hmm' : m = cap := by simpa using hmm
    have each : ∀ i, i < m → ∃ q : OpR, OpAt W (a.add (i * 4)) q := by
      intro i hi
      obtain ⟨cs', g1, g2⟩ := hel i hi
      rw [ce] at g1
      obtain ⟨_, hlen, hcell⟩ := World.cells?_some g1
      obtain ⟨xs, k, hk, hxy, _, hxl, hff⟩ := DataW.trod_struct he g2
      obtain ⟨y0, y1, y2, y3, rfl⟩ := Op_of (show xs.length = 4 from hxl)
      obtain ⟨v0, v1, v2, v3, rfl⟩ := Op_of hlen
      have q0 := hff 0 f0 rfl
      have q1 := hff 1 f1 rfl
      have q2 := hff 2 f2 rfl
      have q3 := hff 3 f3 rfl
      simp [o0, o1, o2, o3, c0, c1, c2, c3] at q0 q1 q2 q3
      obtain ⟨z0, e0, -, w0⟩ := DataW.trod_int t0 q0
      obtain ⟨z1, e1, -, w1⟩ := DataW.trod_int t1 q1
      obtain ⟨z2, e2, -, w2⟩ := DataW.trod_int t2 q2
      obtain ⟨z3, e3, -, w3⟩ := DataW.trod_int t3 q3
      simp at e0 e1 e2 e3
      subst e0 e1 e2 e3
      have x0 := hcell 0 (by omega)
      have x1 := hcell 1 (by omega)
      have x2 := hcell 2 (by omega)
      have x3 := hcell 3 (by omega)
      refine ⟨⟨z0, z1, z2, z3⟩, fun j u hj => ?_, i64_of_wf w0, i64_of_wf w1, i64_of_wf w2, i64_of_wf w3⟩
      have hjl := (List.getElem?_eq_some_iff.1 hj).1
      simp only [OpR.cs, List.length_cons, List.length_nil] at hjl
      have q := hcell j (by omega)
      rw [← hj]
      simpa [OpR.cs] using q
    haveI : Inhabited OpR := ⟨⟨0, 0, 0, 0⟩⟩
    obtain ⟨q, hq⟩ := choose_lt17 each
    refine ⟨(List.range len).map q, by simp, ⟨some a, cap, by simp, by simpa using hl, hm, fun e => (by cases e), fun a' e i s hs => ?_⟩, .inr ⟨_, _, rfl, by simp⟩⟩
    cases e
    simp only [List.getElem?_map] at hs
    obtain ⟨j, hj, rfl⟩ := Option.map_eq_some_iff.1 hs
    obtain ⟨hj2, rfl⟩ := List.getElem?_eq_some_iff.1 hj
    have hi : i < len := by simpa using hj2
    simp only [List.getElem_range]
    exact hq i (by omega)
structure LifeR where
  kind : Int
  birth : Int
  n : Int
def LifeR.cs (s : LifeR) : List Value := [.int .i64 s.kind, .int .i64 s.birth, .int .i64 s.n]
def LifeR.i64 (s : LifeR) : Prop := I64 s.kind ∧ I64 s.birth ∧ I64 s.n
def LfAt (w : World) (a : Addr) (s : LifeR) : Prop := (∀ (j : Nat) u, s.cs[j]? = some u → w.cell? (a.add j) = some u) ∧ s.i64
/-- v is a slice of these -/
def Lfs (w : World) (v : Value) (ss : List LifeR) : Prop :=
  ∃ (p : Option Addr) (c : Nat), v = .slice p ss.length c ∧ ss.length ≤ c ∧ c ≤ maxLen ∧ (p = none → c = 0) ∧ ∀ a, p = some a → ∀ (i : Nat) s, ss[i]? = some s → LfAt w (a.add (i * 3)) s
theorem LfAt.kept {w w' : World} {a : Addr} {s : LifeR} (h : LfAt w a s) (k : Kept [] w w') : LfAt w' a s := ⟨fun j u hj => k.cell (h.1 j u hj) (by simp), h.2⟩
theorem Lfs.kept {w w' : World} {v : Value} {ss : List LifeR} (h : Lfs w v ss) (k : Kept [] w w') : Lfs w' v ss := by
  obtain ⟨p, c, e, h1, h2, h3, h4⟩ := h
  exact ⟨p, c, e, h1, h2, h3, fun a ha i s hs => (h4 a ha i s hs).kept k⟩
theorem Lfs.shape {w : World} {v : Value} {ss : List LifeR} (h : Lfs w v ss) : ∃ p c, v = .slice p ss.length c ∧ ss.length ≤ maxLen := by
  obtain ⟨p, c, e, h1, h2, -⟩ := h
  exact ⟨p, c, e, by omega⟩
theorem Lfs.at {w : World} {v : Value} {ss : List LifeR} (h : Lfs w v ss) {k : Nat} {s : LifeR} (hk : ss[k]? = some s) :
    ∃ b o c, v = .slice (some ⟨b, o, none⟩) ss.length c ∧ (w.cell? ⟨b, o + k * 3, none⟩ = some (.int .i64 s.kind) ∧ w.cell? ⟨b, o + k * 3 + 1, none⟩ = some (.int .i64 s.birth) ∧ w.cell? ⟨b, o + k * 3 + 2, none⟩ = some (.int .i64 s.n)) ∧ s.i64 := by
  obtain ⟨p, c, rfl, h1, h2, h3, h4⟩ := h
  have hkl := (List.getElem?_eq_some_iff.1 hk).1
  cases p with
  | none => have := h3 rfl; omega
  | some a =>
    have h0 := (h4 a rfl 0 ss[0] (List.getElem?_eq_getElem (by omega))).1 0 _ rfl
    have hs := spot_of_cell h0
    have hs' : a.spot = none := by
      unfold Addr.add at hs
      split at hs <;> simp_all
    obtain ⟨g, g4⟩ := h4 a rfl k s hk
    obtain ⟨b, o, sp⟩ := a
    simp only at hs'
    subst hs'
    have hA : (⟨b, o, none⟩ : Addr).add (k * 3) = ⟨b, o + k * 3, none⟩ := add_none (a := ⟨b, o, none⟩) rfl (k * 3)
    rw [hA] at g
    have q : ∀ (j : Nat) u, s.cs[j]? = some u → w.cell? ⟨b, o + k * 3 + j, none⟩ = some u := fun j u hj => by have := g j u hj; rw [add_none (a := ⟨b, o + k * 3, none⟩) rfl] at this; exact this
    exact ⟨b, o, c, rfl, ⟨q 0 _ rfl, q 1 _ rfl, q 2 _ rfl⟩, g4⟩
theorem Lf_of {α : Type} {l : List α} (h : l.length = 3) : ∃ a b c, l = [a, b, c] := by
  match l, h with
  | [a, b, c], _ => exact ⟨a, b, c, rfl⟩
theorem Lf_open {H : Type} {enc : TypeId × Value → H} {W : World} {t e : TypeId} {f0 f1 f2 : Field} {ao : Option Addr} {len cap : Nat} {d : DataW H} {p : List MemPlace} (ht : Try.prog.underlying t = some (.slice e)) (he : Try.prog.underlying e = some (.struct #[f0, f1, f2]))
    (ce : Try.prog.cellsOf e = 3) (ho : f0.offset = 0 ∧ f1.offset = 1 ∧ f2.offset = 2) (hc : Try.prog.cellsOf f0.type = 1 ∧ Try.prog.cellsOf f1.type = 1 ∧ Try.prog.cellsOf f2.type = 1) (hu : Try.prog.underlying f0.type = some (.int .i64) ∧ Try.prog.underlying f1.type = some (.int .i64) ∧ Try.prog.underlying f2.type = some (.int .i64))
    (h : DataW.Trod enc Try.prog W 0 (fun _ => true) true t (.slice ao len cap) d p) : ∃ ss : List LifeR, ss.length = len ∧ Lfs W (.slice ao len cap) ss ∧ (d = .nil ∧ len = 0 ∨ ∃ el sp, d = .slice el sp ∧ el.length = len) := by
  obtain ⟨o0, o1, o2⟩ := ho
  obtain ⟨c0, c1, c2⟩ := hc
  obtain ⟨t0, t1, t2⟩ := hu
  obtain ⟨fuel, hf⟩ := h
  rcases open_slice ht hf with ⟨hcs, hx⟩ | ⟨a, l, c, m, n, D, Pl, hcs, hb, hl, hm, hmm, hx, hel⟩
  · simp [Value.cells] at hcs
    obtain ⟨rfl, rfl, rfl⟩ := hcs
    obtain ⟨rfl, rfl⟩ := Prod.mk.inj hx
    exact ⟨[], rfl, ⟨none, 0, rfl, Nat.le_refl _, by simp [maxLen], fun _ => rfl, fun a e => (by cases e)⟩, .inl ⟨rfl, rfl⟩⟩
  · simp [Value.cells] at hcs
    obtain ⟨rfl, rfl, rfl⟩ := hcs
    obtain ⟨rfl, rfl⟩ := Prod.mk.inj hx
    have hmm' : m = cap := by simpa using hmm
    have each : ∀ i, i < m → ∃ q : LifeR, LfAt W (a.add (i * 3)) q := by
      intro i hi
      obtain ⟨cs', g1, g2⟩ := hel i hi
      rw [ce] at g1
      obtain ⟨_, hlen, hcell⟩ := World.cells?_some g1
      obtain ⟨xs, k, hk, hxy, _, hxl, hff⟩ := DataW.trod_struct he g2
      obtain ⟨y0, y1, y2, rfl⟩ := Lf_of (show xs.length = 3 from hxl)
      obtain ⟨v0, v1, v2, rfl⟩ := Lf_of hlen
      have q0 := hff 0 f0 rfl
      have q1 := hff 1 f1 rfl
      have q2 := hff 2 f2 rfl
      simp [o0, o1, o2, c0, c1, c2] at q0 q1 q2
      obtain ⟨z0, e0, -, w0⟩ := DataW.trod_int t0 q0
      obtain ⟨z1, e1, -, w1⟩ := DataW.trod_int t1 q1
      obtain ⟨z2, e2, -, w2⟩ := DataW.trod_int t2 q2
      simp at e0 e1 e2
      subst e0 e1 e2
      have x0 := hcell 0 (by omega)
      have x1 := hcell 1 (by omega)
      have x2 := hcell 2 (by omega)
      refine ⟨⟨z0, z1, z2⟩, fun j u hj => ?_, i64_of_wf w0, i64_of_wf w1, i64_of_wf w2⟩
      have hjl := (List.getElem?_eq_some_iff.1 hj).1
      simp only [LifeR.cs, List.length_cons, List.length_nil] at hjl
      have q := hcell j (by omega)
      rw [← hj]
      simpa [LifeR.cs] using q
    haveI : Inhabited LifeR := ⟨⟨0, 0, 0⟩⟩
    obtain ⟨q, hq⟩ := choose_lt17 each
    refine ⟨(List.range len).map q, by simp, ⟨some a, cap, by simp, by simpa using hl, hm, fun e => (by cases e), fun a' e i s hs => ?_⟩, .inr ⟨_, _, rfl, by simp⟩⟩
    cases e
    simp only [List.getElem?_map] at hs
    obtain ⟨j, hj, rfl⟩ := Option.map_eq_some_iff.1 hs
    obtain ⟨hj2, rfl⟩ := List.getElem?_eq_some_iff.1 hj
    have hi : i < len := by simpa using hj2
    simp only [List.getElem_range]
    exact hq i (by omega)
/-- what a script's calls leave -/
def playR (T : List Tx) (s : OpR) : List Tx := if s.kind = 0 then begT T s.birth else if s.kind = 1 then updT T s.birth s.n else if s.kind = 2 then undT T s.birth s.n else if s.kind = 3 then drpT T s.birth else T
theorem play0 {T : List Tx} {s : OpR} (h : s.kind = 0) : playR T s = begT T s.birth := by simp [playR, h]
theorem play1 {T : List Tx} {s : OpR} (h : s.kind = 1) : playR T s = updT T s.birth s.n := by simp [playR, h]
theorem play2 {T : List Tx} {s : OpR} (h : s.kind = 2) : playR T s = undT T s.birth s.n := by simp [playR, h]
theorem play3 {T : List Tx} {s : OpR} (h : s.kind = 3) : playR T s = drpT T s.birth := by simp [playR, h]
theorem playE {T : List Tx} {s : OpR} (h0 : s.kind ≠ 0) (h1 : s.kind ≠ 1) (h2 : s.kind ≠ 2) (h3 : s.kind ≠ 3) : playR T s = T := by simp [playR, h0, h1, h2, h3]
theorem sz_play {T : List Tx} (h : OkR T) (s : OpR) : szT (playR T s) ≤ szT T + 1 := by
  unfold playR
  split
  · exact sz_beg _ _
  · split
    · exact sz_upd h _ _
    · split
      · exact sz_und h _ _
      · split
        · exact sz_drp h _
        · omega
end Go.Proofs.Ytpbcfkfhkenhpaa

