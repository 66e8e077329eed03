import Derived.WalkKit
import Derived.WalkSpells
import Derived.WalkLawsBesides
import Derived.Laws.CopyOwn
import Derived.Laws.AppendOwnNone
import Derived.Laws.BytesArg
import Derived.Deep.AppendLies
import Derived.Test.YtijmmacpmcbmkaaRows
import Derived.ProofKit
import Derived.OpenShut
import Derived.JoinedCond
import Derived.SizedLaws
import Derived.Deep.Matrix
import Derived.Laws.Bits64
import Derived.Deep.Upon
import Derived.Deep.RegionHeld3
import Derived.Deep.QuietTactic
import Derived.BigQuiet
import Derived.Handy
import Derived.Deep.DeepCutAuto
import Derived.Deep.Slices
import Derived.ChangeKeysEq
import Derived.Laws.StructEq
/-
  OWN WORK. Words for byte slices in memory, whatever the program: 'Bs w v l' (the value v is a slice of the bytes l in w), 'Kept S w w'' (what was there is as it was, but for the blocks of S).
-/
namespace Go.Proofs.Ytijmmacpmcbmkaa
open Go.RowKit
set_option linter.unusedVariables false

/-- the cells that hold these bytes -/
def u8s (l : List UInt8) : List Value := l.map fun x => Value.int .u8 (x.toNat : Int)
theorem u8s_length (l : List UInt8) : (u8s l).length = l.length := by simp [u8s]
theorem u8s_append (a b : List UInt8) : u8s (a ++ b) = u8s a ++ u8s b := by simp [u8s]
theorem u8s_one (l : List UInt8) (u : Value) : u ∈ u8s l → u.oneCell' = true := by
  intro h
  obtain ⟨x, _, rfl⟩ := List.mem_map.1 h
  rfl
theorem u8s_at {l : List UInt8} {j : Nat} {u : Value} (h : (u8s l)[j]? = some u) : ∃ x, l[j]? = some x ∧ u = .int .u8 (x.toNat : Int) := by
  simp only [u8s, List.getElem?_map, Option.map_eq_some_iff] at h
  obtain ⟨x, hx, rfl⟩ := h
  exact ⟨x, hx, rfl⟩

structure Kept (S : List Nat) (w w' : World) : Prop where
  os : w'.os = w.os
  tape : w'.tape = w.tape
  output : w'.output = w.output
  size : w.heap.size ≤ w'.heap.size
  block : ∀ k, k < w.heap.size → k ∉ S → w'.heap[k]? = w.heap[k]?

theorem Kept.refl (S : List Nat) (w : World) : Kept S w w := ⟨rfl, rfl, rfl, Nat.le_refl _, fun _ _ _ => rfl⟩
theorem Kept.trans {S T : List Nat} {a b c : World} (h : Kept S a b) (k : Kept T b c) (hT : ∀ x ∈ T, x ∈ S ∨ a.heap.size ≤ x) : Kept S a c :=
  ⟨k.os.trans h.os, k.tape.trans h.tape, k.output.trans h.output, Nat.le_trans h.size k.size, fun x hx hn =>
    (k.block x (Nat.lt_of_lt_of_le hx h.size) (fun hm => by rcases hT x hm with h' | h'; exact hn h'; omega)).trans (h.block x hx hn)⟩
theorem Kept.then {S : List Nat} {a b c : World} (h : Kept S a b) (k : Kept [] b c) : Kept S a c := h.trans k (by simp)
theorem Kept.mono {S T : List Nat} {a b : World} (h : Kept S a b) (hT : ∀ x ∈ S, x ∈ T) : Kept T a b :=
  ⟨h.os, h.tape, h.output, h.size, fun x hx hn => h.block x hx fun hm => hn (hT x hm)⟩
theorem Kept.alloc {S : List Nat} {a w : World} (h : Kept S a w) (o : Obj) : Kept S a (w.alloc o) :=
  h.trans (T := []) ⟨rfl, rfl, rfl, by simp, fun x hx _ => Below.heap_alloc w o x hx⟩ (by simp)
theorem Kept.drew {S : List Nat} {a w : World} (h : Kept S a w) : Kept S a w.drew := ⟨h.os, h.tape, h.output, h.size, h.block⟩
theorem Kept.below {w w' : World} (h : Kept [] w w') : Below w.heap.size w w' := ⟨h.os, h.tape, h.output, h.size, fun x hx => h.block x hx (by simp)⟩
theorem Kept.ofBelow {w w' : World} (h : Below w.heap.size w w') : Kept [] w w' := ⟨h.os, h.tape, h.output, h.size, fun x hx _ => h.block x hx⟩
theorem Kept.ofGrown {w w' : World} {r : Option Nat} {S : List Nat} (h : w.grownBy w' r) (hr : ∀ k, r = some k → k < w.heap.size → k ∈ S) : Kept S w w' :=
  ⟨h.os, h.tape, h.output, h.size, fun x hx hn => h.block x hx fun e => hn (hr x e.symm hx)⟩
/-- a row of the call's own grew -/
theorem Kept.grown {S : List Nat} {a w w' : World} {r : Option Nat} (h : Kept S a w) (hg : w.grownBy w' r) (hr : ∀ k, r = some k → k ∈ S ∨ a.heap.size ≤ k) : Kept S a w' :=
  h.trans (T := r.toList) (Kept.ofGrown hg (by intro k e _; subst e; simp)) (by intro x hx; exact hr x (by simpa using hx))
theorem Kept.setCell {S : List Nat} {a w : World} (h : Kept S a w) {p : Addr} (hp : p.block ∈ S ∨ a.heap.size ≤ p.block) (u : Value) : Kept S a (w.setCell p u) :=
  h.trans (T := [p.block]) ⟨rfl, rfl, rfl, by simp, fun x hx hn => Below.heap_setCell w p u x (by simpa using hn)⟩ (by intro x hx; simp at hx; subst hx; exact hp)

theorem lt_of_cell {w : World} {a : Addr} {v : Value} (h : w.cell? a = some v) : a.block < w.heap.size := by
  rcases Nat.lt_or_ge a.block w.heap.size with hl | hl
  · exact hl
  · simp [World.cell?, Array.getElem?_eq_none hl] at h
theorem spot_of_cell {w : World} {a : Addr} {v : Value} (h : w.cell? a = some v) : a.spot = none := by
  unfold World.cell? at h
  split at h
  · split at h
    · cases h
    · rename_i hs; simpa using hs
  · cases h
theorem Kept.cell {S : List Nat} {w w' : World} (h : Kept S w w') {a : Addr} {v : Value} (hc : w.cell? a = some v) (hn : a.block ∉ S) : w'.cell? a = some v := by
  rw [World.cell?_of_block (h.block a.block (lt_of_cell hc) hn)]; exact hc
theorem add_block (a : Addr) (i : Nat) : (a.add i).block = a.block := by unfold Addr.add; split <;> rfl
theorem add_none {a : Addr} (h : a.spot = none) (i : Nat) : a.add i = ⟨a.block, a.off + i, none⟩ := by
  obtain ⟨b, o, s⟩ := a
  simp only at h; subst h
  unfold Addr.add; split <;> simp_all

theorem add_add (a : Addr) (k i : Nat) : (a.add k).add i = a.add (k + i) := by
  obtain ⟨b, o, s⟩ := a
  by_cases hk : k = 0
  · subst hk; simp [Addr.add]
  · by_cases hi : i = 0
    · subst hi; simp [Addr.add]
    · simp [Addr.add, hk, hi, Nat.add_assoc]

/-- THE VALUE v IS A SLICE OF THE BYTES l IN w. -/
def Bs (w : World) (v : Value) (l : List UInt8) : Prop :=
  ∃ (p : Option Addr) (c : Nat), v = .slice p l.length c ∧ l.length ≤ c ∧ c ≤ maxLen ∧ (p = none → c = 0) ∧
    ∀ a, p = some a → ∀ (i : Nat) x, l[i]? = some x → w.cell? (a.add i) = some (.int .u8 (x.toNat : Int))

/-- of one byte or more: where it lies -/
theorem Bs.pos {w : World} {v : Value} {l : List UInt8} (h : Bs w v l) (hl : 0 < l.length) :
    ∃ b o c, v = .slice (some ⟨b, o, none⟩) l.length c ∧ l.length ≤ c ∧ c ≤ maxLen ∧ b < w.heap.size ∧ ∀ (i : Nat) x, l[i]? = some x → w.cell? ⟨b, o + i, none⟩ = some (.int .u8 (x.toNat : Int)) := by
  obtain ⟨p, c, rfl, h1, h2, h3, h4⟩ := h
  cases p with
  | none => have := h3 rfl; omega
  | some a =>
    have hc := h4 a rfl 0 l[0] (List.getElem?_eq_getElem hl)
    have hs := spot_of_cell hc
    have hs' : a.spot = none := by
      unfold Addr.add at hs
      split at hs <;> simp_all
    have hb := lt_of_cell hc
    rw [add_block] at hb
    refine ⟨a.block, a.off, c, by obtain ⟨b, o, s⟩ := a; simp_all, h1, h2, hb, fun i x hx => ?_⟩
    rw [← add_none hs' i]
    exact h4 a rfl i x hx

theorem Bs.nil (w : World) : Bs w (.slice none 0 0) [] := ⟨none, 0, rfl, Nat.le_refl _, by simp [maxLen], fun _ => rfl, fun a h => (by cases h)⟩
theorem Bs.mk {w : World} {b o c : Nat} {l : List UInt8} (h1 : l.length ≤ c) (h2 : c ≤ maxLen) (h : ∀ (i : Nat) x, l[i]? = some x → w.cell? ⟨b, o + i, none⟩ = some (.int .u8 (x.toNat : Int))) : Bs w (.slice (some ⟨b, o, none⟩) l.length c) l :=
  ⟨_, c, rfl, h1, h2, fun e => (by cases e), fun a e i x hx => (by cases e; rw [add_none rfl]; exact h i x hx)⟩
/-- carried to a world in which its cells are as they were -/
theorem Bs.carry {w w' : World} {v : Value} {l : List UInt8} (h : Bs w v l) (hc : ∀ (a : Addr) (x : UInt8), w.cell? a = some (.int .u8 (x.toNat : Int)) → v.ownBlock = some a.block → w'.cell? a = some (.int .u8 (x.toNat : Int))) : Bs w' v l := by
  obtain ⟨p, c, rfl, h1, h2, h3, h4⟩ := h
  exact ⟨p, c, rfl, h1, h2, h3, fun a e i x hx => hc _ x (h4 a e i x hx) (by subst e; simp [Value.ownBlock, add_block])⟩
theorem Bs.kept {w w' : World} {v : Value} {l : List UInt8} (h : Bs w v l) (k : Kept [] w w') : Bs w' v l := h.carry fun a x hx _ => k.cell hx (by simp)
/-- block k holds one slice and nothing else: a box that no byte lies in -/
def Box (w : World) (k : Nat) : Prop := ∃ p n c t m, w.heap[k]? = some (.cells #[.slice p n c] t m)
theorem Bs.keptBox {w w' : World} {v : Value} {l : List UInt8} {S : List Nat} (h : Bs w v l) (k : Kept S w w') (hS : ∀ x ∈ S, Box w x ∨ w.heap.size ≤ x) : Bs w' v l := h.carry fun a x hx _ => k.cell hx fun hm => by
  rcases hS _ hm with ⟨p, n, c, t, m, hb⟩ | hb
  · simp only [World.cell?, hb] at hx
    split at hx
    · cases hx
    · rcases ha : a.off with _ | j
      · simp [ha] at hx
      · simp [ha] at hx
  · have := lt_of_cell hx; omega
/-- behind 'kept but for v's own elder rows': its own block is not among those let go -/
theorem Bs.keptOwn {w w' : World} {v : Value} {l : List UInt8} {S : List Nat} (h : Bs w v l) (k : Kept S w w') (hS : ∀ x, v.ownBlock = some x → x ∉ S) : Bs w' v l := h.carry fun a x hx ho => k.cell hx (hS _ ho)

/-- an owned row of bytes is a slice of them -/
theorem Bs.ofOwn {w : World} {base e : Nat} {v : Value} {n : Nat} {l : List UInt8} (h : w.ownsRow base e 1 v n (u8s l)) : Bs w v l := by
  have hn : n = l.length := by have := h.1; rw [u8s_length] at this; omega
  subst hn
  rcases h.2 with ⟨rfl, h0⟩ | ⟨g, cap, cur, rfl, _, hg, h1, h2, h3, h4⟩
  · have : l = [] := List.eq_nil_of_length_eq_zero h0
    subst this
    exact Bs.nil w
  · refine Bs.mk h1 h2 fun i x hx => ?_
    have hc := h.cells (g := g) rfl i (.int .u8 (x.toNat : Int)) (by simp [u8s, hx])
    rw [add_none rfl] at hc
    exact hc
theorem own_ge {w : World} {base e size : Nat} {v : Value} {n : Nat} {xs : List Value} (h : w.ownsRow base e size v n xs) (k : Nat) (hk : v.ownBlock = some k) : base ≤ k := (h.lt k hk).1

/-- 'string(b)' -/
theorem Bs.convert {P : Program} {w : World} {v : Value} {l : List UInt8} (h : Bs w v l) {src dst e : TypeId} (hs : P.underlying src = some (.slice e)) (he : P.underlying e = some (.int .u8)) (hd : P.underlying dst = some .string) :
    (convert src dst v).run P w = .ok (.string ⟨l.toArray⟩) w := by
  obtain ⟨p, c, rfl, h1, h2, h3, h4⟩ := h
  cases p with
  | none =>
    have hc := h3 rfl
    have : l = [] := List.eq_nil_of_length_eq_zero (by omega)
    subst this
    rw [run_convert_bytes_nil w src e hs he _ _ dst hd]
    rfl
  | some a =>
    have hl : (loadCells a l.length).run P w = .ok ((l.map fun x => (x.toNat : Int)).map (Value.int .u8)).toArray w := by
      have := run_loadCells_list (P := P) w a ((l.map fun x => (x.toNat : Int)).map (Value.int .u8)) (fun j v hj => by
        simp only [List.getElem?_map, Option.map_eq_some_iff] at hj
        obtain ⟨_, ⟨x, hx, rfl⟩, rfl⟩ := hj
        exact h4 a rfl j x hx)
      simpa using this
    rw [run_convert_bytes_string w src dst e _ _ c hs he hd, run_bytesToString w _ _ c _ hl, foldl_push_bytes]
    simp [ByteArray.empty, ByteArray.emptyWithCapacity, List.map_map]
    congr 1
    rw [show (List.map ((fun n => UInt8.ofNat n.toNat) ∘ fun x : UInt8 => (x.toNat : Int)) l) = l from by
      conv => rhs; rw [← List.map_id l]
      exact List.map_congr_left (fun x _ => by simp)]
    rfl

/-- 'b[:k]' and 'b[k:]' -/
theorem Bs.cut {P : Program} {w : World} {p : Option Addr} {c : Nat} {l : List UInt8} (h : Bs w (.slice p l.length c) l) {k : Nat} (hk : k ≤ l.length) :
    Bs w (.slice p k c) (l.take k) ∧ Bs w (.slice (if c = k then p else p.map (·.add k)) (l.length - k) (c - k)) (l.drop k) := by
  obtain ⟨p', c', e, h1, h2, h3, h4⟩ := h
  cases e
  refine ⟨⟨p, c, by simp [Nat.min_eq_left hk], by simp; omega, h2, h3, fun a e i x hx => h4 a e i x ?_⟩, ⟨(if c = k then p else p.map (·.add k)), c - k, by rw [List.length_drop], by simp; omega, by omega, ?_, ?_⟩⟩
  · rw [List.getElem?_take] at hx; split at hx
    · exact hx
    · cases hx
  · intro e
    by_cases hc : c = k
    · omega
    · rw [if_neg hc] at e
      have := h3 (by simpa using e)
      omega
  · intro a e i x hx
    have hi : i < l.length - k := by simpa using (List.getElem?_eq_some_iff.1 hx).1
    by_cases hc : c = k
    · omega
    · rw [if_neg hc] at e
      obtain ⟨a', rfl, rfl⟩ := Option.map_eq_some_iff.1 e
      rw [List.getElem?_drop] at hx
      have := h4 a' rfl (k + i) x hx
      have e2 : (a'.add k).add i = a'.add (k + i) := add_add a' k i
      rw [e2]; exact this

/-- an index into a constant text, where its run is known -/
theorem wpList_index_str {P : Program} {w : World} {ops : Array Oper} {rest : List Oper} {o : Oper} {a : Act} {Q : Exit → Act → World → Prop} (hgd : o.guard = none) (t : TypeId) (S : ByteArray) (x : Operand)
    (ho : o.op = .index t (.const (.string S)) x) (k : IntKind) (i : Int) (n : Int) (hx : a.eval x = .int k i) (hr : ∀ w, (Instr.index t (.string S) (.int k i)).run P w = .ok (.int .u8 n) w)
    (h : wpList P ops Q rest (a.put o.dst (.int .u8 n)) w) : wpList P ops Q (o :: rest) a w := by
  refine wpList_plain hgd fun K hK => ?_
  unfold Oper.wp
  have e : a.eval (.const (.string S)) = .string S := rfl
  simp [execOp, ho, hx, hr, e, Result.andThen]
  exact hK _ _ h
end Go.Proofs.Ytijmmacpmcbmkaa

/-
  OWN WORK. append, copy, make and the cuts of byte slices as laws for the walk, whatever the program.
-/
namespace Go.Proofs.Ytijmmacpmcbmkaa
open Go.RowKit
set_option linter.unusedVariables false

/-- 'append(out, b...)': out the call's own row of bytes, b any slice of bytes (nil too). -/
theorem wpList_append_bs {P : Program} {w : World} {ops : Array Oper} {rest : List Oper} {o : Oper} {a : Act} {Q : Exit → Act → World → Prop} (hgd : o.guard = none) (s x : Operand) (t : TypeId)
    (ho : o.op = .call { callee := .builtin .append, args := #[s, x], argTypes := #[t, t] }) (base : Nat) (e : TypeId) (hu : P.underlying t = some (.slice e))
    (hinf : (P.info? e).map (fun i => (i.zero, i.size, i.bytes)) = some (some (.int .u8 0), 1, 1))
    (v : Value) (n : Nat) (xs : List Value) (hs : a.eval s = v) (hown : w.ownsRow base e 1 v n xs) (sv : Value) (l : List UInt8) (hx : a.eval x = sv) (hb : Bs w sv l)
    (hroom : n + l.length ≤ 140737488355328) (hbase : base ≤ w.heap.size)
    (h : ∀ v' w', w'.ownsRow base e 1 v' (n + l.length) (xs ++ u8s l) → w.grownBy w' v.ownBlock → (v'.ownBlock = v.ownBlock ∨ v'.ownBlock = some w.heap.size) → wpList P ops Q rest (a.put o.dst v') w') :
    wpList P ops Q (o :: rest) a w := by
  obtain ⟨i, hi, hz, hsz, hby⟩ := info_parts hinf
  obtain ⟨p, c, rfl, h1, h2, h3, h4⟩ := hb
  cases p with
  | none =>
    have hc := h3 rfl
    subst hc
    obtain rfl : l = [] := List.eq_nil_of_length_eq_zero (by omega)
    refine wpList_append_own_none hgd s x t ho base e i 1 hu hi v n xs hs hown hx ?_
    exact h v w (by simpa [u8s] using hown) (World.grownBy.refl _ _) (.inl rfl)
  | some ad =>
    refine wpList_plain hgd fun K hK => ?_
    obtain ⟨v', w', hr, k1, k2, _, k4⟩ := run_append_own_at (P := P) w base t o.type e i (.int .u8 0) 1 1 hu hi hz hsz hby rfl (by decide) v n xs hown ad l.length c (u8s l) (by simp [u8s])
      (fun j u hj => by obtain ⟨y, hy, rfl⟩ := u8s_at hj; exact h4 ad rfl j y hy) (u8s_one l) (by unfold maxLen; omega) (by omega) hbase
    unfold Oper.wp execOp
    simp only [ho, resolve, invoke, builtin, Sem.run_bind, Sem.run_pure, Result.andThen_ok, List.map_toArray, List.map_cons, List.map_nil, hs, hx, hr]
    exact hK _ _ (h v' w' k1 k2 k4)

/-- the same at a step of a region that draws its order -/
theorem step_append_bs {P : Program} {w : World} {ops : Array Oper} {o : Oper} {a : Act} {K : Act → World → Prop} {Q : Exit → Act → World → Prop} {E : Prop} (hgd : o.guard = none) (s x : Operand) (t : TypeId)
    (ho : o.op = .call { callee := .builtin .append, args := #[s, x], argTypes := #[t, t] }) (base : Nat) (e : TypeId) (hu : P.underlying t = some (.slice e))
    (hinf : (P.info? e).map (fun i => (i.zero, i.size, i.bytes)) = some (some (.int .u8 0), 1, 1))
    (v : Value) (n : Nat) (xs : List Value) (hs : a.eval s = v) (hown : w.ownsRow base e 1 v n xs) (sv : Value) (l : List UInt8) (hx : a.eval x = sv) (hb : Bs w sv l)
    (hroom : n + l.length ≤ 140737488355328) (hbase : base ≤ w.heap.size)
    (h : ∀ v' w', w'.ownsRow base e 1 v' (n + l.length) (xs ++ u8s l) → w.grownBy w' v.ownBlock → (v'.ownBlock = v.ownBlock ∨ v'.ownBlock = some w.heap.size) → K (a.put o.dst v') w') :
    if Region.wanted o (yielded ops a.tmps) = true then Oper.wp P o a w K Q else E := by
  have hw : Region.wanted o (yielded ops a.tmps) = true := by simp [Region.wanted, hgd]
  rw [if_pos hw]
  obtain ⟨i, hi, hz, hsz, hby⟩ := info_parts hinf
  obtain ⟨p, c, rfl, h1, h2, h3, h4⟩ := hb
  cases p with
  | none =>
    have hc := h3 rfl
    subst hc
    obtain rfl : l = [] := List.eq_nil_of_length_eq_zero (by omega)
    have hrun := run_append_owned_none (P := P) (w := w) base t o.type e i 1 hu hi v n xs hown
    have hx' : a.eval x = .slice none 0 0 := hx
    unfold Oper.wp execOp
    simp only [ho, resolve, invoke, builtin, Sem.run_bind, Sem.run_pure, Result.andThen_ok, List.map_toArray, List.map_cons, List.map_nil, hs, hx', hrun]
    exact h v w (by simpa [u8s] using hown) (World.grownBy.refl _ _) (.inl rfl)
  | some ad =>
    obtain ⟨v', w', hr, k1, k2, _, k4⟩ := run_append_own_at (P := P) w base t o.type e i (.int .u8 0) 1 1 hu hi hz hsz hby rfl (by decide) v n xs hown ad l.length c (u8s l) (by simp [u8s])
      (fun j u hj => by obtain ⟨y, hy, rfl⟩ := u8s_at hj; exact h4 ad rfl j y hy) (u8s_one l) (by unfold maxLen; omega) (by omega) hbase
    unfold Oper.wp execOp
    simp only [ho, resolve, invoke, builtin, Sem.run_bind, Sem.run_pure, Result.andThen_ok, List.map_toArray, List.map_cons, List.map_nil, hs, hx, hr]
    exact h v' w' k1 k2 k4
/-- 'copy(out, b)': out the call's own row, as long as b. -/
theorem wpList_copy_bs {P : Program} {w : World} {ops : Array Oper} {rest : List Oper} {o : Oper} {a : Act} {Q : Exit → Act → World → Prop} (hgd : o.guard = none) (d s : Operand) (t : TypeId)
    (ho : o.op = .call { callee := .builtin .copy, args := #[d, s], argTypes := #[t, t] }) (base : Nat) (e : TypeId) (hu : P.underlying t = some (.slice e))
    (hsz : (P.info? e).map (·.size) = some 1)
    (v : Value) (n : Nat) (xs : List Value) (hd : a.eval d = v) (hown : w.ownsRow base e 1 v n xs) (sv : Value) (l : List UInt8) (hx : a.eval s = sv) (hb : Bs w sv l) (hn : l.length = n)
    (h : ∀ w', w'.ownsRow base e 1 v n (u8s l) → w.grownBy w' v.ownBlock → wpList P ops Q rest (a.put o.dst (goInt n)) w') : wpList P ops Q (o :: rest) a w := by
  subst hn
  obtain ⟨p, c, rfl, h1, h2, h3, h4⟩ := hb
  by_cases h0 : l.length = 0
  · obtain rfl : l = [] := List.eq_nil_of_length_eq_zero h0
    have hxs : xs = [] := List.eq_nil_of_length_eq_zero (by simpa using hown.1)
    subst hxs
    obtain ⟨dp, dc, rfl⟩ : ∃ dp dc, v = .slice dp 0 dc := by
      rcases hown.2 with ⟨rfl, _⟩ | ⟨g, cap, cur, rfl, _⟩
      · exact ⟨_, _, rfl⟩
      · exact ⟨_, _, rfl⟩
    refine wpList_copy_nothing hgd d s t t ho e hu hsz dp p 0 dc 0 c hd hx rfl ?_
    exact h w hown (World.grownBy.refl _ _)
  · cases p with
    | none => have := h3 rfl; omega
    | some ad =>
      rcases hown.2 with ⟨rfl, hz⟩ | ⟨g, cap, cur, rfl, hbg, hg, hnc, hcm, hcs, htk⟩
      · omega
      · refine wpList_copy_own hgd d s t t ho e hu hsz g 0 l.length cap ad l.length c hd hx cur e hg (u8s l) (by simp [u8s]) (fun j u hj => by obtain ⟨y, hy, rfl⟩ := u8s_at hj; exact h4 ad rfl j y hy) (by rw [u8s_length]; omega) (u8s_one l) ?_
        rw [u8s_length]
        have hgl : g < w.heap.size := (Array.getElem?_eq_some_iff.1 hg).1
        refine h _ ⟨by simp [u8s], .inr ⟨g, cap, _, rfl, hbg, setRow_heap w g cur _ e (0, 0) hg, hnc, hcm, ?_, ?_⟩⟩ ⟨rfl, rfl, rfl, by simp [World.setRow], fun k hk hne => setRow_other w g k _ (by intro e2; subst e2; exact hne rfl)⟩
        · simp [u8s_length]; omega
        · simp
          rw [List.take_append_of_le_length (by rw [u8s_length]; omega)]
          exact List.take_of_length_le (by rw [u8s_length]; omega)

/-- 'make([]byte, n, c)' -/
theorem run_make_bs {P : Program} (w : World) (t e : TypeId) (hu : P.underlying t = some (.slice e)) (hinf : (P.info? e).map (fun i => (i.zero, i.size, i.bytes)) = some (some (.int .u8 0), 1, 1))
    (n c : Nat) (hnc : n ≤ c) (hc : c ≤ 281474976710656) :
    (Instr.makeSlice t (.int .i64 (n : Int)) (.int .i64 (c : Int))).run P w = .ok (.slice (some ⟨w.heap.size, 0, none⟩) n c) (w.alloc (.cells (madeCells #[.int .u8 0] c) e)) := by
  obtain ⟨i, hi, hz, hsz, hby⟩ := info_parts hinf
  have h := run_make (P := P) w t e i (.int .u8 0) hu hi hz .i64 .i64 (n : Int) (c : Int) (by omega) (by omega) (by rw [hby]; omega) (by omega)
  rw [h, hsz]
  simp [Value.cells]
theorem own_made (w : World) (e base n c : Nat) (hb : base ≤ w.heap.size) (hnc : n ≤ c) (hc : c ≤ maxLen) :
    (w.alloc (.cells (madeCells #[.int .u8 0] c) e)).ownsRow base e 1 (.slice (some ⟨w.heap.size, 0, none⟩) n c) n (u8s (List.replicate n 0)) := by
  refine ⟨by simp [u8s], .inr ⟨w.heap.size, c, _, rfl, hb, heap_alloc_new w _, hnc, hc, by simp [size_madeCells], ?_⟩⟩
  rw [toList_madeCells_one]
  simp [u8s, Nat.min_eq_left hnc]
/-- one byte in a block of its own, as 'append(out, x)' lays it -/
theorem Bs.one (w : World) (e : TypeId) (n : Int) (y : UInt8) (hn : n = (y.toNat : Int)) : Bs (w.alloc (.cells #[.int .u8 n] e)) (.slice (some ⟨w.heap.size, 0, none⟩) 1 1) [y] := by
  subst hn
  exact Bs.mk (l := [y]) (by simp) (by simp [maxLen]) fun i x hx => by
    rcases i with _ | i
    · simp at hx; subst hx
      have := World.news_of_block (heap_alloc_new w (.cells #[.int .u8 (y.toNat : Int)] e)) 0 (.int .u8 (y.toNat : Int)) (by simp)
      rwa [add_none rfl] at this
    · simp at hx
/-- a literal's bytes in a block of their own -/
theorem Bs.lit (w : World) (e : TypeId) (l : List UInt8) (cs : Array Value) (hcs : cs = (u8s l).toArray) (hl : l.length ≤ maxLen) : Bs (w.alloc (.cells cs e)) (.slice (some ⟨w.heap.size, 0, none⟩) l.length l.length) l := by
  subst hcs
  exact Bs.mk (Nat.le_refl _) hl fun i x hx => by
    have := World.news_of_block (heap_alloc_new w (.cells (u8s l).toArray e)) i (.int .u8 (x.toNat : Int)) (by simp [u8s, hx])
    rwa [add_none rfl] at this
theorem Bs.litAt (w : World) (e : TypeId) (l : List UInt8) (cs : Array Value) (hcs : cs = (u8s l).toArray) (hl : l.length ≤ maxLen) (H : Nat) (hH : w.heap.size = H) : Bs (w.alloc (.cells cs e)) (.slice (some ⟨H, 0, none⟩) l.length l.length) l := by
  subst hH
  exact Bs.lit w e l cs hcs hl
theorem own_of_lit (w : World) (e base : Nat) (l : List UInt8) (hb : base ≤ w.heap.size) (hl : l.length ≤ maxLen) : (w.alloc (.cells (u8s l).toArray e)).ownsRow base e 1 (.slice (some ⟨w.heap.size, 0, none⟩) l.length l.length) l.length (u8s l) :=
  ⟨by simp [u8s], .inr ⟨w.heap.size, l.length, _, rfl, hb, heap_alloc_new w _, Nat.le_refl _, hl, by simp [u8s], by simp only [Nat.mul_one]; exact List.take_of_length_le (by simp [u8s])⟩⟩
end Go.Proofs.Ytijmmacpmcbmkaa

/-
  OWN WORK. The cuts 'b[:k]', 'b[k:]' of a slice of bytes, run; a reader's box.
-/
namespace Go.Proofs.Ytijmmacpmcbmkaa
open Go.RowKit
set_option linter.unusedVariables false

theorem run_cut_to {P : Program} (w : World) (t e : TypeId) (hu : P.underlying t = some (.slice e)) (hsz : (P.info? e).map (·.size) = some 1) (p : Option Addr) (n c k : Nat) (hk : k ≤ c) :
    (Instr.slice t (.slice p n c) none (some (.int .i64 (k : Int))) none).run P w = .ok (.slice p k c) w := by
  obtain ⟨i, hi, hs⟩ := Option.map_eq_some_iff.1 hsz
  have e0 : Option.map (fun x : Addr => x.add 0) p = p := by cases p <;> simp [Addr.add]
  simp [Instr.slice, run_underlying hu, Instr.sliceBounds, run_sliceBound, sizeOf, typeInfo, hi, e0, (by omega : (k : Int) ≤ (c : Int))]
theorem run_cut_from {P : Program} (w : World) (t e : TypeId) (hu : P.underlying t = some (.slice e)) (hsz : (P.info? e).map (·.size) = some 1) (p : Option Addr) (n c k : Nat) (hk : k ≤ n) :
    (Instr.slice t (.slice p n c) (some (.int .i64 (k : Int))) none none).run P w = .ok (.slice (if c = k then p else p.map (·.add k)) (n - k) (c - k)) w := by
  obtain ⟨i, hi, hs⟩ := Option.map_eq_some_iff.1 hsz
  simp [Instr.slice, run_underlying hu, Instr.sliceBounds, run_sliceBound, sizeOf, typeInfo, hi, hs, (by omega : (k : Int) ≤ (n : Int))]

theorem run_cut_mid {P : Program} (w : World) (t e : TypeId) (hu : P.underlying t = some (.slice e)) (hsz : (P.info? e).map (·.size) = some 1) (p : Option Addr) (n c k m : Nat) (hm : k + m ≤ c) :
    (Instr.slice t (.slice p n c) (some (.int .i64 (k : Int))) (some (.int .i64 ((k : Int) + (m : Int)))) none).run P w = .ok (.slice (if c = k then p else p.map (·.add k)) m (c - k)) w := by
  obtain ⟨i, hi, hs⟩ := Option.map_eq_some_iff.1 hsz
  have e1 : ((k : Int) + (m : Int)).toNat = k + m := by omega
  simp [Instr.slice, run_underlying hu, Instr.sliceBounds, run_sliceBound, sizeOf, typeInfo, hi, hs, e1, (by omega : (k : Int) + (m : Int) ≤ (c : Int)), (by omega : 0 ≤ (k : Int) + (m : Int))]
  rw [run_sliceBound (P := P) w .i64 (k : Int) (k + m) .sliceB (by omega) (by omega)]
  simp [Result.andThen]
theorem Bs.heap {w w' : World} {v : Value} {l : List UInt8} (hw : w'.heap = w.heap) (h : Bs w v l) : Bs w' v l := h.carry fun a x hx _ => by rw [World.cell?_of_block (w := w) (by rw [hw])]; exact hx
/-- 'b[k:k+m]' -/
theorem Bs.mid {P : Program} (t e : TypeId) (hu : P.underlying t = some (.slice e)) (hsz : (P.info? e).map (·.size) = some 1) {w : World} {p : Option Addr} {n c : Nat} {l : List UInt8} (h : Bs w (.slice p n c) l) (k m : Nat) (hk : k + m ≤ n) :
    ∃ p2, (∀ u, (Instr.slice t (.slice p n c) (some (.int .i64 (k : Int))) (some (.int .i64 ((k : Int) + (m : Int)))) none).run P u = .ok (.slice p2 m (c - k)) u) ∧ Bs w (.slice p2 m (c - k)) ((l.drop k).take m) := by
  obtain ⟨p', c', e', h1, h2, -⟩ := id h
  cases e'
  have hc := (h.cut (P := P) (k := k) (by omega)).2
  have hd := (Bs.cut (P := P) (c := c - k) (l := l.drop k) (by simpa using hc) (k := m) (by simp; omega)).1
  exact ⟨_, fun u => run_cut_mid u t e hu hsz p _ c k m (by omega), hd⟩
/-- both cuts of a slice of bytes, with what they hold -/
theorem Bs.cuts {P : Program} (t e : TypeId) (hu : P.underlying t = some (.slice e)) (hsz : (P.info? e).map (·.size) = some 1) {w : World} {p : Option Addr} {n c : Nat} {l : List UInt8} (h : Bs w (.slice p n c) l) (k : Nat) (hk : k ≤ n) :
    ∃ p2, (∀ u, (Instr.slice t (.slice p n c) none (some (.int .i64 (k : Int))) none).run P u = .ok (.slice p k c) u) ∧
      (∀ u, (Instr.slice t (.slice p n c) (some (.int .i64 (k : Int))) none none).run P u = .ok (.slice p2 (n - k) (c - k)) u) ∧ Bs w (.slice p k c) (l.take k) ∧ Bs w (.slice p2 (n - k) (c - k)) (l.drop k) := by
  obtain ⟨p', c', e', h1, h2, -⟩ := id h
  cases e'
  have hc := h.cut (P := P) hk
  exact ⟨_, fun u => run_cut_to u t e hu hsz p _ c k (by omega), fun u => run_cut_from u t e hu hsz p _ c k hk, hc.1, hc.2⟩

/-- A READER: block g holds one slice, of the bytes l that are left. -/
def Rd (t : TypeId) (w : World) (g : Nat) (l : List UInt8) : Prop :=
  ∃ p n c, w.heap[g]? = some (.cells #[.slice p n c] t (0, 0)) ∧ Bs w (.slice p n c) l
theorem Rd.box {t : TypeId} {w : World} {g : Nat} {l : List UInt8} (h : Rd t w g l) : Box w g := by
  obtain ⟨p, n, c, h1, _⟩ := h
  exact ⟨p, n, c, t, _, h1⟩
theorem Rd.lt {t : TypeId} {w : World} {g : Nat} {l : List UInt8} (h : Rd t w g l) : g < w.heap.size := by
  obtain ⟨p, n, c, h1, _⟩ := h
  exact (Array.getElem?_eq_some_iff.1 h1).1
/-- a reader is as it was where neither it nor a byte was touched -/
theorem Rd.kept {t : TypeId} {w w' : World} {g : Nat} {l : List UInt8} {S : List Nat} (h : Rd t w g l) (k : Kept S w w') (hS : ∀ x ∈ S, x ≠ g ∧ (Box w x ∨ w.heap.size ≤ x)) : Rd t w' g l := by
  have hl := h.lt
  obtain ⟨p, n, c, h1, h2⟩ := h
  exact ⟨p, n, c, (k.block g hl (fun hm => (hS g hm).1 rfl)).trans h1, h2.keptBox k fun x hx => (hS x hx).2⟩
theorem Box.kept {w w' : World} {x : Nat} {S : List Nat} (h : Box w x) (k : Kept S w w') (hn : x ∉ S) : Box w' x := by
  obtain ⟨p, n, c, t, m, hb⟩ := h
  exact ⟨p, n, c, t, m, (k.block x (Array.getElem?_eq_some_iff.1 hb).1 hn).trans hb⟩
theorem Rd.fresh {t : TypeId} {w : World} {p : Option Addr} {n c : Nat} {l : List UInt8} (h : Bs w (.slice p n c) l) : Rd t (w.alloc (.cells #[.slice p n c] t)) w.heap.size l :=
  ⟨p, n, c, heap_alloc_new w _, h.kept ((Kept.refl [] w).alloc _)⟩
theorem Rd.cell {t : TypeId} {w : World} {g : Nat} {p : Option Addr} {n c : Nat} (h : w.heap[g]? = some (.cells #[.slice p n c] t (0, 0))) : w.cell? ⟨g, 0, none⟩ = some (.slice p n c) ∧ w.frozen? ⟨g, 0, none⟩ = false :=
  ⟨cell_of_one h, free_of_one h⟩
/-- the reader's box is written: the new slice in it -/
theorem Rd.set {t : TypeId} {w : World} {g : Nat} {p p' : Option Addr} {n c n' c' : Nat} {l' : List UInt8} (h : w.heap[g]? = some (.cells #[.slice p n c] t (0, 0))) (hb : Bs w (.slice p' n' c') l') :
    Rd t (w.setCell ⟨g, 0, none⟩ (.slice p' n' c')) g l' ∧ Kept [g] w (w.setCell ⟨g, 0, none⟩ (.slice p' n' c')) := by
  have hk : Kept [g] w (w.setCell ⟨g, 0, none⟩ (.slice p' n' c')) := (Kept.refl [g] w).setCell (.inl (by simp)) _
  refine ⟨⟨p', n', c', one_setCell h, hb.keptBox hk fun x hx => .inl ?_⟩, hk⟩
  simp at hx; subst hx
  exact ⟨p, n, c, t, _, h⟩
theorem own_mono {w : World} {b b' e size : Nat} {v : Value} {n : Nat} {xs : List Value} (h : w.ownsRow b e size v n xs) (hb : b' ≤ b) : w.ownsRow b' e size v n xs := by
  refine ⟨h.1, ?_⟩
  rcases h.2 with h | ⟨g, cap, cur, h1, h2, h3⟩
  · exact .inl h
  · exact .inr ⟨g, cap, cur, h1, Nat.le_trans hb h2, h3⟩
end Go.Proofs.Ytijmmacpmcbmkaa

/-
  OWN WORK. A slice of slices of bytes; rows of the call's own.
-/
namespace Go.Proofs.Ytijmmacpmcbmkaa
open Go.RowKit
set_option linter.unusedVariables false

theorem Kept.drewN' {S : List Nat} {a w : World} (h : Kept S a w) (n : Nat) : Kept S a (w.drewN n) := ⟨h.os, h.tape, h.output, h.size, h.block⟩
/-- THE VALUE v IS A SLICE OF SLICES OF THESE BYTES IN w. -/
def Bss (w : World) (v : Value) (ls : List (List UInt8)) : Prop :=
  ∃ (p : Option Addr) (c : Nat), v = .slice p ls.length c ∧ ls.length ≤ c ∧ c ≤ maxLen ∧ (p = none → c = 0) ∧
    ∀ a, p = some a → ∀ (i : Nat) l, ls[i]? = some l → ∃ q d, w.cell? (a.add i) = some (.slice q l.length d) ∧ Bs w (.slice q l.length d) l
theorem Bss.pos {w : World} {v : Value} {ls : List (List UInt8)} (h : Bss w v ls) (hl : 0 < ls.length) :
    ∃ b o c, v = .slice (some ⟨b, o, none⟩) ls.length c ∧ ls.length ≤ c ∧ c ≤ maxLen ∧ b < w.heap.size ∧
      ∀ (i : Nat) l, ls[i]? = some l → ∃ q d, w.cell? ⟨b, o + i, none⟩ = some (.slice q l.length d) ∧ Bs w (.slice q l.length d) l := by
  obtain ⟨p, c, rfl, h1, h2, h3, h4⟩ := h
  cases p with
  | none => have := h3 rfl; omega
  | some a =>
    obtain ⟨q, d, hc, _⟩ := h4 a rfl 0 ls[0] (List.getElem?_eq_getElem hl)
    have hs := spot_of_cell hc
    have hs' : a.spot = none := by
      unfold Addr.add at hs
      split at hs <;> simp_all
    have hb := lt_of_cell hc
    rw [add_block] at hb
    refine ⟨a.block, a.off, c, by obtain ⟨b, o, s⟩ := a; simp_all, h1, h2, hb, fun i x hx => ?_⟩
    rw [← add_none hs' i]
    exact h4 a rfl i x hx
theorem Bss.kept {w w' : World} {v : Value} {ls : List (List UInt8)} (h : Bss w v ls) (k : Kept [] w w') : Bss w' v ls := by
  obtain ⟨p, c, rfl, h1, h2, h3, h4⟩ := h
  refine ⟨p, c, rfl, h1, h2, h3, fun a e i l hl => ?_⟩
  obtain ⟨q, d, hc, hb⟩ := h4 a e i l hl
  exact ⟨q, d, k.cell hc (by simp), hb.kept k⟩
/-- a literal's slices in a block of their own -/
theorem Bss.lit (w : World) (e : TypeId) (vs : List Value) (ls : List (List UInt8)) (hl : vs.length = ls.length) (hm : ls.length ≤ maxLen) (hB : ∀ (i : Nat) v l, vs[i]? = some v → ls[i]? = some l → Bs w v l) (H : Nat) (hH : w.heap.size = H) :
    Bss (w.alloc (.cells vs.toArray e)) (.slice (some ⟨H, 0, none⟩) ls.length ls.length) ls := by
  subst hH
  refine ⟨_, ls.length, rfl, Nat.le_refl _, hm, fun e => (by cases e), fun a ha i l hi => ?_⟩
  cases ha
  have hv : i < vs.length := by rw [hl]; exact (List.getElem?_eq_some_iff.1 hi).1
  have hb := hB i vs[i] l (List.getElem?_eq_getElem hv) hi
  obtain ⟨q, d, hq, -⟩ := id hb
  refine ⟨q, d, ?_, ?_⟩
  · have := World.news_of_block (heap_alloc_new w (.cells vs.toArray e)) i vs[i] (by simp)
    rw [← hq]
    exact this
  · rw [← hq]
    exact hb.kept ((Kept.refl [] w).alloc _)
/-- the rows one behind the other -/
def flat (ls : List (List UInt8)) : List UInt8 := ls.flatten
theorem flat_nil : flat [] = [] := rfl
theorem flat_take (ls : List (List UInt8)) (k : Nat) (l : List UInt8) (h : ls[k]? = some l) : flat (ls.take (k + 1)) = flat (ls.take k) ++ l := by
  obtain ⟨hk, rfl⟩ := List.getElem?_eq_some_iff.1 h
  unfold flat
  rw [List.take_succ_eq_append_getElem hk, List.flatten_append]
  simp
theorem flat_le (ls : List (List UInt8)) (k : Nat) : (flat (ls.take k)).length ≤ (flat ls).length := by
  unfold flat
  have : ls.flatten = (ls.take k).flatten ++ (ls.drop k).flatten := by rw [← List.flatten_append, List.take_append_drop]
  rw [this, List.length_append]; omega

theorem own_shape2 {w : World} {base e size : Nat} {v : Value} {n : Nat} {xs : List Value} (h : w.ownsRow base e size v n xs) : ∃ p c, v = .slice p n c := by
  rcases h.2 with ⟨rfl, rfl⟩ | ⟨g, cap, cur, rfl, _⟩
  · exact ⟨_, _, rfl⟩
  · exact ⟨_, _, rfl⟩
theorem Bss.lit1 (w : World) (e : TypeId) (a : Value) (la : List UInt8) (ha : Bs w a la) (H : Nat) (hH : w.heap.size = H) : Bss (w.alloc (.cells #[a] e)) (.slice (some ⟨H, 0, none⟩) 1 1) [la] :=
  Bss.lit w e [a] [la] rfl (by simp [maxLen]) (by
    intro i v l h1 h2
    match i, h1, h2 with
    | 0, h1, h2 => simp at h1 h2; subst h1; subst h2; exact ha
    | i + 1, h1, h2 => simp at h1) H hH
theorem Bss.lit2 (w : World) (e : TypeId) (a b : Value) (la lb : List UInt8) (ha : Bs w a la) (hb : Bs w b lb) (H : Nat) (hH : w.heap.size = H) : Bss (w.alloc (.cells #[a, b] e)) (.slice (some ⟨H, 0, none⟩) 2 2) [la, lb] :=
  Bss.lit w e [a, b] [la, lb] rfl (by simp [maxLen]) (by
    intro i v l h1 h2
    match i, h1, h2 with
    | 0, h1, h2 => simp at h1 h2; subst h1; subst h2; exact ha
    | 1, h1, h2 => simp at h1 h2; subst h1; subst h2; exact hb
    | i + 2, h1, h2 => simp at h1) H hH
theorem Bss.lit3 (w : World) (e : TypeId) (a b c : Value) (la lb lc : List UInt8) (ha : Bs w a la) (hb : Bs w b lb) (hc : Bs w c lc) (H : Nat) (hH : w.heap.size = H) : Bss (w.alloc (.cells #[a, b, c] e)) (.slice (some ⟨H, 0, none⟩) 3 3) [la, lb, lc] :=
  Bss.lit w e [a, b, c] [la, lb, lc] rfl (by simp [maxLen]) (by
    intro i v l h1 h2
    match i, h1, h2 with
    | 0, h1, h2 => simp at h1 h2; subst h1; subst h2; exact ha
    | 1, h1, h2 => simp at h1 h2; subst h1; subst h2; exact hb
    | 2, h1, h2 => simp at h1 h2; subst h1; subst h2; exact hc
    | i + 3, h1, h2 => simp at h1) H hH
/-- rows made behind a literal's block -/
theorem own_late {w w' : World} {o : Obj} {e n : Nat} {v : Value} {xs : List Value} (h : w'.ownsRow (w.alloc o).heap.size e 1 v n xs) : w'.ownsRow w.heap.size e 1 v n xs := by
  refine ⟨h.1, ?_⟩
  rcases h.2 with h1 | ⟨g, cap, cur, h1, h2, h3⟩
  · exact .inl h1
  · exact .inr ⟨g, cap, cur, h1, Nat.le_trans (by simp) h2, h3⟩

end Go.Proofs.Ytijmmacpmcbmkaa

/-
  OWN WORK. What a reading of an argument says in the words of 'Bs' and 'Bss', and what the bound gives of it.
-/
namespace Go.Proofs.Ytijmmacpmcbmkaa
open Go.ChangeShapes Go.WideShapes Go.ChangeAt Go.RowKit Go.Deep
set_option linter.unusedVariables false

theorem own : ownKnob Try.prog.godebug = none := by kernel_rfl
theorem laidOut : laidOutB Try.prog = true := by kernel_rfl

theorem bulk_one {H : Type} (d : DataW H) : 1 ≤ Rows.uptoBulk d := by
  cases d with
  | lit l => cases l <;> simp [Rows.uptoBulk]
  | nil => simp [Rows.uptoBulk]
  | ptr d => simp [Rows.uptoBulk]
  | slice elems spare => simp [Rows.uptoBulk]
  | agg parts => simp [Rows.uptoBulk]
  | iface t d => simp [Rows.uptoBulk]
  | map entries => simp [Rows.uptoBulk]
  | held h => simp [Rows.uptoBulk]
theorem bulk_length {H : Type} (l : List (DataW H)) : l.length ≤ Rows.uptoBulkAll l := by
  induction l with
  | nil => simp [Rows.uptoBulkAll]
  | cons x r ih => have := bulk_one x; simp only [Rows.uptoBulkAll, List.length_cons]; omega
theorem bulk_append {H : Type} (l r : List (DataW H)) : Rows.uptoBulkAll (l ++ r) = Rows.uptoBulkAll l + Rows.uptoBulkAll r := by
  induction l with
  | nil => simp [Rows.uptoBulkAll]
  | cons x l ih => simp only [List.cons_append, Rows.uptoBulkAll, ih]; omega

/-- the bytes that these numbers are -/
def bytesOfInts (zs : List Int) : List UInt8 := zs.map fun n => UInt8.ofNat n.toNat
theorem bytes_length (zs : List Int) : (bytesOfInts zs).length = zs.length := by simp [bytesOfInts]
theorem byte_wf {n : Int} (h : (Lit.int .u8 n).wf = true) : ((UInt8.ofNat n.toNat).toNat : Int) = n := by
  have hx : 0 ≤ n ∧ n ≤ 255 := by simpa [Lit.wf, IntKind.min, IntKind.max, IntKind.signed, IntKind.bits] using h
  rw [UInt8.toNat_ofNat']
  omega
theorem bs_cells {w : World} {ao : Option Addr} {len cap : Nat} {zs : List Int} (hl : len ≤ cap) (hm : cap ≤ maxLen) (hz : zs.length = cap) (hn : ao = none → cap = 0)
    (hc : ∀ a, ao = some a → ∀ i, i < cap → w.cell? (a.add i) = some (.int .u8 (zs.getD i 0))) (hw : ∀ n ∈ zs, (Lit.int .u8 n).wf = true) : Bs w (.slice ao len cap) (bytesOfInts (zs.take len)) := by
  have hlen : (bytesOfInts (zs.take len)).length = len := by rw [bytes_length, List.length_take]; omega
  refine ⟨ao, cap, by rw [hlen], by omega, hm, hn, fun a ha i x hx => ?_⟩
  have hi : i < len := by rw [← hlen]; exact (List.getElem?_eq_some_iff.1 hx).1
  rw [hc a ha i (by omega)]
  have e : x = UInt8.ofNat (zs.getD i 0).toNat := by
    simp only [bytesOfInts, List.getElem?_map, List.getElem?_take, hi, if_true] at hx
    obtain ⟨y, hy, rfl⟩ := Option.map_eq_some_iff.1 hx
    simp [List.getD, hy]
  rw [e, byte_wf (hw _ ?_)]
  rw [List.getD, List.getElem?_eq_getElem (by omega)]
  exact List.getElem_mem _

theorem bs_open {H : Type} {enc : TypeId × Value → H} {W : World} {t e : TypeId} {ao : Option Addr} {len cap : Nat} {d : DataW H} {p : List MemPlace} (ht : Try.prog.underlying t = some (.slice e)) (he : Try.prog.underlying e = some (.int .u8)) (hc : Try.prog.cellsOf e = 1)
    (h : DataW.Trod enc Try.prog W 0 (fun _ => true) true t (.slice ao len cap) d p) : ∃ l : List UInt8, l.length = len ∧ Bs W (.slice ao len cap) l ∧ l.length + 1 ≤ Rows.uptoBulk d ∧ (d = .nil ∧ len = 0 ∨ ∃ el sp, d = .slice el sp ∧ el.length = len) := by
  obtain ⟨fuel, hf⟩ := h
  rcases open_ints ht he hc hf with ⟨hcs, hx⟩ | ⟨x, n, c, zs, hcs, _, hl, hm, hz, hx, hcell, hwz⟩
  · simp [Value.cells] at hcs
    obtain ⟨rfl, rfl, rfl⟩ := hcs
    obtain ⟨rfl, rfl⟩ := Prod.mk.inj hx
    exact ⟨[], rfl, Bs.nil W, by simp [Rows.uptoBulk], .inl ⟨rfl, rfl⟩⟩
  · simp [Value.cells] at hcs
    obtain ⟨rfl, rfl, rfl⟩ := hcs
    obtain ⟨rfl, rfl⟩ := Prod.mk.inj hx
    have hz' : zs.length = cap := by simpa using hz
    have hlen : (bytesOfInts (zs.take len)).length = len := by rw [bytes_length, List.length_take]; omega
    refine ⟨bytesOfInts (zs.take len), hlen, bs_cells hl hm hz' (fun e => by cases e) (fun a ha i hi => by cases ha; exact hcell i (by omega)) hwz, ?_, .inr ⟨_, _, rfl, by simp [lits]; omega⟩⟩
    rw [hlen]
    have h1 := bulk_length (lits (H := H) .u8 (zs.take len))
    simp only [Rows.uptoBulk]
    simp only [lits, List.length_map, List.length_take] at h1 ⊢
    omega

/-- the form's own reach, of a slice of bytes -/
theorem sized_len {H : Type} {ts : List TypeId} {ds : List (DataW H)} {j : Nat} {t e : TypeId} {d : DataW H} {len : Nat} (hsz : (DataW.weightsEach Try.prog ts ds).all (· ≤ reachBytes) = true) (ht : ts[j]? = some t) (hd : ds[j]? = some d)
    (hu : Try.prog.underlying t = some (.slice e)) (hb : Try.prog.bytesOf e = 1) (h : d = .nil ∧ len = 0 ∨ ∃ el sp, d = .slice el sp ∧ el.length = len) : len ≤ 140737488351232 := by
  rcases h with ⟨_, rfl⟩ | ⟨el, sp, rfl, rfl⟩
  · omega
  · have := sized_slice hsz ht hd hu
    rw [hb] at this
    simp only [reachBytes] at this
    omega

theorem bss_open {H : Type} {enc : TypeId × Value → H} {W : World} {t e q : TypeId} {ao : Option Addr} {len cap : Nat} {d : DataW H} {p : List MemPlace} (ht : Try.prog.underlying t = some (.slice e)) (he : Try.prog.underlying e = some (.slice q)) (hq : Try.prog.underlying q = some (.int .u8))
    (ce : Try.prog.cellsOf e = 1) (cq : Try.prog.cellsOf q = 1) (h : DataW.Trod enc Try.prog W 0 (fun _ => true) true t (.slice ao len cap) d p) : ∃ ls : List (List UInt8), Bss W (.slice ao len cap) ls ∧ (flat ls).length + ls.length + 1 ≤ Rows.uptoBulk d := by
  obtain ⟨fuel, hf⟩ := h
  rcases open_int_rows ht he hq ce cq hf with ⟨hcs, hx⟩ | ⟨a, n, c, A, L, C, Z, hcs, _, hl, hm, hx, hr⟩
  · simp [Value.cells] at hcs
    obtain ⟨rfl, rfl, rfl⟩ := hcs
    obtain ⟨rfl, rfl⟩ := Prod.mk.inj hx
    exact ⟨[], ⟨none, 0, rfl, Nat.le_refl _, by simp [maxLen], fun _ => rfl, fun a e => (by cases e)⟩, by simp [Rows.uptoBulk, flat]⟩
  · simp [Value.cells] at hcs
    obtain ⟨rfl, rfl, rfl⟩ := hcs
    obtain ⟨rfl, rfl⟩ := Prod.mk.inj hx
    have hlr : ∀ r, r < cap → (bytesOfInts ((Z r).take (L r))).length = L r := fun r h => by
      obtain ⟨_, h1, _, h3, _⟩ := hr r h
      rw [bytes_length, List.length_take]; omega
    refine ⟨(List.range len).map fun r => bytesOfInts ((Z r).take (L r)), ⟨some a, cap, by simp, by simpa using hl, hm, fun e => (by cases e), fun a' e i l hi => ?_⟩, ?_⟩
    · cases e
      simp only [List.getElem?_map] at hi
      obtain ⟨r, hr1, rfl⟩ := Option.map_eq_some_iff.1 hi
      obtain ⟨hr2, rfl⟩ := List.getElem?_eq_some_iff.1 hr1
      have hr3 : i < len := by simpa using hr2
      simp only [List.getElem_range]
      obtain ⟨k1, k2, k3, k4, k5, k6, k7⟩ := hr i (by omega)
      rw [hlr i (by omega)]
      exact ⟨A i, C i, k1, bs_cells k2 k3 k4 k6 (fun a' ha j hj => (k7 a' ha).2 j hj) k5⟩
    · have key : ∀ (m : Nat), m ≤ len → (flat ((List.range m).map fun r => bytesOfInts ((Z r).take (L r)))).length + m ≤ Rows.uptoBulkAll ((List.range m).map fun r => intRow (H := H) .u8 (A r) (L r) (Z r)) := by
        intro m
        induction m with
        | zero => intro _; simp [flat, Rows.uptoBulkAll]
        | succ m ih =>
          intro hm'
          have := ih (by omega)
          rw [List.range_succ, List.map_append, List.map_append, bulk_append]
          have e1 : (flat (((List.range m).map fun r => bytesOfInts ((Z r).take (L r))) ++ [m].map fun r => bytesOfInts ((Z r).take (L r)))).length = (flat ((List.range m).map fun r => bytesOfInts ((Z r).take (L r)))).length + L m := by
            unfold flat
            rw [List.flatten_append, List.length_append]
            simp only [List.map_cons, List.map_nil, List.flatten_cons, List.flatten_nil, List.append_nil]
            rw [hlr m (by omega)]
          rw [e1]
          have e2 : L m + 1 ≤ Rows.uptoBulkAll ([m].map fun r => intRow (H := H) .u8 (A r) (L r) (Z r)) := by
            obtain ⟨k1, k2, k3, k4, k5, k6, k7⟩ := hr m (by omega)
            simp only [List.map_cons, List.map_nil, Rows.uptoBulkAll]
            cases ha : A m with
            | none => have := k6 ha; simp [intRow, Rows.uptoBulk]; omega
            | some y =>
              have h1 := bulk_length (lits (H := H) .u8 ((Z m).take (L m)))
              simp only [intRow, Rows.uptoBulk]
              simp only [lits, List.length_map, List.length_take] at h1 ⊢
              omega
          omega
      have := key len (Nat.le_refl _)
      simp only [Rows.uptoBulk, List.length_map, List.length_range]
      omega
end Go.Proofs.Ytijmmacpmcbmkaa

/-
  OWN WORK. Locks (layer 15) in plain words: of each of sixteen pages its birth (0: none).
-/
namespace Go.Proofs.Ytijmmacpmcbmkaa
set_option linter.unusedVariables false

def isP (p : Int) : Prop := 0 ≤ p ∧ p < 16
instance (p : Int) : Decidable (isP p) := inferInstanceAs (Decidable (0 ≤ p ∧ p < 16))
/-- who holds it -/
def whoL (hs : List Int) (p : Int) : Int := if isP p then hs.getD p.toNat 0 else 0
def isBirth (b : Int) : Prop := 1 ≤ b ∧ b ≤ 1152921504606846976
instance (b : Int) : Decidable (isBirth b) := inferInstanceAs (Decidable (1 ≤ b ∧ b ≤ 1152921504606846976))
def takeE (hs : List Int) (p b : Int) : Int := if ¬ isP p then 61 else if ¬ isBirth b then 30 else if whoL hs p ≠ 0 ∧ whoL hs p ≠ b then 150 else 0
def takeH (hs : List Int) (p b : Int) : List Int := if takeE hs p b = 0 then hs.set p.toNat b else hs
def giveB (hs : List Int) (p : Int) : Bool := decide (whoL hs p ≠ 0)
def giveH (hs : List Int) (p : Int) : List Int := if whoL hs p ≠ 0 then hs.set p.toNat 0 else hs
/-- the pages of b among the first n -/
def heldN (hs : List Int) (b : Int) : Nat → List Int
  | 0 => []
  | n + 1 => if b ≠ 0 ∧ hs.getD n 0 = b then heldN hs b n ++ [(n : Int)] else heldN hs b n
def heldL (hs : List Int) (b : Int) : List Int := heldN hs b 16
def dropH (hs : List Int) (b : Int) : List Int := hs.map fun x => if x = b then 0 else x
/-- sixteen pages, each free or held by a birth -/
structure OkH (hs : List Int) : Prop where
  len : hs.length = 16
  all : ∀ x ∈ hs, x = 0 ∨ isBirth x
theorem okH_new : OkH (List.replicate 16 0) := ⟨by simp, fun x hx => .inl (by simpa using List.eq_of_mem_replicate hx)⟩
theorem OkH.take {hs : List Int} (h : OkH hs) (p b : Int) : OkH (takeH hs p b) := by
  unfold takeH
  split
  · rename_i e
    refine ⟨by rw [List.length_set]; exact h.len, fun x hx => ?_⟩
    rcases List.mem_or_eq_of_mem_set hx with q | q
    · exact h.all x q
    · subst q
      refine .inr ?_
      unfold takeE at e
      split at e
      · exact absurd e (by decide)
      · split at e
        · exact absurd e (by decide)
        · rename_i q; exact Decidable.not_not.1 q
  · exact h
theorem OkH.give {hs : List Int} (h : OkH hs) (p : Int) : OkH (giveH hs p) := by
  unfold giveH
  split
  · refine ⟨by rw [List.length_set]; exact h.len, fun x hx => ?_⟩
    rcases List.mem_or_eq_of_mem_set hx with q | q
    · exact h.all x q
    · exact .inl q
  · exact h
theorem OkH.drop {hs : List Int} (h : OkH hs) (b : Int) : OkH (dropH hs b) := by
  refine ⟨by rw [dropH, List.length_map]; exact h.len, fun x hx => ?_⟩
  obtain ⟨y, hy, rfl⟩ := List.mem_map.1 hx
  split
  · exact .inl rfl
  · exact h.all y hy
theorem heldN_length (hs : List Int) (b : Int) : ∀ n, (heldN hs b n).length ≤ n
  | 0 => by simp [heldN]
  | n + 1 => by
    have := heldN_length hs b n
    unfold heldN
    split
    · simp; omega
    · omega
theorem heldN_mem (hs : List Int) (b : Int) : ∀ n x, x ∈ heldN hs b n ↔ ∃ k : Nat, k < n ∧ x = (k : Int) ∧ b ≠ 0 ∧ hs.getD k 0 = b
  | 0, x => by simp [heldN]
  | n + 1, x => by
    have ih := heldN_mem hs b n x
    unfold heldN
    split
    · rename_i q
      rw [List.mem_append, ih]
      constructor
      · rintro (⟨k, h1, h2⟩ | h)
        · exact ⟨k, by omega, h2⟩
        · exact ⟨n, by omega, by simpa using h, q⟩
      · rintro ⟨k, h1, rfl, h3⟩
        by_cases e : k = n
        · subst e; exact .inr (by simp)
        · exact .inl ⟨k, by omega, rfl, h3⟩
    · rename_i q
      rw [ih]
      constructor
      · rintro ⟨k, h1, h2⟩; exact ⟨k, by omega, h2⟩
      · rintro ⟨k, h1, h2, h3⟩
        by_cases e : k = n
        · subst e; exact absurd h3 q
        · exact ⟨k, by omega, h2, h3⟩
/-- the first j of those that are let go -/
def goneTo (hs : List Int) (l : List Int) : Nat → List Int
  | 0 => hs
  | j + 1 => (goneTo hs l j).set (l.getD j 0).toNat 0
theorem goneTo_length (hs l : List Int) : ∀ j, (goneTo hs l j).length = hs.length
  | 0 => rfl
  | j + 1 => by rw [goneTo, List.length_set]; exact goneTo_length hs l j
theorem goneTo_get (hs l : List Int) (k : Nat) : ∀ j, j ≤ l.length → (goneTo hs l j).getD k 0 = if (∃ i, i < j ∧ (l.getD i 0).toNat = k) then 0 else hs.getD k 0
  | 0, _ => by simp [goneTo]
  | j + 1, hj => by
    have ih := goneTo_get hs l k j (by omega)
    rw [goneTo, List.getD_eq_getElem?_getD, List.getElem?_set]
    by_cases e : (l.getD j 0).toNat = k
    · have hx : ∃ i, i < j + 1 ∧ (l.getD i 0).toNat = k := ⟨j, by omega, e⟩
      rw [if_pos e, if_pos hx]
      split <;> simp
    · rw [if_neg e, ← List.getD_eq_getElem?_getD, ih]
      have : (∃ i, i < j + 1 ∧ (l.getD i 0).toNat = k) ↔ (∃ i, i < j ∧ (l.getD i 0).toNat = k) := by
        constructor
        · rintro ⟨i, h1, h2⟩
          by_cases c : i = j
          · subst c; exact absurd h2 e
          · exact ⟨i, by omega, h2⟩
        · rintro ⟨i, h1, h2⟩; exact ⟨i, by omega, h2⟩
      simp only [this]
theorem goneTo_all {hs : List Int} (h : hs.length = 16) (b : Int) : goneTo hs (heldL hs b) (heldL hs b).length = dropH hs b := by
  apply List.ext_getElem (by rw [goneTo_length, dropH, List.length_map])
  intro k h1 h2
  have q := goneTo_get hs (heldL hs b) k _ (Nat.le_refl _)
  rw [goneTo_length] at h1
  have e1 : (goneTo hs (heldL hs b) (heldL hs b).length)[k] = (goneTo hs (heldL hs b) (heldL hs b).length).getD k 0 := by rw [List.getD_eq_getElem?_getD, List.getElem?_eq_getElem (by rw [goneTo_length]; exact h1)]; rfl
  have e2 : hs.getD k 0 = hs[k] := by rw [List.getD_eq_getElem?_getD, List.getElem?_eq_getElem h1]; rfl
  rw [e1, q]
  simp only [dropH, List.getElem_map]
  rw [← e2]
  by_cases c : hs.getD k 0 = b
  · rw [if_pos c]
    by_cases hb : b = 0
    · rw [c, hb]; simp
    · have hm : (k : Int) ∈ heldL hs b := (heldN_mem hs b 16 k).2 ⟨k, by omega, rfl, hb, c⟩
      obtain ⟨i, hi, e⟩ := List.getElem_of_mem hm
      rw [if_pos ⟨i, hi, by rw [List.getD_eq_getElem?_getD, List.getElem?_eq_getElem hi, e]; simp⟩]
  · rw [if_neg c, if_neg]
    rintro ⟨i, hi, e⟩
    have hm : (heldL hs b)[i] ∈ heldN hs b 16 := List.getElem_mem hi
    obtain ⟨m, h3, h4, h5, h6⟩ := (heldN_mem hs b 16 _).1 hm
    rw [List.getD_eq_getElem?_getD, List.getElem?_eq_getElem hi] at e
    simp only [Option.getD_some] at e
    rw [h4] at e
    simp at e
    subst e
    exact c h6
theorem isP_nat {p : Int} (h : isP p) : ∃ k : Nat, k < 16 ∧ p = (k : Int) := ⟨p.toNat, by have := h.1; have := h.2; omega, by have := h.1; omega⟩
theorem isP_of {k : Nat} (h : k < 16) : isP (k : Int) := ⟨by omega, by omega⟩
theorem whoL_nat (hs : List Int) {k : Nat} (h : k < 16) : whoL hs (k : Int) = hs.getD k 0 := by unfold whoL; rw [if_pos (isP_of h)]; rfl
theorem whoL_out (hs : List Int) {p : Int} (h : ¬ isP p) : whoL hs p = 0 := if_neg h
theorem take_place (hs : List Int) {p : Int} (b : Int) (h : ¬ isP p) : takeE hs p b = 61 ∧ takeH hs p b = hs := by
  have e : takeE hs p b = 61 := if_pos h
  exact ⟨e, by unfold takeH; rw [e]; rfl⟩
theorem take_range (hs : List Int) {p b : Int} (h : isP p) (hb : ¬ isBirth b) : takeE hs p b = 30 ∧ takeH hs p b = hs := by
  have e : takeE hs p b = 30 := by unfold takeE; rw [if_neg (by simpa using h), if_pos hb]
  exact ⟨e, by unfold takeH; rw [e]; rfl⟩
theorem take_busy (hs : List Int) {k : Nat} {b : Int} (h : k < 16) (hb : isBirth b) (h1 : hs.getD k 0 ≠ 0) (h2 : hs.getD k 0 ≠ b) : takeE hs (k : Int) b = 150 ∧ takeH hs (k : Int) b = hs := by
  have e : takeE hs (k : Int) b = 150 := by unfold takeE; rw [if_neg (by simpa using isP_of h), if_neg (by simpa using hb), whoL_nat hs h, if_pos ⟨h1, h2⟩]
  exact ⟨e, by unfold takeH; rw [e]; rfl⟩
theorem take_ok (hs : List Int) {k : Nat} {b : Int} (h : k < 16) (hb : isBirth b) (h1 : hs.getD k 0 = 0 ∨ hs.getD k 0 = b) : takeE hs (k : Int) b = 0 ∧ takeH hs (k : Int) b = hs.set k b := by
  have e : takeE hs (k : Int) b = 0 := by
    unfold takeE
    rw [if_neg (by simpa using isP_of h), if_neg (by simpa using hb), whoL_nat hs h, if_neg]
    rintro ⟨c1, c2⟩
    rcases h1 with q | q
    · exact c1 q
    · exact c2 q
  exact ⟨e, by unfold takeH; rw [e]; rfl⟩
theorem give_no (hs : List Int) {p : Int} (h : whoL hs p = 0) : giveB hs p = false ∧ giveH hs p = hs := ⟨by simp [giveB, h], by simp [giveH, h]⟩
theorem give_yes (hs : List Int) {k : Nat} (h : k < 16) (h1 : hs.getD k 0 ≠ 0) : giveB hs (k : Int) = true ∧ giveH hs (k : Int) = hs.set k 0 := by
  have e : whoL hs (k : Int) ≠ 0 := by rw [whoL_nat hs h]; exact h1
  exact ⟨by simp [giveB, e], by simp [giveH, e]⟩
end Go.Proofs.Ytijmmacpmcbmkaa

/-
  OWN WORK. Plain arithmetic: numbers as bytes, the lowest first.
-/
namespace Go.Proofs.Ytijmmacpmcbmkaa
set_option linter.unusedVariables false

/-- the number that these bytes are -/
def low : List UInt8 → Nat
  | [] => 0
  | x :: r => x.toNat + 256 * low r
/-- n bytes of a number, the lowest first -/
def lay (n v : Nat) : List UInt8 := (List.range n).map fun i => UInt8.ofNat (v / 256 ^ i)

theorem low_lt (l : List UInt8) : low l < 256 ^ l.length := by
  induction l with
  | nil => simp [low]
  | cons x r ih =>
    have := x.toNat_lt
    simp only [low, List.length_cons, Nat.pow_succ]
    omega
theorem low_append (a b : List UInt8) : low (a ++ b) = low a + 256 ^ a.length * low b := by
  induction a with
  | nil => simp [low]
  | cons x r ih =>
    simp only [List.cons_append, low, ih, List.length_cons, Nat.pow_succ, Nat.mul_add]
    rw [Nat.mul_comm (256 ^ r.length) 256, Nat.mul_assoc]
    omega
theorem low_take (l : List UInt8) (k : Nat) (h : k < l.length) : low (l.take (k + 1)) = low (l.take k) + l[k].toNat * 256 ^ k := by
  rw [List.take_succ_eq_append_getElem h, low_append]
  have : (l.take k).length = k := by simp; omega
  rw [this]
  simp [low, Nat.mul_comm]
theorem low_take_lt (l : List UInt8) (k : Nat) (h : k ≤ l.length) : low (l.take k) < 256 ^ k := by
  have := low_lt (l.take k)
  rwa [show (l.take k).length = k by simp; omega] at this
theorem pow256 (k : Nat) : 256 ^ k = 2 ^ (8 * k) := by rw [Nat.pow_mul]
theorem low_lt64 (l : List UInt8) (h : l.length ≤ 8) : low l < 18446744073709551616 := by
  have h1 := low_lt l
  have h2 : 256 ^ l.length ≤ 256 ^ 8 := Nat.pow_le_pow_right (by omega) h
  have h3 : 256 ^ 8 = 18446744073709551616 := by decide
  omega

theorem bits_or_u64_nat (a b : Nat) (ha : a < 18446744073709551616) (hb : b < 18446744073709551616) :
    bits .or .u64 (a : Int) (b : Int) = ((a ||| b : Nat) : Int) := by
  have hx : a ||| b < 2 ^ 64 := Nat.or_lt_two_pow (by omega) (by omega)
  have h1 : (BitVec.ofInt 64 (a : Int)).toNat = a := by
    rw [BitVec.ofInt_natCast, BitVec.toNat_ofNat]; exact Nat.mod_eq_of_lt (by omega)
  have h2 : (BitVec.ofInt 64 (b : Int)).toNat = b := by
    rw [BitVec.ofInt_natCast, BitVec.toNat_ofNat]; exact Nat.mod_eq_of_lt (by omega)
  show IntKind.u64.wrap ((BitVec.ofInt 64 (a : Int) ||| BitVec.ofInt 64 (b : Int)).toNat : Int) = _
  rw [BitVec.toNat_or, h1, h2, IntKind.wrap_u64]
  omega
theorem bits_and_u64_nat (a b : Nat) (ha : a < 18446744073709551616) (hb : b < 18446744073709551616) :
    bits .and .u64 (a : Int) (b : Int) = ((a &&& b : Nat) : Int) := by
  have hx : a &&& b < 2 ^ 64 := Nat.and_lt_two_pow _ (by omega)
  have h1 : (BitVec.ofInt 64 (a : Int)).toNat = a := by
    rw [BitVec.ofInt_natCast, BitVec.toNat_ofNat]; exact Nat.mod_eq_of_lt (by omega)
  have h2 : (BitVec.ofInt 64 (b : Int)).toNat = b := by
    rw [BitVec.ofInt_natCast, BitVec.toNat_ofNat]; exact Nat.mod_eq_of_lt (by omega)
  show IntKind.u64.wrap ((BitVec.ofInt 64 (a : Int) &&& BitVec.ofInt 64 (b : Int)).toNat : Int) = _
  rw [BitVec.toNat_and, h1, h2, IntKind.wrap_u64]
  omega

/-- one byte more, from above: 'v |= uint64(x) << (8 * i)' -/
theorem or_byte (a k : Nat) (x : UInt8) (h : a < 256 ^ k) (hk : k < 8) :
    bits .or .u64 (a : Int) (IntKind.u64.wrap (IntKind.u64.wrap (x.toNat : Int) * 2 ^ (8 * k))) = ((a + x.toNat * 256 ^ k : Nat) : Int) := by
  have hx := x.toNat_lt
  have h1 : IntKind.u64.wrap (x.toNat : Int) = (x.toNat : Int) := by rw [IntKind.wrap_u64]; omega
  have hp : 256 ^ (k + 1) ≤ 256 ^ 8 := Nat.pow_le_pow_right (by omega) (by omega)
  have h8 : 256 ^ 8 = 18446744073709551616 := by decide
  have hpk : 0 < 256 ^ k := Nat.pow_pos (by omega)
  have hm : x.toNat * 256 ^ k ≤ 255 * 256 ^ k := Nat.mul_le_mul_right _ (by omega)
  have hs : 256 ^ (k + 1) = 256 ^ k * 256 := Nat.pow_succ ..
  have h2 : IntKind.u64.wrap ((x.toNat : Int) * 2 ^ (8 * k)) = ((x.toNat * 256 ^ k : Nat) : Int) := by
    have e : ((x.toNat : Int) * 2 ^ (8 * k)) = ((x.toNat * 256 ^ k : Nat) : Int) := by rw [pow256]; simp
    rw [e, IntKind.wrap_u64]
    omega
  rw [h1, h2, bits_or_u64_nat _ _ (by omega) (by omega)]
  have := Nat.two_pow_add_eq_or_of_lt (i := 8 * k) (b := a) (by rw [← pow256]; exact h) x.toNat
  rw [Nat.or_comm, Nat.mul_comm, pow256, ← this, Nat.add_comm]
theorem low_or (l : List UInt8) (k : Nat) (h : k < l.length) (h8 : l.length ≤ 8) :
    bits .or .u64 (low (l.take k) : Int) (IntKind.u64.wrap (IntKind.u64.wrap (l[k].toNat : Int) * 2 ^ (8 * k))) = (low (l.take (k + 1)) : Int) := by
  rw [or_byte _ _ _ (low_take_lt l k (by omega)) (by omega), low_take l k h]

theorem lay_length (n v : Nat) : (lay n v).length = n := by simp [lay]
theorem lay_succ (n v : Nat) : lay (n + 1) v = lay n v ++ [UInt8.ofNat (v / 256 ^ n)] := by simp [lay, List.range_succ]
theorem lay_zero (v : Nat) : lay 0 v = [] := rfl
theorem low_lay (n v : Nat) : low (lay n v) = v % 256 ^ n := by
  induction n with
  | zero => simp [lay, low, Nat.mod_one]
  | succ n ih =>
    rw [lay_succ, low_append, ih, lay_length]
    simp only [low, Nat.mul_zero, Nat.add_zero, UInt8.toNat_ofNat']
    have e : v % 256 ^ (n + 1) = v % 256 ^ n + 256 ^ n * (v / 256 ^ n % 256) := by rw [Nat.pow_succ, Nat.mod_mul]
    rw [e]
theorem lay_cons (n v : Nat) : lay (n + 1) v = UInt8.ofNat v :: lay n (v / 256) := by
  simp only [lay, List.range_succ_eq_map, List.map_cons, List.map_map]
  simp only [Nat.pow_zero, Nat.div_one]
  congr 1
  apply List.map_congr_left
  intro i _
  simp only [Function.comp]
  rw [Nat.div_div_eq_div_mul, Nat.pow_succ, Nat.mul_comm]
theorem byte_of (x k : Nat) : (x : Int) / 2 ^ (8 * k) % 256 = ((UInt8.ofNat (x / 256 ^ k)).toNat : Int) := by
  rw [UInt8.toNat_ofNat', pow256]
  have : ((2 : Int) ^ (8 * k)) = ((2 ^ (8 * k) : Nat) : Int) := by simp
  rw [this]
  generalize 2 ^ (8 * k) = m
  rw [← Int.natCast_ediv]
  show ((x / m : Nat) : Int) % ((256 : Nat) : Int) = _
  rw [← Int.natCast_emod]
theorem wrap_u8 {x : Nat} (h : x < 256 ^ 1) : IntKind.u8.wrap (x : Int) = (x : Int) := by
  simp only [IntKind.wrap, IntKind.bits, IntKind.signed]
  have : 256 ^ 1 = 256 := by decide
  simp
  omega
theorem wrap_u16 {x : Nat} (h : x < 256 ^ 2) : IntKind.u16.wrap (x : Int) = (x : Int) := by
  simp only [IntKind.wrap, IntKind.bits, IntKind.signed]
  have : 256 ^ 2 = 65536 := by decide
  simp
  omega
theorem wrap_u32 {x : Nat} (h : x < 256 ^ 4) : IntKind.u32.wrap (x : Int) = (x : Int) := by
  simp only [IntKind.wrap, IntKind.bits, IntKind.signed]
  have : 256 ^ 4 = 4294967296 := by decide
  simp
  omega
theorem byte_mod (z : Nat) : (z : Int) % 256 = ((UInt8.ofNat z).toNat : Int) := by
  rw [UInt8.toNat_ofNat']
  omega
theorem low_drop (l : List UInt8) (j : Nat) (h : j < l.length) : low (l.drop j) = l[j].toNat + 256 * low (l.drop (j + 1)) := by
  rw [List.drop_eq_getElem_cons h, low]
theorem get_step (z : Nat) (x : UInt8) (h : x.toNat + 256 * z < 18446744073709551616) :
    IntKind.u64.wrap (IntKind.u64.wrap ((z : Int) * 256) + IntKind.u64.wrap (x.toNat : Int)) = ((x.toNat + 256 * z : Nat) : Int) := by
  rw [IntKind.wrap_u64, IntKind.wrap_u64, IntKind.wrap_u64]
  omega
theorem div_step (z : Nat) (h : z < 18446744073709551616) : IntKind.u64.wrap ((z : Int) / 256) = ((z / 256 : Nat) : Int) := by
  rw [IntKind.wrap_u64]
  omega
theorem get_bound (l : List UInt8) (n j : Nat) (hl : n ≤ l.length) (hj : j < n) (h8 : n ≤ 8) : low ((l.take n).drop j) = l[j].toNat + 256 * low ((l.take n).drop (j + 1)) ∧ low ((l.take n).drop j) < 18446744073709551616 := by
  have hlen : (l.take n).length = n := by simp; omega
  refine ⟨?_, low_lt64 _ (by simp; omega)⟩
  rw [low_drop _ j (by omega)]
  simp
/-- 'v & (1<<(8*width) - 1)' -/
theorem and_mask (x n : Nat) (hx : x < 18446744073709551616) (h8 : n ≤ 8) : bits .and .u64 (x : Int) ((256 ^ n - 1 : Nat) : Int) = ((x % 256 ^ n : Nat) : Int) := by
  have h2 : 256 ^ n ≤ 256 ^ 8 := Nat.pow_le_pow_right (by omega) h8
  have h3 : 256 ^ 8 = 18446744073709551616 := by decide
  have h4 : 0 < 256 ^ n := Nat.pow_pos (by decide)
  rw [bits_and_u64_nat _ _ hx (by omega), pow256, Nat.and_two_pow_sub_one_eq_mod]
theorem low_lay_lt (n m : Nat) (h : m < 256 ^ n) : low (lay n m) = m := by rw [low_lay, Nat.mod_eq_of_lt h]
theorem low_lay_take (n m : Nat) (h : m < 256 ^ n) : low ((lay n m).take n) = m := by
  rw [List.take_of_length_le (by rw [lay_length]; omega)]
  exact low_lay_lt n m h
theorem take_left {α : Type} (a b : List α) : (a ++ b).take a.length = a := by simp
theorem drop_left {α : Type} (a b : List α) : (a ++ b).drop a.length = b := by simp
end Go.Proofs.Ytijmmacpmcbmkaa

/-
  OWN WORK. copy into a part of an owned row; a byte list laid over another.
-/
namespace Go.Proofs.Ytijmmacpmcbmkaa
open Go.RowKit
set_option linter.unusedVariables false

/-- r laid over L from the place off on -/
def over (L : List UInt8) (off : Nat) (r : List UInt8) : List UInt8 := L.take off ++ (r ++ L.drop (off + r.length))
theorem over_length (L : List UInt8) (off : Nat) (r : List UInt8) (h : off + r.length ≤ L.length) : (over L off r).length = L.length := by simp [over]; omega
theorem over_nil (L : List UInt8) (off : Nat) : over L off [] = L := by simp [over]
theorem over_at (L : List UInt8) (off : Nat) (r : List UInt8) (h : off + r.length ≤ L.length) (i : Nat) : (over L off r)[i]? = if off ≤ i ∧ i < off + r.length then r[i - off]? else L[i]? := by
  unfold over
  by_cases h1 : i < off
  · rw [List.getElem?_append_left (by simp; omega), List.getElem?_take, if_pos h1, if_neg (by omega)]
  · rw [List.getElem?_append_right (by simp; omega)]
    have e : (L.take off).length = off := by simp; omega
    rw [e]
    by_cases h2 : i < off + r.length
    · rw [List.getElem?_append_left (by omega), if_pos ⟨by omega, h2⟩]
    · rw [List.getElem?_append_right (by omega), List.getElem?_drop, if_neg (by omega)]
      congr 1; omega
/-- 'copy(out[off:..], b)': out the call's own row; what is cut is at least as long as b. -/
theorem wpList_copy_part {P : Program} {w : World} {ops : Array Oper} {rest : List Oper} {o : Oper} {a : Act} {Q : Exit → Act → World → Prop} (hgd : o.guard = none) (d s : Operand) (t : TypeId)
    (ho : o.op = .call { callee := .builtin .copy, args := #[d, s], argTypes := #[t, t] }) (base : Nat) (e : TypeId) (hu : P.underlying t = some (.slice e))
    (hsz : (P.info? e).map (·.size) = some 1)
    (v : Value) (n : Nat) (L : List UInt8) (hown : w.ownsRow base e 1 v n (u8s L)) (off : Nat) (dp : Option Addr) (dLen dCap : Nat) (hd : a.eval d = .slice dp dLen dCap)
    (hdp : 0 < dLen → ∃ g, v.ownBlock = some g ∧ dp = some ⟨g, off, none⟩) (sv : Value) (r : List UInt8) (hx : a.eval s = sv) (hb : Bs w sv r) (hr : r.length ≤ dLen) (hfit : off + dLen ≤ n)
    (h : ∀ w', w'.ownsRow base e 1 v n (u8s (over L off r)) → w.grownBy w' v.ownBlock → wpList P ops Q rest (a.put o.dst (goInt r.length)) w') : wpList P ops Q (o :: rest) a w := by
  obtain ⟨p, c, rfl, h1, h2, h3, h4⟩ := hb
  by_cases h0 : r.length = 0
  · obtain rfl : r = [] := List.eq_nil_of_length_eq_zero h0
    refine wpList_copy_nothing hgd d s t t ho e hu hsz dp p dLen dCap 0 c hd hx (by simp) ?_
    exact h w (by rw [over_nil]; exact hown) (World.grownBy.refl _ _)
  · obtain ⟨g, hgv, rfl⟩ := hdp (by omega)
    cases p with
    | none => have := h3 rfl; omega
    | some ad =>
      have hn : n = L.length := by have := hown.1; rw [u8s_length] at this; omega
      subst hn
      rcases hown.2 with ⟨rfl, hz⟩ | ⟨g', cap, cur, rfl, hbg, hg, hnc, hcm, hcs, htk⟩
      · simp [Value.ownBlock] at hgv
      · have e1 : g' = g := by simpa [Value.ownBlock] using hgv
        subst e1
        refine wpList_copy_own hgd d s t t ho e hu hsz g' off dLen dCap ad r.length c hd hx cur e hg (u8s r) (by rw [u8s_length]; simp [Nat.min_def]; omega) (fun j u hj => by obtain ⟨y, hy, rfl⟩ := u8s_at hj; exact h4 ad rfl j y hy) (by rw [u8s_length]; omega) (u8s_one r) ?_
        rw [u8s_length]
        have hgl : g' < w.heap.size := (Array.getElem?_eq_some_iff.1 hg).1
        refine h _ ⟨by rw [u8s_length, over_length _ _ _ (by omega)]; omega, .inr ⟨g', cap, _, rfl, hbg, setRow_heap w g' cur _ e (0, 0) hg, hnc, hcm, ?_, ?_⟩⟩ ⟨rfl, rfl, rfl, by simp [World.setRow], fun k hk hne => setRow_other w g' k _ (by intro e2; subst e2; exact hne rfl)⟩
        · simp [u8s_length]; omega
        · simp only [Nat.mul_one] at htk ⊢
          have hT : cur.toList.take L.length = u8s L := htk
          have hsz' : cur.toList.length = cap := by simp [hcs]
          apply List.ext_getElem?
          intro j
          have hcur : ∀ j, j < L.length → cur.toList[j]? = (u8s L)[j]? := fun j hj => by rw [← hT, List.getElem?_take, if_pos hj]
          by_cases hj : j < L.length
          · rw [List.getElem?_take, if_pos hj]
            have e3 : (u8s (over L off r))[j]? = if off ≤ j ∧ j < off + r.length then (u8s r)[j - off]? else (u8s L)[j]? := by
              simp only [u8s, List.getElem?_map, over_at L off r (by omega) j]
              split <;> rfl
            rw [e3]
            by_cases c1 : j < off
            · rw [List.getElem?_append_left (by simp; omega), List.getElem?_take, if_pos c1, if_neg (by omega), hcur j hj]
            · rw [List.getElem?_append_right (by simp; omega)]
              have e4 : (cur.toList.take off).length = off := by simp; omega
              rw [e4]
              by_cases c2 : j < off + r.length
              · rw [List.getElem?_append_left (by rw [u8s_length]; omega), if_pos ⟨by omega, c2⟩]
              · rw [List.getElem?_append_right (by rw [u8s_length]; omega), List.getElem?_drop, if_neg (by omega), u8s_length, ← hcur j hj]
                congr 1; omega
          · rw [List.getElem?_eq_none (by simp; omega), List.getElem?_eq_none (by rw [u8s_length, over_length _ _ _ (by omega)]; omega)]
end Go.Proofs.Ytijmmacpmcbmkaa

/-
  OWN WORK. Rows of the call's own whose elements have several cells, told by their cells: also a front of one, with no spare.
-/
namespace Go.Proofs.Ytijmmacpmcbmkaa
open Go.RowKit
set_option linter.unusedVariables false

/-- v: n elements of sz cells each, the cells cs, in a block of the call's own (at base or behind), from its beginning on -/
def Row (w : World) (base sz : Nat) (v : Value) (n : Nat) (cs : List Value) : Prop :=
  cs.length = n * sz ∧ (∀ u ∈ cs, u.oneCell' = true) ∧ ∃ p c, v = .slice p n c ∧ n ≤ c ∧ c ≤ maxLen ∧ ((p = none ∧ c = 0) ∨ ∃ g, p = some ⟨g, 0, none⟩ ∧ base ≤ g ∧ g < w.heap.size ∧
    (∀ (j : Nat) u, cs[j]? = some u → w.cell? ⟨g, j, none⟩ = some u) ∧ ∀ j, j < c * sz → (w.cell? ⟨g, j, none⟩).isSome = true ∧ w.frozen? ⟨g, j, none⟩ = false)
theorem Row.nil (w : World) (base sz : Nat) : Row w base sz (.slice none 0 0) 0 [] := ⟨by simp, by simp, none, 0, rfl, Nat.le_refl _, by simp [maxLen], .inl ⟨rfl, rfl⟩⟩
theorem frozen_of_block {w w' : World} {a : Addr} (h : w'.heap[a.block]? = w.heap[a.block]?) : w'.frozen? a = w.frozen? a := World.frozen?_of_block h
theorem Row.kept {w w' : World} {base sz : Nat} {v : Value} {n : Nat} {cs : List Value} {S : List Nat} (h : Row w base sz v n cs) (k : Kept S w w') (hS : ∀ x, v.ownBlock = some x → x ∉ S) : Row w' base sz v n cs := by
  obtain ⟨h1, h2, p, c, rfl, h3, h4, h5⟩ := h
  refine ⟨h1, h2, p, c, rfl, h3, h4, ?_⟩
  rcases h5 with h5 | ⟨g, rfl, h6, h7, h8, h9⟩
  · exact .inl h5
  · have e := k.block g h7 (hS g rfl)
    exact .inr ⟨g, rfl, h6, Nat.lt_of_lt_of_le h7 k.size, fun j u hj => (World.cell?_of_block (a := ⟨g, j, none⟩) e).trans (h8 j u hj), fun j hj => ⟨by rw [World.cell?_of_block (a := ⟨g, j, none⟩) e]; exact (h9 j hj).1, (frozen_of_block (a := ⟨g, j, none⟩) e).trans (h9 j hj).2⟩⟩
theorem Row.shape {w : World} {base sz : Nat} {v : Value} {n : Nat} {cs : List Value} (h : Row w base sz v n cs) : ∃ p c, v = .slice p n c ∧ n ≤ c ∧ c ≤ maxLen := by
  obtain ⟨-, -, p, c, rfl, h3, h4, -⟩ := h
  exact ⟨p, c, rfl, h3, h4⟩
theorem Row.pos {w : World} {base sz : Nat} {p : Option Addr} {n c : Nat} {cs : List Value} (h : Row w base sz (.slice p n c) n cs) (hn : 0 < n) :
    ∃ g, p = some ⟨g, 0, none⟩ ∧ base ≤ g ∧ g < w.heap.size ∧ (∀ (j : Nat) u, cs[j]? = some u → w.cell? ⟨g, j, none⟩ = some u) ∧ ∀ j, j < c * sz → (w.cell? ⟨g, j, none⟩).isSome = true ∧ w.frozen? ⟨g, j, none⟩ = false := by
  obtain ⟨h1, h2, p', c', e, h3, h4, h5⟩ := h
  cases e
  rcases h5 with ⟨-, h5⟩ | h5
  · omega
  · exact h5
theorem Row.lt {w : World} {base sz : Nat} {v : Value} {n : Nat} {cs : List Value} (h : Row w base sz v n cs) (x : Nat) (hx : v.ownBlock = some x) : base ≤ x ∧ x < w.heap.size := by
  obtain ⟨h1, h2, p, c, rfl, h3, h4, h5⟩ := h
  rcases h5 with ⟨rfl, -⟩ | ⟨g, rfl, h6, h7, -⟩
  · simp [Value.ownBlock] at hx
  · simp [Value.ownBlock] at hx
    subst hx
    exact ⟨h6, h7⟩
theorem Row.mono {w : World} {base base' sz : Nat} {v : Value} {n : Nat} {cs : List Value} (h : Row w base sz v n cs) (hb : base' ≤ base) : Row w base' sz v n cs := by
  obtain ⟨h1, h2, p, c, rfl, h3, h4, h5⟩ := h
  refine ⟨h1, h2, p, c, rfl, h3, h4, ?_⟩
  rcases h5 with h5 | ⟨g, rfl, h6, h7, h8⟩
  · exact .inl h5
  · exact .inr ⟨g, rfl, Nat.le_trans hb h6, h7, h8⟩
/-- a cell of one is set -/
theorem Row.set {w : World} {base sz g n c : Nat} {cs : List Value} (h : Row w base sz (.slice (some ⟨g, 0, none⟩) n c) n cs) (j : Nat) (hj : j < n * sz) (u : Value) (hu : u.oneCell' = true) :
    Row (w.setCell ⟨g, j, none⟩ u) base sz (.slice (some ⟨g, 0, none⟩) n c) n (cs.set j u) ∧ Kept [g] w (w.setCell ⟨g, j, none⟩ u) := by
  have hk : Kept [g] w (w.setCell ⟨g, j, none⟩ u) := (Kept.refl [g] w).setCell (.inl (by simp)) u
  obtain ⟨h1, h2, p', c', e, h3, h4, h5⟩ := h
  cases e
  refine ⟨⟨by rw [List.length_set]; exact h1, fun x hx => ?_, _, _, rfl, h3, h4, ?_⟩, hk⟩
  · rcases List.mem_or_eq_of_mem_set hx with hx | hx
    · exact h2 x hx
    · rw [hx]; exact hu
  · rcases h5 with ⟨h5, -⟩ | ⟨g', e, h6, h7, h8, h9⟩
    · cases h5
    · cases e
      obtain ⟨old, hold⟩ : ∃ old, cs[j]? = some old := ⟨_, List.getElem?_eq_getElem (by omega)⟩
      have hc := h8 j old hold
      refine .inr ⟨g, rfl, h6, Nat.lt_of_lt_of_le h7 hk.size, fun k x hx => ?_, fun k hk' => ⟨?_, by rw [World.frozen?_setCell]; exact (h9 k hk').2⟩⟩
      · rw [List.getElem?_set] at hx
        by_cases e : j = k
        · subst e
          rw [if_pos rfl, if_pos (by omega)] at hx
          cases hx
          exact World.cell?_setCell_same _ _ _ hc
        · rw [if_neg e] at hx
          rw [World.cell?_setCell_other _ _ _ _ (by first | (simp; done) | (simp; omega))]
          exact h8 k x hx
      · by_cases e : j = k
        · subst e
          rw [World.cell?_setCell_same _ _ _ hc]; rfl
        · rw [World.cell?_setCell_other _ _ _ _ (by first | (simp; done) | (simp; omega))]
          exact (h9 k hk').1
/-- a front of one, with no spare -/
theorem Row.front {w : World} {base sz : Nat} {p : Option Addr} {n c : Nat} {cs : List Value} (h : Row w base sz (.slice p n c) n cs) (i : Nat) (hi : i ≤ n) (hn : 0 < n) : Row w base sz (.slice p i i) i (cs.take (i * sz)) := by
  obtain ⟨g, rfl, h6, h7, h8, h9⟩ := h.pos hn
  obtain ⟨h1, h2, p', c', e, h3, h4, h5⟩ := h
  cases e
  have hm : i * sz ≤ n * sz := Nat.mul_le_mul_right _ hi
  have hm2 : i * sz ≤ c * sz := Nat.mul_le_mul_right _ (by omega)
  refine ⟨by rw [List.length_take]; omega, fun u hu => h2 u (List.mem_of_mem_take hu), _, i, rfl, Nat.le_refl _, by omega, .inr ⟨g, rfl, h6, h7, fun j u hj => ?_, fun j hj => h9 j (by omega)⟩⟩
  rw [List.getElem?_take] at hj
  split at hj
  · exact h8 j u hj
  · cases hj
theorem kept_setCells (g : Nat) : ∀ (vs : List Value) (o : Nat) (w : World), Kept [g] w (w.setCells g o vs)
  | [], _, w => Kept.refl _ _
  | v :: r, o, w => ((Kept.refl [g] w).setCell (p := ⟨g, o, none⟩) (.inl (by simp)) v).trans (kept_setCells g r (o + 1) _) (by intro x hx; exact .inl hx)
/-- 'append(l, x...)' -/
theorem run_append_row {P : Program} (w : World) (base : Nat) (t ty e : TypeId) (i : TypeInfo) (z : Value) (sz bytes : Nat) (ht : P.underlying t = some (.slice e)) (hi : P.info? e = some i) (hz : i.zero = some z) (hsize : i.size = sz) (hby : i.bytes = bytes) (hzs : z.cells.size = sz)
    (v : Value) (n : Nat) (cs : List Value) (h : Row w base sz v n cs) (x : Value) (m : Nat) (news : List Value) (hs : Src P sz t x m news w) (h63 : n + m ≤ 9223372036854775807) (hmx : n + m ≤ maxLen) (hbytes : (n + m) * bytes ≤ 140737488355328) (hbase : base ≤ w.heap.size) :
    ∃ v' w', (Builtin.append_ #[t, t] ty #[v, x]).run P w = .ok v' w' ∧ Row w' base sz v' (n + m) (cs ++ news) ∧ Kept v.ownBlock.toList w w' ∧ (v'.ownBlock = v.ownBlock ∨ v'.ownBlock = some w.heap.size) := by
  subst hsize
  subst hby
  have hnl := hs.newsLen
  have hall : ∀ u ∈ cs ++ news, u.oneCell' = true := by
    intro u hu
    rcases List.mem_append.1 hu with hu | hu
    · exact h.2.1 u hu
    · exact hs.one u hu
  have hlen : (cs ++ news).length = (n + m) * i.size := by rw [List.length_append, h.1, hnl, Nat.add_mul]
  obtain ⟨p, c, rfl, h3, h4⟩ := h.shape
  by_cases hfit : n + m ≤ c
  · cases p with
    | none =>
      obtain ⟨h1, h2, p', c', e', -, -, h5⟩ := id h
      cases e'
      rcases h5 with ⟨-, rfl⟩ | ⟨g, e, -⟩
      · obtain rfl : n = 0 := by omega
        obtain rfl : m = 0 := by omega
        obtain rfl : news = [] := List.eq_nil_of_length_eq_zero (by simpa using hnl)
        exact ⟨_, _, run_append_nothing (P := P) w t t ty e i ht hi none 0 0 (Nat.le_refl _) x hs, by simpa using h, Kept.refl _ _, .inl rfl⟩
      · cases e
    | some a =>
      obtain ⟨h1, h2, p', c', e', -, -, h5⟩ := id h
      cases e'
      rcases h5 with ⟨e, -⟩ | ⟨g, e, h6, h7, h8, h9⟩
      · cases e
      · cases e
        have hm : n * i.size + m * i.size ≤ c * i.size := by rw [← Nat.add_mul]; exact Nat.mul_le_mul_right _ hfit
        have hthere : ∀ j, j < news.length → (w.cell? ⟨g, 0 + n * i.size + j, none⟩).isSome = true := fun j hj => (h9 _ (by omega)).1
        have hrun := run_append_room_src (P := P) w t t ty e i ht hi g 0 n c x m news hs hfit hthere (fun j hj => (h9 _ (by omega)).2)
        have hk := kept_setCells g news (0 + n * i.size) w
        refine ⟨_, _, hrun, ⟨hlen, hall, _, _, rfl, hfit, h4, .inr ⟨g, rfl, h6, Nat.lt_of_lt_of_le h7 hk.size, fun j u hj => ?_, fun j hj => ⟨?_, by rw [World.frozen?_setCells]; exact (h9 j hj).2⟩⟩⟩, by simpa [Value.ownBlock] using hk, .inl rfl⟩
        · by_cases hjc : j < cs.length
          · rw [List.getElem?_append_left hjc] at hj
            rw [World.cell?_setCells_out g news _ w _ (fun _ _ => .inl (by simp; omega))]
            exact h8 j u hj
          · rw [List.getElem?_append_right (by omega)] at hj
            obtain ⟨hlt, rfl⟩ := List.getElem?_eq_some_iff.1 hj
            have := World.cell?_setCells_in g news (0 + n * i.size) w hthere (j - cs.length) hlt
            rw [show 0 + n * i.size + (j - cs.length) = j by omega] at this
            exact this
        · by_cases hjin : 0 + n * i.size ≤ j ∧ j < 0 + n * i.size + news.length
          · have := World.cell?_setCells_in g news (0 + n * i.size) w hthere (j - (0 + n * i.size)) (by omega)
            rw [show 0 + n * i.size + (j - (0 + n * i.size)) = j by omega] at this
            rw [this]; rfl
          · rw [World.cell?_setCells_out g news _ w _ (fun _ _ => by simp; omega)]
            exact (h9 j hj).1
  · have hold : (Builtin.firstCells i.size n (.slice p n c)).run P w.drew = .ok cs.toArray w.drew := by
      obtain ⟨h1, h2, p', c', e', -, -, h5⟩ := id h
      cases e'
      rcases h5 with ⟨rfl, rfl⟩ | ⟨g, rfl, h6, h7, h8, h9⟩
      · obtain rfl : n = 0 := by omega
        obtain rfl : cs = [] := List.eq_nil_of_length_eq_zero (by simpa using h1)
        exact run_firstCells_none w.drew i.size 0 0 0
      · exact run_firstCells_some w.drew i.size n ⟨g, 0, none⟩ n c cs h1 (fun j u hj => by rw [add_none rfl]; simpa using h8 j u hj)
    have hg : c < n + m := by omega
    have hrun := run_append_grow_src (P := P) w t t ty e i z ht hi hz p n c cs hold x m news hs hg (by omega) (growslice_fits hg hbytes)
    have hge := grownCap_ge w (n + m) c e
    have hcm := grownCap_le_maxLen w (n + m) c e hmx
    have hsz : ((cs ++ news).toArray ++ Builtin.zeroCells z.cells (grownCap w (n + m) c e - (n + m))).size = grownCap w (n + m) c e * i.size := by
      rw [Array.size_append, List.size_toArray, hlen, size_zeroCells, hzs, ← Nat.add_mul]
      congr 1
      omega
    have hk : Kept [] w (w.drew.alloc (.cells ((cs ++ news).toArray ++ Builtin.zeroCells z.cells (grownCap w (n + m) c e - (n + m))) e)) := ((Kept.refl [] w).drew).alloc _
    refine ⟨_, _, hrun, ⟨hlen, hall, _, _, rfl, hge, hcm, .inr ⟨w.heap.size, rfl, hbase, by simp, fun j u hj => ?_, fun j hj => ⟨?_, World.frozen?_alloc_new w.drew _ _ j⟩⟩⟩, hk.mono (by simp), .inr rfl⟩
    · have e1 : (w.drew.alloc (.cells ((cs ++ news).toArray ++ Builtin.zeroCells z.cells (grownCap w (n + m) c e - (n + m))) e)).cell? ⟨w.heap.size, j, none⟩ = _ := World.cell?_alloc_new w.drew _ _ j
      have hjl := (List.getElem?_eq_some_iff.1 hj).1
      rw [e1, Array.getElem?_append_left (by simpa using hjl), List.getElem?_toArray, hj]
    · have e1 : (w.drew.alloc (.cells ((cs ++ news).toArray ++ Builtin.zeroCells z.cells (grownCap w (n + m) c e - (n + m))) e)).cell? ⟨w.heap.size, j, none⟩ = _ := World.cell?_alloc_new w.drew _ _ j
      rw [e1, Array.getElem?_eq_getElem (by rw [hsz]; exact hj)]
      rfl
theorem info_parts3 {P : Program} {e : TypeId} {z : Value} {sz by' : Nat} (h : (P.info? e).map (fun i => (i.zero, i.size, i.bytes)) = some (some z, sz, by')) : ∃ i, P.info? e = some i ∧ i.zero = some z ∧ i.size = sz ∧ i.bytes = by' := by
  obtain ⟨i, hi, h'⟩ := Option.map_eq_some_iff.1 h
  simp only [Prod.mk.injEq] at h'
  exact ⟨i, hi, h'.1, h'.2.1, h'.2.2⟩
/-- what is cut off a row behind its k-th element is a source -/
theorem Row.rest {P : Program} {w w' : World} {base sz g n c : Nat} {cs : List Value} {t e : TypeId} (ht : P.underlying t = some (.slice e)) (h : Row w base sz (.slice (some ⟨g, 0, none⟩) n c) n cs) (hc : ∀ (j : Nat) u, cs[j]? = some u → w'.cell? ⟨g, j, none⟩ = some u) (k : Nat) (hk : k ≤ n) (sa : Option Addr)
    (hsa : sa = if c = k then some ⟨g, 0, none⟩ else Option.map (fun x : Addr => x.add (k * sz)) (some ⟨g, 0, none⟩)) : Src P sz t (.slice sa (n - k) (c - k)) (n - k) (cs.drop (k * sz)) w' := by
  obtain ⟨h1, h2, p', c', e', h3, h4, h5⟩ := h
  cases e'
  have hl : (cs.drop (k * sz)).length = (n - k) * sz := by rw [List.length_drop, h1, Nat.sub_mul]
  have hone : ∀ u ∈ cs.drop (k * sz), u.oneCell' = true := fun u hu => h2 u (List.mem_of_mem_drop hu)
  by_cases e : c = k
  · rw [if_pos e] at hsa
    subst hsa
    have h0 : cs.drop (k * sz) = [] := List.eq_nil_of_length_eq_zero (by rw [hl, show n - k = 0 by omega]; simp)
    exact Src.ofSlice w' ht _ _ _ _ hl (fun j u hj => by rw [h0] at hj; simp at hj) hone
  · rw [if_neg e] at hsa
    subst hsa
    refine Src.ofSlice w' ht _ _ _ _ hl (fun j u hj => ?_) hone
    rw [Go.Proofs.Ytijmmacpmcbmkaa.add_add, add_none (a := ⟨g, 0, none⟩) rfl]
    rw [List.getElem?_drop] at hj
    simpa using hc _ u hj
/-- the same in a walk, and at a step of a region that draws its order -/
theorem wpList_append_row {P : Program} {w : World} {ops : Array Oper} {rest : List Oper} {o : Oper} {a : Act} {Q : Exit → Act → World → Prop} (hgd : o.guard = none) (s x : Operand) (t : TypeId)
    (ho : o.op = .call { callee := .builtin .append, args := #[s, x], argTypes := #[t, t] }) (base : Nat) (e : TypeId) (i : TypeInfo) (z : Value) (sz bytes : Nat) (ht : P.underlying t = some (.slice e)) (hi : P.info? e = some i) (hz : i.zero = some z) (hsize : i.size = sz) (hby : i.bytes = bytes) (hzs : z.cells.size = sz)
    (v : Value) (n : Nat) (cs : List Value) (hv : a.eval s = v) (h : Row w base sz v n cs) (xv : Value) (m : Nat) (news : List Value) (hx : a.eval x = xv) (hs : Src P sz t xv m news w) (h63 : n + m ≤ 9223372036854775807) (hmx : n + m ≤ maxLen) (hbytes : (n + m) * bytes ≤ 140737488355328) (hbase : base ≤ w.heap.size)
    (hgo : ∀ v' w', Row w' base sz v' (n + m) (cs ++ news) → Kept v.ownBlock.toList w w' → (v'.ownBlock = v.ownBlock ∨ v'.ownBlock = some w.heap.size) → wpList P ops Q rest (a.put o.dst v') w') : wpList P ops Q (o :: rest) a w := by
  refine wpList_plain hgd fun K hK => ?_
  obtain ⟨v', w', hr, k1, k2, k3⟩ := run_append_row (P := P) w base t o.type e i z sz bytes ht hi hz hsize hby hzs v n cs h xv m news hs h63 hmx hbytes hbase
  unfold Oper.wp execOp
  simp only [ho, resolve, invoke, builtin, Sem.run_bind, Sem.run_pure, Result.andThen_ok, List.map_toArray, List.map_cons, List.map_nil, hv, hx, hr]
  exact hK _ _ (hgo v' w' k1 k2 k3)
theorem step_append_row {P : Program} {w : World} {ops : Array Oper} {o : Oper} {a : Act} {K : Act → World → Prop} {Q : Exit → Act → World → Prop} {E : Prop} (hgd : o.guard = none) (s x : Operand) (t : TypeId)
    (ho : o.op = .call { callee := .builtin .append, args := #[s, x], argTypes := #[t, t] }) (base : Nat) (e : TypeId) (i : TypeInfo) (z : Value) (sz bytes : Nat) (ht : P.underlying t = some (.slice e)) (hi : P.info? e = some i) (hz : i.zero = some z) (hsize : i.size = sz) (hby : i.bytes = bytes) (hzs : z.cells.size = sz)
    (v : Value) (n : Nat) (cs : List Value) (hv : a.eval s = v) (h : Row w base sz v n cs) (xv : Value) (m : Nat) (news : List Value) (hx : a.eval x = xv) (hs : Src P sz t xv m news w) (h63 : n + m ≤ 9223372036854775807) (hmx : n + m ≤ maxLen) (hbytes : (n + m) * bytes ≤ 140737488355328) (hbase : base ≤ w.heap.size)
    (hgo : ∀ v' w', Row w' base sz v' (n + m) (cs ++ news) → Kept v.ownBlock.toList w w' → (v'.ownBlock = v.ownBlock ∨ v'.ownBlock = some w.heap.size) → K (a.put o.dst v') w') :
    if Region.wanted o (yielded ops a.tmps) = true then Oper.wp P o a w K Q else E := by
  have hw : Region.wanted o (yielded ops a.tmps) = true := by simp [Region.wanted, hgd]
  rw [if_pos hw]
  obtain ⟨v', w', hr, k1, k2, k3⟩ := run_append_row (P := P) w base t o.type e i z sz bytes ht hi hz hsize hby hzs v n cs h xv m news hs h63 hmx hbytes hbase
  unfold Oper.wp execOp
  simp only [ho, resolve, invoke, builtin, Sem.run_bind, Sem.run_pure, Result.andThen_ok, List.map_toArray, List.map_cons, List.map_nil, hv, hx, hr]
  exact hgo v' w' k1 k2 k3
/-- 'l[k:]' and 'l[:k:k]', of elements of several cells -/
theorem run_cut_from_sz {P : Program} (w : World) (t e : TypeId) (sz : Nat) (hu : P.underlying t = some (.slice e)) (hsz : (P.info? e).map (·.size) = some sz) (p : Option Addr) (n c k : Nat) (hk : k ≤ n) :
    (Instr.slice t (.slice p n c) (some (.int .i64 (k : Int))) none none).run P w = .ok (.slice (if c = k then p else p.map (·.add (k * sz))) (n - k) (c - k)) w := by
  obtain ⟨i, hi, hs⟩ := Option.map_eq_some_iff.1 hsz
  simp [Instr.slice, run_underlying hu, Instr.sliceBounds, run_sliceBound, sizeOf, typeInfo, hi, hs, (by omega : (k : Int) ≤ (n : Int))]
theorem run_cut_tight {P : Program} (w : World) (t e : TypeId) (sz : Nat) (hu : P.underlying t = some (.slice e)) (hsz : (P.info? e).map (·.size) = some sz) (p : Option Addr) (n c k : Nat) (hk : k ≤ c) :
    (Instr.slice t (.slice p n c) none (some (.int .i64 (k : Int))) (some (.int .i64 (k : Int)))).run P w = .ok (.slice p k k) w := by
  obtain ⟨i, hi, hs⟩ := Option.map_eq_some_iff.1 hsz
  simp [Instr.slice, run_underlying hu, Instr.sliceBounds, run_sliceBound, sizeOf, typeInfo, hi, (by omega : (k : Int) ≤ (c : Int))]
  intro _
  cases p with
  | none => rfl
  | some a =>
    obtain ⟨b, o, s⟩ := a
    cases s <;> simp [Addr.add]
end Go.Proofs.Ytijmmacpmcbmkaa

/-
  OWN WORK. 'append' of elements of several cells, as in Rows3, that says besides: on a new block the old one stays as it was.
-/
namespace Go.Proofs.Ytijmmacpmcbmkaa
open Go.RowKit
/-- 'append(l, x...)' -/
theorem run_append_row2 {P : Program} (w : World) (base : Nat) (t ty e : TypeId) (i : TypeInfo) (z : Value) (sz bytes : Nat) (ht : P.underlying t = some (.slice e)) (hi : P.info? e = some i) (hz : i.zero = some z) (hsize : i.size = sz) (hby : i.bytes = bytes) (hzs : z.cells.size = sz)
    (v : Value) (n : Nat) (cs : List Value) (h : Row w base sz v n cs) (x : Value) (m : Nat) (news : List Value) (hs : Src P sz t x m news w) (h63 : n + m ≤ 9223372036854775807) (hmx : n + m ≤ maxLen) (hbytes : (n + m) * bytes ≤ 140737488355328) (hbase : base ≤ w.heap.size) :
    ∃ v' w', (Builtin.append_ #[t, t] ty #[v, x]).run P w = .ok v' w' ∧ Row w' base sz v' (n + m) (cs ++ news) ∧ Kept v.ownBlock.toList w w' ∧ (v'.ownBlock = v.ownBlock ∨ (v'.ownBlock = some w.heap.size ∧ Kept [] w w')) := by
  subst hsize
  subst hby
  have hnl := hs.newsLen
  have hall : ∀ u ∈ cs ++ news, u.oneCell' = true := by
    intro u hu
    rcases List.mem_append.1 hu with hu | hu
    · exact h.2.1 u hu
    · exact hs.one u hu
  have hlen : (cs ++ news).length = (n + m) * i.size := by rw [List.length_append, h.1, hnl, Nat.add_mul]
  obtain ⟨p, c, rfl, h3, h4⟩ := h.shape
  by_cases hfit : n + m ≤ c
  · cases p with
    | none =>
      obtain ⟨h1, h2, p', c', e', -, -, h5⟩ := id h
      cases e'
      rcases h5 with ⟨-, rfl⟩ | ⟨g, e, -⟩
      · obtain rfl : n = 0 := by omega
        obtain rfl : m = 0 := by omega
        obtain rfl : news = [] := List.eq_nil_of_length_eq_zero (by simpa using hnl)
        exact ⟨_, _, run_append_nothing (P := P) w t t ty e i ht hi none 0 0 (Nat.le_refl _) x hs, by simpa using h, Kept.refl _ _, .inl rfl⟩
      · cases e
    | some a =>
      obtain ⟨h1, h2, p', c', e', -, -, h5⟩ := id h
      cases e'
      rcases h5 with ⟨e, -⟩ | ⟨g, e, h6, h7, h8, h9⟩
      · cases e
      · cases e
        have hm : n * i.size + m * i.size ≤ c * i.size := by rw [← Nat.add_mul]; exact Nat.mul_le_mul_right _ hfit
        have hthere : ∀ j, j < news.length → (w.cell? ⟨g, 0 + n * i.size + j, none⟩).isSome = true := fun j hj => (h9 _ (by omega)).1
        have hrun := run_append_room_src (P := P) w t t ty e i ht hi g 0 n c x m news hs hfit hthere (fun j hj => (h9 _ (by omega)).2)
        have hk := kept_setCells g news (0 + n * i.size) w
        refine ⟨_, _, hrun, ⟨hlen, hall, _, _, rfl, hfit, h4, .inr ⟨g, rfl, h6, Nat.lt_of_lt_of_le h7 hk.size, fun j u hj => ?_, fun j hj => ⟨?_, by rw [World.frozen?_setCells]; exact (h9 j hj).2⟩⟩⟩, by simpa [Value.ownBlock] using hk, .inl rfl⟩
        · by_cases hjc : j < cs.length
          · rw [List.getElem?_append_left hjc] at hj
            rw [World.cell?_setCells_out g news _ w _ (fun _ _ => .inl (by simp; omega))]
            exact h8 j u hj
          · rw [List.getElem?_append_right (by omega)] at hj
            obtain ⟨hlt, rfl⟩ := List.getElem?_eq_some_iff.1 hj
            have := World.cell?_setCells_in g news (0 + n * i.size) w hthere (j - cs.length) hlt
            rw [show 0 + n * i.size + (j - cs.length) = j by omega] at this
            exact this
        · by_cases hjin : 0 + n * i.size ≤ j ∧ j < 0 + n * i.size + news.length
          · have := World.cell?_setCells_in g news (0 + n * i.size) w hthere (j - (0 + n * i.size)) (by omega)
            rw [show 0 + n * i.size + (j - (0 + n * i.size)) = j by omega] at this
            rw [this]; rfl
          · rw [World.cell?_setCells_out g news _ w _ (fun _ _ => by simp; omega)]
            exact (h9 j hj).1
  · have hold : (Builtin.firstCells i.size n (.slice p n c)).run P w.drew = .ok cs.toArray w.drew := by
      obtain ⟨h1, h2, p', c', e', -, -, h5⟩ := id h
      cases e'
      rcases h5 with ⟨rfl, rfl⟩ | ⟨g, rfl, h6, h7, h8, h9⟩
      · obtain rfl : n = 0 := by omega
        obtain rfl : cs = [] := List.eq_nil_of_length_eq_zero (by simpa using h1)
        exact run_firstCells_none w.drew i.size 0 0 0
      · exact run_firstCells_some w.drew i.size n ⟨g, 0, none⟩ n c cs h1 (fun j u hj => by rw [add_none rfl]; simpa using h8 j u hj)
    have hg : c < n + m := by omega
    have hrun := run_append_grow_src (P := P) w t t ty e i z ht hi hz p n c cs hold x m news hs hg (by omega) (growslice_fits hg hbytes)
    have hge := grownCap_ge w (n + m) c e
    have hcm := grownCap_le_maxLen w (n + m) c e hmx
    have hsz : ((cs ++ news).toArray ++ Builtin.zeroCells z.cells (grownCap w (n + m) c e - (n + m))).size = grownCap w (n + m) c e * i.size := by
      rw [Array.size_append, List.size_toArray, hlen, size_zeroCells, hzs, ← Nat.add_mul]
      congr 1
      omega
    have hk : Kept [] w (w.drew.alloc (.cells ((cs ++ news).toArray ++ Builtin.zeroCells z.cells (grownCap w (n + m) c e - (n + m))) e)) := ((Kept.refl [] w).drew).alloc _
    refine ⟨_, _, hrun, ⟨hlen, hall, _, _, rfl, hge, hcm, .inr ⟨w.heap.size, rfl, hbase, by simp, fun j u hj => ?_, fun j hj => ⟨?_, World.frozen?_alloc_new w.drew _ _ j⟩⟩⟩, hk.mono (by simp), .inr ⟨rfl, hk⟩⟩
    · have e1 : (w.drew.alloc (.cells ((cs ++ news).toArray ++ Builtin.zeroCells z.cells (grownCap w (n + m) c e - (n + m))) e)).cell? ⟨w.heap.size, j, none⟩ = _ := World.cell?_alloc_new w.drew _ _ j
      have hjl := (List.getElem?_eq_some_iff.1 hj).1
      rw [e1, Array.getElem?_append_left (by simpa using hjl), List.getElem?_toArray, hj]
    · have e1 : (w.drew.alloc (.cells ((cs ++ news).toArray ++ Builtin.zeroCells z.cells (grownCap w (n + m) c e - (n + m))) e)).cell? ⟨w.heap.size, j, none⟩ = _ := World.cell?_alloc_new w.drew _ _ j
      rw [e1, Array.getElem?_eq_getElem (by rw [hsz]; exact hj)]
      rfl
theorem wpList_append_row2 {P : Program} {w : World} {ops : Array Oper} {rest : List Oper} {o : Oper} {a : Act} {Q : Exit → Act → World → Prop} (hgd : o.guard = none) (s x : Operand) (t : TypeId)
    (ho : o.op = .call { callee := .builtin .append, args := #[s, x], argTypes := #[t, t] }) (base : Nat) (e : TypeId) (i : TypeInfo) (z : Value) (sz bytes : Nat) (ht : P.underlying t = some (.slice e)) (hi : P.info? e = some i) (hz : i.zero = some z) (hsize : i.size = sz) (hby : i.bytes = bytes) (hzs : z.cells.size = sz)
    (v : Value) (n : Nat) (cs : List Value) (hv : a.eval s = v) (h : Row w base sz v n cs) (xv : Value) (m : Nat) (news : List Value) (hx : a.eval x = xv) (hs : Src P sz t xv m news w) (h63 : n + m ≤ 9223372036854775807) (hmx : n + m ≤ maxLen) (hbytes : (n + m) * bytes ≤ 140737488355328) (hbase : base ≤ w.heap.size)
    (hgo : ∀ v' w', Row w' base sz v' (n + m) (cs ++ news) → Kept v.ownBlock.toList w w' → (v'.ownBlock = v.ownBlock ∨ (v'.ownBlock = some w.heap.size ∧ Kept [] w w')) → wpList P ops Q rest (a.put o.dst v') w') : wpList P ops Q (o :: rest) a w := by
  refine wpList_plain hgd fun K hK => ?_
  obtain ⟨v', w', hr, k1, k2, k3⟩ := run_append_row2 (P := P) w base t o.type e i z sz bytes ht hi hz hsize hby hzs v n cs h xv m news hs h63 hmx hbytes hbase
  unfold Oper.wp execOp
  simp only [ho, resolve, invoke, builtin, Sem.run_bind, Sem.run_pure, Result.andThen_ok, List.map_toArray, List.map_cons, List.map_nil, hv, hx, hr]
  exact hK _ _ (hgo v' w' k1 k2 k3)
theorem step_append_row2 {P : Program} {w : World} {ops : Array Oper} {o : Oper} {a : Act} {K : Act → World → Prop} {Q : Exit → Act → World → Prop} {E : Prop} (hgd : o.guard = none) (s x : Operand) (t : TypeId)
    (ho : o.op = .call { callee := .builtin .append, args := #[s, x], argTypes := #[t, t] }) (base : Nat) (e : TypeId) (i : TypeInfo) (z : Value) (sz bytes : Nat) (ht : P.underlying t = some (.slice e)) (hi : P.info? e = some i) (hz : i.zero = some z) (hsize : i.size = sz) (hby : i.bytes = bytes) (hzs : z.cells.size = sz)
    (v : Value) (n : Nat) (cs : List Value) (hv : a.eval s = v) (h : Row w base sz v n cs) (xv : Value) (m : Nat) (news : List Value) (hx : a.eval x = xv) (hs : Src P sz t xv m news w) (h63 : n + m ≤ 9223372036854775807) (hmx : n + m ≤ maxLen) (hbytes : (n + m) * bytes ≤ 140737488355328) (hbase : base ≤ w.heap.size)
    (hgo : ∀ v' w', Row w' base sz v' (n + m) (cs ++ news) → Kept v.ownBlock.toList w w' → (v'.ownBlock = v.ownBlock ∨ (v'.ownBlock = some w.heap.size ∧ Kept [] w w')) → K (a.put o.dst v') w') :
    if Region.wanted o (yielded ops a.tmps) = true then Oper.wp P o a w K Q else E := by
  have hw : Region.wanted o (yielded ops a.tmps) = true := by simp [Region.wanted, hgd]
  rw [if_pos hw]
  obtain ⟨v', w', hr, k1, k2, k3⟩ := run_append_row2 (P := P) w base t o.type e i z sz bytes ht hi hz hsize hby hzs v n cs h xv m news hs h63 hmx hbytes hbase
  unfold Oper.wp execOp
  simp only [ho, resolve, invoke, builtin, Sem.run_bind, Sem.run_pure, Result.andThen_ok, List.map_toArray, List.map_cons, List.map_nil, hv, hx, hr]
  exact hgo v' w' k1 k2 k3
end Go.Proofs.Ytijmmacpmcbmkaa

/-
  OWN WORK. A region that draws its order and ends with a store into a cell that it read: the reads may be taken first, and the store need keep nothing.
-/
namespace Go.Proofs.Ytijmmacpmcbmkaa
open Go.RowKit
set_option linter.unusedVariables false

section
variable {P : Program} {ops : Array Oper} {Q : Exit → Act → World → Prop} {md : Region.Mode} {S : World → Prop} {z : Nat}

/-- whatever order is picked: S holds behind every operation but number z -/
def wpAnyZ (P : Program) (md : Region.Mode) (ops : Array Oper) (Q : Exit → Act → World → Prop) (S : World → Prop) (z : Nat) : Nat → Array Bool → Act → World → Prop
  | 0, listed, a, w => Region.ready md ops listed = [] ∧ Q .normal a w
  | n + 1, listed, a, w =>
    (Region.ready md ops listed = [] → Q .normal a w) ∧
      ∀ i ∈ Region.ready md ops listed, wpOp P ops Q i (fun a' w' => (i ≠ z → S w') ∧ wpAnyZ P md ops Q S z n (listed.setIfInBounds i true) a' w') a w
theorem wpAnyZ_any : ∀ (n : Nat) (listed : Array Bool) (a : Act) (w : World), wpAnyZ P md ops Q S z n listed a w → wpAny P md ops Q n listed a w
  | 0, _, _, _, h => h
  | n + 1, _, _, _, h => ⟨h.1, fun i hi => wpOp_mono (fun a' w' h' => wpAnyZ_any n _ a' w' h'.2) (h.2 i hi)⟩
/-- number z waits for number i -/
def waits (md : Region.Mode) (ops : Array Oper) (z i : Nat) : Bool := match ops[z]? with
  | some o => o.after.any fun e => Region.binds md e && e.on == i
  | none => true
theorem waits_ready {i : Nat} {listed : Array Bool} (h : waits md ops z i = true) (hi : listed.getD i false = false) : z ∉ Region.ready md ops listed := fun hm => by
  obtain ⟨-, o, ho, hall⟩ := mem_ready.1 hm
  unfold waits at h
  rw [ho] at h
  obtain ⟨k, hk, he⟩ := Array.any_eq_true.1 h
  simp at he
  have := hall (o.after[k]) (Array.getElem_mem hk) he.1
  rw [he.2, hi] at this
  cases this
theorem wpAnyZ_first {i : Nat} {oi : Oper} {v : Value} (hi : ops[i]? = some oi) (hsel : ∀ (j : Nat) (o : Oper) cs b, ops[j]? = some o → o.op ≠ .select cs b)
    (hQ : ∀ c a w, Q (.panic c) (a.put oi.dst v) w → Q (.panic c) a w) (hz : waits md ops z i = true) :
    ∀ (n : Nat) (listed : Array Bool) (a : Act) (w : World),
      (∀ j oj, ops[j]? = some oj → j ≠ i → listed.getD j true = false → (∀ e ∈ oj.after, Region.binds md e = true → e.on ≠ i) → oi.apart ops oj = true) →
      i ∈ Region.ready md ops listed → YieldsIf P ops S oi v a → S w →
      wpAnyZ P md ops Q S z n (listed.setIfInBounds i true) (a.put oi.dst v) w → wpAnyZ P md ops Q S z (n + 1) listed a w := by
  intro n
  induction n with
  | zero =>
    intro listed a w _ hr hy hS H
    refine ⟨fun h => (by rw [h] at hr; cases hr), fun j hj => ?_⟩
    by_cases e : j = i
    · subst e; exact hy.wpOp hi hS ⟨fun _ => hS, H⟩
    · have := ready_mono hj e
      rw [H.1] at this
      cases this
  | succ n ih =>
    intro listed a w hfree hr hy hS H
    have hun := (mem_ready.1 hr).1
    have hunf : listed.getD i false = false := by
      rcases Nat.lt_or_ge i listed.size with c | c
      · simp [c] at hun ⊢; exact hun
      · simp [c]
    refine ⟨fun h => (by rw [h] at hr; cases hr), fun j hj => ?_⟩
    by_cases e : j = i
    · subst e; exact hy.wpOp hi hS ⟨fun _ => hS, H⟩
    · have hjz : j ≠ z := fun c => waits_ready hz hunf (c ▸ hj)
      obtain ⟨hju, oj, hoj, hall⟩ := mem_ready.1 hj
      have hno : ∀ e ∈ oj.after, Region.binds md e = true → e.on ≠ i := fun e he hb c => by
        have := hall e he hb
        rw [c, hunf] at this
        cases this
      have h2 := wpOp_putIf hoj (hfree j oj hoj e hju hno) (fun cs b => hsel i oi cs b hi) (fun cs b => hsel j oj cs b hoj) hQ hy (H.2 j (ready_mono hj e))
      have hfree2 : ∀ k ok, ops[k]? = some ok → k ≠ i → (listed.setIfInBounds j true).getD k true = false → (∀ e ∈ ok.after, Region.binds md e = true → e.on ≠ i) → oi.apart ops ok = true := fun k ok hk hki hkj hnk => by
        by_cases c : j = k
        · subst c; exact hfree j ok hk hki hju hnk
        · exact hfree k ok hk hki (by rwa [getD_set_ne true c] at hkj) hnk
      refine wpOp_mono (fun a' w' h3 => ⟨h3.2.1, ih (listed.setIfInBounds j true) a' w' hfree2 (ready_mono hr (Ne.symm e)) h3.1 (h3.2.1 hjz) ?_⟩) h2
      rw [Array.setIfInBounds_comm _ _ e]
      exact h3.2.2
/-- take number i first -/
theorem wpAnyZ_take (i : Nat) {oi : Oper} {v : Value} {n : Nat} {listed : Array Bool} {a : Act} {w : World} (hi : ops[i]? = some oi)
    (hs : Region.noSelect ops = true) (hz : waits md ops z i = true) (hf : Region.free md ops listed i = true) (hr : (Region.ready md ops listed).contains i = true)
    (hQ : ∀ c a w, Q (.panic c) (a.put oi.dst v) w → Q (.panic c) a w) (hw : Region.wanted oi (yielded ops a.tmps) = true) (hy : ∀ w, S w → (execOp a.eval oi).run P w = .ok (.value v) w) (hS : S w)
    (h : wpAnyZ P md ops Q S z n (listed.setIfInBounds i true) (a.put oi.dst v) w) : wpAnyZ P md ops Q S z (n + 1) listed a w :=
  wpAnyZ_first hi (Region.noSelect_spec hs) hQ hz n listed a w (Region.free_spec hi hf) (by simpa using hr) (.inl ⟨hw, hy⟩) hS h
/-- only number i may come up -/
theorem wpAnyZ_one (i : Nat) {oi : Oper} {n : Nat} {listed : Array Bool} {a : Act} {w : World} (hi : ops[i]? = some oi) (hr : Region.ready md ops listed = [i])
    (h : ∀ K : Act → World → Prop, (∀ a' w', (i ≠ z → S w') → wpAnyZ P md ops Q S z n (listed.setIfInBounds i true) a' w' → K a' w') → if Region.wanted oi (yielded ops a.tmps) = true then Oper.wp P oi a w K Q else K (a.put oi.dst undef) w) : wpAnyZ P md ops Q S z (n + 1) listed a w := by
  refine ⟨fun c => absurd (hr.symm.trans c) (by simp), fun j hj => ?_⟩
  rw [hr] at hj
  simp at hj
  subst hj
  exact wpOp_step hi fun K hK => h K fun a' w' h1 h2 => hK a' w' ⟨h1, h2⟩
theorem wpAnyZ_done {listed : Array Bool} {a : Act} {w : World} (hr : Region.ready md ops listed = []) (h : Q .normal a w) : ∀ n, wpAnyZ P md ops Q S z n listed a w
  | 0 => ⟨hr, h⟩
  | _ + 1 => ⟨fun _ => h, by rw [hr]; simp⟩
theorem wp_region_late (S : World → Prop) (z : Nat) {id : Nat} {a : Act} {w : World} (hm : P.follows .mixedOrders = true)
    (h : wpAnyZ P .any ops Q S z ops.size (Array.replicate ops.size false) a w.drew) : (Code.region id ops true).wp P Q a w :=
  wp_region_any hm (wpAnyZ_any _ _ _ _ h)
end
end Go.Proofs.Ytijmmacpmcbmkaa

/-
  OWN WORK. Locks (layer 15): how they lie in memory.
-/
namespace Go.Proofs.Ytijmmacpmcbmkaa
open Go.RowKit
set_option linter.unusedVariables false

theorem hideH {p : Prop} (h : p) : Hid p := h
theorem wrap_i64_of {x : Int} (h1 : -9223372036854775808 ≤ x) (h2 : x < 9223372036854775808) : IntKind.i64.wrap x = x := by rw [IntKind.wrap_i64]; omega
/-- block g holds just these cells -/
def Blk (w : World) (g : Nat) (t : TypeId) (cs : List Value) : Prop := w.heap[g]? = some (.cells cs.toArray t (0, 0))
theorem Blk.new (w : World) (t : TypeId) (cs : List Value) : Blk (w.alloc (.cells cs.toArray t)) w.heap.size t cs := heap_alloc_new w _
theorem Blk.lt {w : World} {g : Nat} {t : TypeId} {cs : List Value} (h : Blk w g t cs) : g < w.heap.size := (Array.getElem?_eq_some_iff.1 h).1
theorem Blk.cell {w : World} {g : Nat} {t : TypeId} {cs : List Value} (h : Blk w g t cs) {j : Nat} {v : Value} (hj : cs[j]? = some v) : w.cell? ⟨g, j, none⟩ = some v := by
  have h' : w.heap[g]? = some (.cells cs.toArray t (0, 0)) := h
  simp [World.cell?, h', hj]
theorem Blk.free {w : World} {g : Nat} {t : TypeId} {cs : List Value} (h : Blk w g t cs) (j : Nat) : w.frozen? ⟨g, j, none⟩ = false := by
  have h' : w.heap[g]? = some (.cells cs.toArray t (0, 0)) := h
  simp [World.frozen?, h']
theorem Blk.kept {w w' : World} {g : Nat} {t : TypeId} {cs : List Value} {S : List Nat} (h : Blk w g t cs) (k : Kept S w w') (hS : g ∉ S) : Blk w' g t cs := (k.block g h.lt hS).trans h
theorem Blk.set {w : World} {g : Nat} {t : TypeId} {cs : List Value} (h : Blk w g t cs) (j : Nat) (v : Value) : Blk (w.setCell ⟨g, j, none⟩ v) g t (cs.set j v) ∧ Kept [g] w (w.setCell ⟨g, j, none⟩ v) := by
  have h' : w.heap[g]? = some (.cells cs.toArray t (0, 0)) := h
  refine ⟨?_, (Kept.refl [g] w).setCell (.inl (by simp)) v⟩
  simp [Blk, World.setCell, Array.getElem?_modify, h', List.setIfInBounds_toArray]
def i64s (l : List Int) : List Value := l.map (Value.int .i64)
theorem i64s_length (l : List Int) : (i64s l).length = l.length := by simp [i64s]
theorem i64s_one (l : List Int) : ∀ u ∈ i64s l, u.oneCell' = true := fun u hu => by
  obtain ⟨x, -, rfl⟩ := List.mem_map.1 hu
  rfl
theorem i64s_at {l : List Int} {j : Nat} (h : j < l.length) : (i64s l)[j]? = some (.int .i64 (l.getD j 0)) := by
  simp [i64s, h]
theorem i64s_set (l : List Int) (j : Nat) (x : Int) : (i64s l).set j (.int .i64 x) = i64s (l.set j x) := by simp [i64s, List.map_set]
theorem src_i64 {P : Program} (w : World) (t e : TypeId) (ht : P.underlying t = some (.slice e)) (x : Int) : Src P 1 t (.slice (some ⟨w.heap.size, 0, none⟩) 1 1) 1 [.int .i64 x] (w.alloc (.cells #[.int .i64 x] e)) := by
  refine Src.ofSlice _ ht _ _ _ _ rfl (fun j u hj => ?_) (i64s_one [x])
  rw [add_none rfl]
  have q := (Blk.new w e [.int .i64 x]).cell hj
  simpa using q
/-- a list of numbers of one's own -/
def Ns (w : World) (base : Nat) (v : Value) (l : List Int) : Prop := Row w base 1 v l.length (i64s l)
theorem Ns.kept {w w' : World} {base : Nat} {v : Value} {l : List Int} {S : List Nat} (h : Ns w base v l) (k : Kept S w w') (hS : ∀ x, v.ownBlock = some x → x ∉ S) : Ns w' base v l := Row.kept h k hS
theorem Ns.mono {w : World} {b b' : Nat} {v : Value} {l : List Int} (h : Ns w b v l) (hb : b' ≤ b) : Ns w b' v l := Row.mono h hb
theorem Ns.nil (w : World) (base : Nat) : Ns w base (.slice none 0 0) [] := Row.nil w base 1
theorem Ns.lt {w : World} {base : Nat} {v : Value} {l : List Int} (h : Ns w base v l) {x : Nat} (hx : v.ownBlock = some x) : base ≤ x ∧ x < w.heap.size := Row.lt h x hx
theorem Ns.shape {w : World} {base : Nat} {v : Value} {l : List Int} (h : Ns w base v l) : ∃ p c, v = .slice p l.length c := by
  obtain ⟨p, c, e, -⟩ := Row.shape h
  exact ⟨p, c, e⟩
theorem Ns.at {w : World} {base : Nat} {p : Option Addr} {n c : Nat} {l : List Int} (h : Ns w base (.slice p n c) l) {j : Nat} (hj : j < l.length) : ∃ g, p = some ⟨g, 0, none⟩ ∧ base ≤ g ∧ w.cell? ⟨g, j, none⟩ = some (.int .i64 (l.getD j 0)) ∧ w.frozen? ⟨g, j, none⟩ = false := by
  have h' : Row w base 1 (.slice p n c) l.length (i64s l) := h
  obtain ⟨p', c', e, h3, h4⟩ := Row.shape h'
  cases e
  obtain ⟨g, rfl, h6, h7, h8, h9⟩ := Row.pos h' (by omega)
  exact ⟨g, rfl, h6, h8 j _ (i64s_at hj), (h9 j (by omega)).2⟩
end Go.Proofs.Ytijmmacpmcbmkaa

/-
  OWN WORK. Locks (layer 15): the face of the program's Locks; the law's 'same'.
-/
namespace Go.Proofs.Ytijmmacpmcbmkaa
open Go.RowKit
set_option linter.unusedVariables false
set_option linter.unusedSimpArgs false

def I64 (x : Int) : Prop := -9223372036854775808 ≤ x ∧ x < 9223372036854775808
/-- what the laws ask of the program's Locks: Lk w g F hs: at g lies a Locks that tells hs, in the blocks F -/
structure LkOps (Lk : World → Nat → List Nat → List Int → Prop) : Prop where
  kept : ∀ {w w' : World} {g : Nat} {F : List Nat} {hs : List Int} {S : List Nat}, Lk w g F hs → Kept S w w' → (∀ x ∈ F, x ∉ S) → Lk w' g F hs
  lt : ∀ {w : World} {g : Nat} {F : List Nat} {hs : List Int}, Lk w g F hs → ∀ x ∈ F, x < w.heap.size
  ok : ∀ {w : World} {g : Nat} {F : List Nat} {hs : List Int}, Lk w g F hs → OkH hs
  new : ∀ w, Calls Try.prog 16 #[] w fun e w' => ∃ g F, e = .returned (.pointer (some ⟨g, 0, none⟩)) ∧ Lk w' g F (List.replicate 16 0) ∧ (∀ x ∈ F, w.heap.size ≤ x) ∧ Kept [] w w'
  take : ∀ {g : Nat} {F : List Nat} {hs : List Int} (p b : Int) (w : World), Lk w g F hs → I64 p → I64 b → Calls Try.prog 13 #[.pointer (some ⟨g, 0, none⟩), .int .i64 p, .int .i64 b] w fun e w' => e = .returned (.int .i64 (takeE hs p b)) ∧ Lk w' g F (takeH hs p b) ∧ Kept F w w'
  give : ∀ {g : Nat} {F : List Nat} {hs : List Int} (p : Int) (w : World), Lk w g F hs → I64 p → Calls Try.prog 14 #[.pointer (some ⟨g, 0, none⟩), .int .i64 p] w fun e w' => e = .returned (.bool (giveB hs p)) ∧ Lk w' g F (giveH hs p) ∧ Kept F w w'
  holder : ∀ {g : Nat} {F : List Nat} {hs : List Int} (p : Int) (w : World), Lk w g F hs → I64 p → Calls Try.prog 15 #[.pointer (some ⟨g, 0, none⟩), .int .i64 p] w fun e w' => e = .returned (.int .i64 (whoL hs p)) ∧ Kept [] w w'
  held : ∀ {g : Nat} {F : List Nat} {hs : List Int} (b : Int) (w : World), Lk w g F hs → I64 b → Calls Try.prog 9 #[.pointer (some ⟨g, 0, none⟩), .int .i64 b] w fun e w' => ∃ v, e = .returned v ∧ Ns w' w.heap.size v (heldL hs b) ∧ Kept [] w w'
  drop : ∀ {g : Nat} {F : List Nat} {hs : List Int} (b : Int) (w : World), Lk w g F hs → I64 b → Calls Try.prog 10 #[.pointer (some ⟨g, 0, none⟩), .int .i64 b] w fun e w' => ∃ v, e = .returned v ∧ Ns w' w.heap.size v (heldL hs b) ∧ Lk w' g F (dropH hs b) ∧ Kept F w w'

theorem Ns.lit (w : World) (e : TypeId) (l : List Int) (cs : Array Value) (hcs : cs = (i64s l).toArray) (hl : l.length ≤ maxLen) : Ns (w.alloc (.cells cs e)) w.heap.size (.slice (some ⟨w.heap.size, 0, none⟩) l.length l.length) l := by
  subst hcs
  refine ⟨by rw [i64s_length]; omega, i64s_one l, _, _, rfl, Nat.le_refl _, hl, .inr ⟨_, rfl, Nat.le_refl _, by rw [World.size_alloc]; omega, fun j u hj => (Blk.new w e (i64s l)).cell hj, fun j hj => ⟨?_, (Blk.new w e (i64s l)).free j⟩⟩⟩
  rw [(Blk.new w e (i64s l)).cell (i64s_at (l := l) (j := j) (by omega))]
  rfl
theorem Ns.len {w : World} {base : Nat} {v : Value} {l : List Int} (h : Ns w base v l) : l.length ≤ maxLen := by
  obtain ⟨p, c, e, h3, h4⟩ := Row.shape h
  omega
theorem lists_ne {la lb : List Int} {k : Nat} (h : la.getD k 0 ≠ lb.getD k 0) : la ≠ lb := fun e => h (by rw [e])
theorem lists_eq {la lb : List Int} (hl : la.length = lb.length) (h : ∀ i, i < la.length → la.getD i 0 = lb.getD i 0) : la = lb := by
  apply List.ext_getElem hl
  intro i h1 h2
  have q := h i h1
  rw [List.getD_eq_getElem?_getD, List.getD_eq_getElem?_getD, List.getElem?_eq_getElem h1, List.getElem?_eq_getElem h2] at q
  exact q
set_option maxRecDepth 20000 in
set_option maxHeartbeats 1600000 in
theorem same_any (a b : Value) (la lb : List Int) (b1 b2 : Nat) (w : World) (ha : Ns w b1 a la) (hb : Ns w b2 b lb) : Calls Try.prog 11 #[a, b] w fun e w' => e = .returned (.bool (decide (la = lb))) ∧ Kept [] w w' := by
  obtain ⟨p, c, hpa⟩ := ha.shape
  subst hpa
  obtain ⟨q, d, hqb⟩ := hb.shape
  subst hqb
  obtain ⟨n, hn⟩ : ∃ n, n = la.length := ⟨_, rfl⟩
  obtain ⟨m, hm⟩ : ∃ m, m = lb.length := ⟨_, rfl⟩
  have HA := @hideH _ ha
  have HB := @hideH _ hb
  have HN := @hideH _ (And.intro hn (And.intro hm ha.len))
  rw [← hn, ← hm]
  clear ha hb hn hm
  go_enter Try.func11, Try.ntmps11
  by_cases hl : n = m
  · subst hl
    go_wp2
    go_loopw [5] (fun i wr => ∃ k : Nat, k ≤ n ∧ i = .int .i64 k ∧ Hid ((∀ i, i < k → la.getD i 0 = lb.getD i 0) ∧ Kept [] w wr)) (fun i _ => n - (intOf i).toNat)
    case atStart => exact ⟨0, Nat.zero_le _, rfl, (fun i hi => absurd hi (Nat.not_lt_zero i)), Kept.refl _ _⟩
    case round =>
      obtain ⟨k, hk, rfl, hh⟩ := hrel
      by_cases hkl : k < n
      · have hkl' : (k : Int) < (n : Int) := by omega
        have h0 : (0 : Int) ≤ (k : Int) := by omega
        have wk : IntKind.i64.wrap ((k : Int) + 1) = (k : Int) + 1 := wrap_i64_of (by omega) (by have e1 := HN.out.1; have e2 := HN.out.2.2; unfold maxLen at e2; omega)
        obtain ⟨ga, epa, -, ca, -⟩ := HA.out.at (j := k) (by have := HN.out.1; omega)
        obtain ⟨gb, epb, -, cb, -⟩ := HB.out.at (j := k) (by have := HN.out.2.1; omega)
        subst epa epb
        have ca' := hh.out.2.cell ca (by simp)
        have cb' := hh.out.2.cell cb (by simp)
        obtain ⟨x, hx⟩ : ∃ x, x = la.getD k 0 := ⟨_, rfl⟩
        obtain ⟨y, hy⟩ : ∃ y, y = lb.getD k 0 := ⟨_, rfl⟩
        rw [← hx] at ca'
        rw [← hy] at cb'
        clear ca cb
        by_cases hxy : x = y
        · have hxy' : (x != y) = false := by simpa using hxy
          have HH := @hideH _ (show ∀ i, i < k + 1 → la.getD i 0 = lb.getD i 0 from fun i hi => by
            by_cases c : i = k
            · subst c; rw [← hx, ← hy]; exact hxy
            · exact hh.out.1 i (by omega))
          have HK := @hideH _ hh.out.2
          clear hx hy hxy hh
          go_wp2
          go_quiet (fail)
          go_wp2
          go_roundw
          case rel => exact ⟨k + 1, by omega, by go_num, HH.out, HK.out.drewN' _⟩
          case measure => simp [intOf]; omega
        · have hxy' : (x != y) = true := by simpa using hxy
          have HE := @hideH _ (show la ≠ lb from lists_ne (k := k) (by rw [← hx, ← hy]; exact hxy))
          have HK := @hideH _ hh.out.2
          clear hx hy hxy hh
          go_wp2
          go_quiet (fail)
          go_wp2
          go_ret
          exact ⟨by rw [decide_eq_false HE.out]; rfl, HK.out.drewN' _⟩
      · have HE := @hideH _ (show la = lb from lists_eq (by rw [← HN.out.1, ← HN.out.2.1]) (fun i hi => hh.out.1 i (by have := HN.out.1; omega)))
        go_wp2
        go_ret
        exact ⟨by rw [decide_eq_true HE.out]; rfl, hh.out.2⟩
  · have hl' : ((n : Int) != (m : Int)) = true := by simp; omega
    have HE := @hideH _ (show la ≠ lb from fun e => hl (by rw [HN.out.1, HN.out.2.1, e]))
    clear hl
    go_wp2
    go_ret
    exact ⟨by rw [decide_eq_false HE.out]; rfl, Kept.refl _ _⟩
theorem same_eq (a b : Value) (l : List Int) (b1 b2 : Nat) (w : World) (ha : Ns w b1 a l) (hb : Ns w b2 b l) : Calls Try.prog 11 #[a, b] w fun e w' => e = .returned (.bool true) ∧ Kept [] w w' := by
  have q := same_any a b l l b1 b2 w ha hb
  rw [decide_eq_true (rfl : l = l)] at q
  exact q
end Go.Proofs.Ytijmmacpmcbmkaa

/-
  OWN WORK. Locks (layer 15): a script that came in.
-/
namespace Go.Proofs.Ytijmmacpmcbmkaa
open Go.ChangeShapes Go.WideShapes Go.ChangeAt Go.RowKit Go.Deep
set_option linter.unusedVariables false

structure StepL where
  second : Bool
  kind : Int
  page : Int
  birth : Int
structure StepAt (w : World) (a : Addr) (s : StepL) : Prop where
  c0 : w.cell? a = some (.bool s.second)
  c1 : w.cell? (a.add 1) = some (.int .i64 s.kind)
  c2 : w.cell? (a.add 2) = some (.int .i64 s.page)
  c3 : w.cell? (a.add 3) = some (.int .i64 s.birth)
  n : I64 s.kind ∧ I64 s.page ∧ I64 s.birth
/-- v is a slice of these steps -/
def Scr (w : World) (v : Value) (ss : List StepL) : Prop :=
  ∃ (p : Option Addr) (c : Nat), v = .slice p ss.length c ∧ ss.length ≤ c ∧ c ≤ maxLen ∧ (p = none → c = 0) ∧ ∀ a, p = some a → ∀ (i : Nat) s, ss[i]? = some s → StepAt w (a.add (i * 4)) s
theorem StepAt.kept {w w' : World} {a : Addr} {s : StepL} (h : StepAt w a s) (k : Kept [] w w') : StepAt w' a s :=
  ⟨k.cell h.c0 (by simp), k.cell h.c1 (by simp), k.cell h.c2 (by simp), k.cell h.c3 (by simp), h.n⟩
theorem Scr.kept {w w' : World} {v : Value} {ss : List StepL} (h : Scr w v ss) (k : Kept [] w w') : Scr w' v ss := by
  obtain ⟨p, c, e, h1, h2, h3, h4⟩ := h
  exact ⟨p, c, e, h1, h2, h3, fun a ha i s hs => (h4 a ha i s hs).kept k⟩
theorem Scr.shape {w : World} {v : Value} {ss : List StepL} (h : Scr w v ss) : ∃ p c, v = .slice p ss.length c ∧ ss.length ≤ maxLen := by
  obtain ⟨p, c, e, h1, h2, -⟩ := h
  exact ⟨p, c, e, by omega⟩
theorem Scr.at {w : World} {v : Value} {ss : List StepL} (h : Scr w v ss) {k : Nat} {s : StepL} (hk : ss[k]? = some s) :
    ∃ b o c, v = .slice (some ⟨b, o, none⟩) ss.length c ∧ w.cell? ⟨b, o + k * 4, none⟩ = some (.bool s.second) ∧ w.cell? ⟨b, o + k * 4 + 1, none⟩ = some (.int .i64 s.kind) ∧ w.cell? ⟨b, o + k * 4 + 2, none⟩ = some (.int .i64 s.page) ∧ w.cell? ⟨b, o + k * 4 + 3, none⟩ = some (.int .i64 s.birth) ∧ (I64 s.kind ∧ I64 s.page ∧ I64 s.birth) := by
  obtain ⟨p, c, rfl, h1, h2, h3, h4⟩ := h
  have hkl := (List.getElem?_eq_some_iff.1 hk).1
  cases p with
  | none => have := h3 rfl; omega
  | some a =>
    have h0 := (h4 a rfl 0 ss[0] (List.getElem?_eq_getElem (by omega))).c0
    have hs := spot_of_cell h0
    have hs' : a.spot = none := by
      unfold Addr.add at hs
      split at hs <;> simp_all
    obtain ⟨g0, g1, g2, g3, g4⟩ := h4 a rfl k s hk
    obtain ⟨b, o, sp⟩ := a
    simp only at hs'
    subst hs'
    have hA : (⟨b, o, none⟩ : Addr).add (k * 4) = ⟨b, o + k * 4, none⟩ := add_none (a := ⟨b, o, none⟩) rfl (k * 4)
    rw [hA] at g0 g1 g2 g3
    rw [add_none (a := ⟨b, o + k * 4, none⟩) rfl] at g1 g2 g3
    exact ⟨b, o, c, rfl, g0, g1, g2, g3, g4⟩
theorem four_of15 {α : Type} {l : List α} (h : l.length = 4) : ∃ a b c d, l = [a, b, c, d] := by
  match l, h with
  | [a, b, c, d], _ => exact ⟨a, b, c, d, rfl⟩
theorem choose_lt15 {α : Type} [Inhabited α] {n : Nat} {Q : Nat → α → Prop} (h : ∀ i, i < n → ∃ q, Q i q) : ∃ q : Nat → α, ∀ i, i < n → Q i (q i) := by
  refine ⟨fun i => if hi : i < n then Classical.choose (h i hi) else default, fun i hi => ?_⟩
  simp only [hi, dite_true]
  exact Classical.choose_spec (h i hi)
theorem i64_of_wf {z : Int} (h : (Lit.int .i64 z).wf = true) : I64 z := by
  have hb : -9223372036854775808 ≤ z ∧ z ≤ 9223372036854775807 := by simpa [Lit.wf, IntKind.min, IntKind.max, IntKind.signed, IntKind.bits] using h
  exact ⟨by omega, by omega⟩
theorem steps_open {H : Type} {enc : TypeId × Value → H} {W : World} {t e : TypeId} {f0 f1 f2 f3 : Field} {ao : Option Addr} {len cap : Nat} {d : DataW H} {p : List MemPlace} (ht : Try.prog.underlying t = some (.slice e)) (he : Try.prog.underlying e = some (.struct #[f0, f1, f2, f3]))
    (ce : Try.prog.cellsOf e = 4) (o0 : f0.offset = 0) (o1 : f1.offset = 1) (o2 : f2.offset = 2) (o3 : f3.offset = 3)
    (c0 : Try.prog.cellsOf f0.type = 1) (c1 : Try.prog.cellsOf f1.type = 1) (c2 : Try.prog.cellsOf f2.type = 1) (c3 : Try.prog.cellsOf f3.type = 1)
    (t0 : Try.prog.underlying f0.type = some .bool) (t1 : Try.prog.underlying f1.type = some (.int .i64)) (t2 : Try.prog.underlying f2.type = some (.int .i64)) (t3 : Try.prog.underlying f3.type = some (.int .i64))
    (h : DataW.Trod enc Try.prog W 0 (fun _ => true) true t (.slice ao len cap) d p) : ∃ ss : List StepL, ss.length = len ∧ Scr W (.slice ao len cap) ss := by
  obtain ⟨fuel, hf⟩ := h
  rcases open_slice ht hf with ⟨hcs, hx⟩ | ⟨a, l, c, m, n, D, Pl, hcs, hb, hl, hm, hmm, hx, hel⟩
  · simp [Value.cells] at hcs
    obtain ⟨rfl, rfl, rfl⟩ := hcs
    exact ⟨[], rfl, ⟨none, 0, rfl, Nat.le_refl _, by simp [maxLen], fun _ => rfl, fun a e => (by cases e)⟩⟩
  · simp [Value.cells] at hcs
    obtain ⟨rfl, rfl, rfl⟩ := hcs
    have hmm' : m = cap := by simpa using hmm
    have each : ∀ i, i < m → ∃ q : StepL, StepAt W (a.add (i * 4)) q := by
      intro i hi
      obtain ⟨cs', g1, g2⟩ := hel i hi
      rw [ce] at g1
      obtain ⟨_, hlen, hcell⟩ := World.cells?_some g1
      obtain ⟨xs, k, hk, hxy, _, hxl, hff⟩ := DataW.trod_struct he g2
      obtain ⟨y0, y1, y2, y3, rfl⟩ := four_of15 (show xs.length = 4 from hxl)
      obtain ⟨v0, v1, v2, v3, rfl⟩ := four_of15 hlen
      have q0 := hff 0 f0 rfl
      have q1 := hff 1 f1 rfl
      have q2 := hff 2 f2 rfl
      have q3 := hff 3 f3 rfl
      simp [o0, o1, o2, o3, c0, c1, c2, c3] at q0 q1 q2 q3
      obtain ⟨z0, e0, -⟩ := DataW.trod_bool t0 q0
      obtain ⟨z1, e1, -, w1⟩ := DataW.trod_int t1 q1
      obtain ⟨z2, e2, -, w2⟩ := DataW.trod_int t2 q2
      obtain ⟨z3, e3, -, w3⟩ := DataW.trod_int t3 q3
      simp at e0 e1 e2 e3
      subst e0 e1 e2 e3
      have x0 := hcell 0 (by omega)
      have x1 := hcell 1 (by omega)
      have x2 := hcell 2 (by omega)
      have x3 := hcell 3 (by omega)
      refine ⟨⟨z0, z1, z2, z3⟩, ?_, ?_, ?_, ?_, i64_of_wf w1, i64_of_wf w2, i64_of_wf w3⟩
      · have : (a.add (i * 4)).add 0 = a.add (i * 4) := by rw [Go.Proofs.Ytijmmacpmcbmkaa.add_add]; rfl
        rw [this] at x0
        simpa using x0
      · simpa using x1
      · simpa using x2
      · simpa using x3
    haveI : Inhabited StepL := ⟨⟨false, 0, 0, 0⟩⟩
    obtain ⟨q, hq⟩ := choose_lt15 each
    refine ⟨(List.range len).map q, by simp, ⟨some a, cap, by simp, by simpa using hl, hm, fun e => (by cases e), fun a' e i s hs => ?_⟩⟩
    cases e
    simp only [List.getElem?_map] at hs
    obtain ⟨j, hj, rfl⟩ := Option.map_eq_some_iff.1 hs
    obtain ⟨hj2, rfl⟩ := List.getElem?_eq_some_iff.1 hj
    have hi : i < len := by simpa using hj2
    simp only [List.getElem_range]
    exact hq i (by omega)
/-- what a script's takes, gives and drops leave -/
def playL (hs : List Int) (s : StepL) : List Int := if s.kind = 0 then takeH hs s.page s.birth else if s.kind = 1 then giveH hs s.page else if s.kind = 2 then dropH hs s.birth else hs
def playedL (ss : List StepL) : Nat → List Int
  | 0 => List.replicate 16 0
  | k + 1 => match ss[k]? with
    | some s => playL (playedL ss k) s
    | none => playedL ss k
theorem playedL_next {ss : List StepL} {k : Nat} {s : StepL} (h : ss[k]? = some s) : playedL ss (k + 1) = playL (playedL ss k) s := by rw [playedL, h]
end Go.Proofs.Ytijmmacpmcbmkaa

/-
  OWN WORK. Locks (layer 15): the law's 'known', 'holders', 'played'.
-/
namespace Go.Proofs.Ytijmmacpmcbmkaa
open Go.RowKit
set_option linter.unusedVariables false
set_option linter.unusedSimpArgs false

theorem i64_small {x : Int} (h1 : -1000 ≤ x) (h2 : x ≤ 1000) : I64 x := ⟨by omega, by omega⟩
set_option maxRecDepth 20000 in
set_option maxHeartbeats 1600000 in
theorem known_any {Lk : World → Nat → List Nat → List Int → Prop} (O : LkOps Lk) (w : World) : Calls Try.prog 8 #[] w fun e w' => e = .returned (.bool true) ∧ Kept [] w w' := by
  go_enter Try.func8, Try.ntmps8
  go_wp2_with fail
  refine (O.new w).mono ?_
  rintro e w1 ⟨g, F, rfl, l1, hF, k1⟩
  have HF := @hideH _ hF
  clear hF
  go_wp2_with fail
  refine (O.take 3 7 _ l1 (i64_small (by decide) (by decide)) (i64_small (by decide) (by decide))).mono ?_
  rintro e w2 ⟨rfl, l2, k2⟩
  rw [show takeE (List.replicate 16 0) 3 7 = 0 from by decide]
  rw [show takeH (List.replicate 16 0) 3 7 = (List.replicate 16 0).set 3 7 from by decide] at l2
  have K2 := k1.trans k2 (fun x hx => .inr (HF.out x hx))
  clear k1 k2 l1
  go_wp2_with fail
  refine (O.take 3 8 _ l2 (i64_small (by decide) (by decide)) (i64_small (by decide) (by decide))).mono ?_
  rintro e w3 ⟨rfl, l3, k3⟩
  rw [show takeE ((List.replicate 16 0).set 3 7) 3 8 = 150 from by decide]
  rw [show takeH ((List.replicate 16 0).set 3 7) 3 8 = (List.replicate 16 0).set 3 7 from by decide] at l3
  have K3 := K2.trans k3 (fun x hx => .inr (HF.out x hx))
  clear K2 k3 l2
  go_wp2_with fail
  refine (O.holder 3 _ l3 (i64_small (by decide) (by decide))).mono ?_
  rintro e w4 ⟨rfl, k4⟩
  rw [show whoL ((List.replicate 16 0).set 3 7) 3 = 7 from by decide]
  have l4 := O.kept l3 k4 (by simp)
  have K4 := K3.then k4
  clear K3 k4 l3
  go_wp2_with fail
  refine (O.held 7 _ l4 (i64_small (by decide) (by decide))).mono ?_
  rintro e w5 ⟨v, rfl, n5, k5⟩
  rw [show heldL ((List.replicate 16 0).set 3 7) 7 = [3] from by decide] at n5
  have l5 := O.kept l4 k5 (by simp)
  have K5 := K4.then k5
  clear K4 k5 l4
  have hsm := same_eq v (.slice (some ⟨w5.heap.size, 0, none⟩) 1 1) [3] _ _ (w5.alloc (.cells #[.int .i64 3] 3)) (n5.kept ((Kept.refl [] w5).alloc _) (by simp)) (Ns.lit w5 3 [3] #[.int .i64 3] rfl (by simp [maxLen]))
  go_wp2_with fail
  refine hsm.mono ?_
  rintro e w6 ⟨rfl, k6⟩
  have k56 : Kept [] w5 w6 := ((Kept.refl [] w5).alloc _).then k6
  have l6 := O.kept l5 k56 (by simp)
  have K6 := K5.then k56
  clear K5 k56 k6 l5 hsm n5
  go_wp2_with fail
  refine (O.give 3 _ l6 (i64_small (by decide) (by decide))).mono ?_
  rintro e w7 ⟨rfl, l7, k7⟩
  rw [show giveB ((List.replicate 16 0).set 3 7) 3 = true from by decide]
  rw [show giveH ((List.replicate 16 0).set 3 7) 3 = List.replicate 16 0 from by decide] at l7
  have K7 := K6.trans k7 (fun x hx => .inr (HF.out x hx))
  clear K6 k7 l6
  go_wp2_with fail
  refine (O.holder 3 _ l7 (i64_small (by decide) (by decide))).mono ?_
  rintro e w8 ⟨rfl, k8⟩
  rw [show whoL (List.replicate 16 0) 3 = 0 from by decide]
  have K8 := @hideH _ (K7.then k8)
  clear K7 k8 l7
  go_wp2
  go_ret
  exact ⟨rfl, K8.out⟩
theorem len16 {hs : List Int} (h : hs.length = 16) : ∃ x0 x1 x2 x3 x4 x5 x6 x7 x8 x9 x10 x11 x12 x13 x14 x15, hs = [x0, x1, x2, x3, x4, x5, x6, x7, x8, x9, x10, x11, x12, x13, x14, x15] := by
  match hs, h with
  | [x0, x1, x2, x3, x4, x5, x6, x7, x8, x9, x10, x11, x12, x13, x14, x15], _ => exact ⟨x0, x1, x2, x3, x4, x5, x6, x7, x8, x9, x10, x11, x12, x13, x14, x15, rfl⟩
/-- the first k told, the others 0 -/
def firstN (hs : List Int) (k : Nat) : List Int := hs.take k ++ List.replicate (16 - k) 0
theorem firstN_zero (hs : List Int) : firstN hs 0 = List.replicate 16 0 := by simp [firstN]
theorem firstN_all {hs : List Int} (h : hs.length = 16) : firstN hs 16 = hs := by simp [firstN, ← h]
theorem firstN_length {hs : List Int} (h : hs.length = 16) {k : Nat} (hk : k ≤ 16) : (firstN hs k).length = 16 := by simp [firstN, h]; omega
theorem firstN_set {hs : List Int} (h : hs.length = 16) {k : Nat} (hk : k < 16) : (firstN hs k).set k (hs.getD k 0) = firstN hs (k + 1) := by
  unfold firstN
  have e : (hs.take k).length = k := by simp; omega
  rw [List.set_append_right _ _ (by omega), e, Nat.sub_self, show 16 - k = (16 - (k + 1)) + 1 by omega, List.replicate_succ, List.set_cons_zero, List.take_succ_eq_append_getElem (by omega)]
  rw [List.getD_eq_getElem?_getD, List.getElem?_eq_getElem (by omega), List.append_assoc]
  rfl
theorem Blk.fill16 {w : World} {g : Nat} {t : TypeId} {z0 z1 z2 z3 z4 z5 z6 z7 z8 z9 z10 z11 z12 z13 z14 z15 : Value} (h : Blk w g t [z0, z1, z2, z3, z4, z5, z6, z7, z8, z9, z10, z11, z12, z13, z14, z15]) (v0 v1 v2 v3 v4 v5 v6 v7 v8 v9 v10 v11 v12 v13 v14 v15 : Value) : Blk ((((((((((((((((w.setCell ⟨g, 0, none⟩ v0).setCell ⟨g, 1, none⟩ v1).setCell ⟨g, 2, none⟩ v2).setCell ⟨g, 3, none⟩ v3).setCell ⟨g, 4, none⟩ v4).setCell ⟨g, 5, none⟩ v5).setCell ⟨g, 6, none⟩ v6).setCell ⟨g, 7, none⟩ v7).setCell ⟨g, 8, none⟩ v8).setCell ⟨g, 9, none⟩ v9).setCell ⟨g, 10, none⟩ v10).setCell ⟨g, 11, none⟩ v11).setCell ⟨g, 12, none⟩ v12).setCell ⟨g, 13, none⟩ v13).setCell ⟨g, 14, none⟩ v14).setCell ⟨g, 15, none⟩ v15) g t [v0, v1, v2, v3, v4, v5, v6, v7, v8, v9, v10, v11, v12, v13, v14, v15] ∧ Kept [g] w ((((((((((((((((w.setCell ⟨g, 0, none⟩ v0).setCell ⟨g, 1, none⟩ v1).setCell ⟨g, 2, none⟩ v2).setCell ⟨g, 3, none⟩ v3).setCell ⟨g, 4, none⟩ v4).setCell ⟨g, 5, none⟩ v5).setCell ⟨g, 6, none⟩ v6).setCell ⟨g, 7, none⟩ v7).setCell ⟨g, 8, none⟩ v8).setCell ⟨g, 9, none⟩ v9).setCell ⟨g, 10, none⟩ v10).setCell ⟨g, 11, none⟩ v11).setCell ⟨g, 12, none⟩ v12).setCell ⟨g, 13, none⟩ v13).setCell ⟨g, 14, none⟩ v14).setCell ⟨g, 15, none⟩ v15) := by
  have b0 := h.set 0 v0
  have b1 := b0.1.set 1 v1
  have b2 := b1.1.set 2 v2
  have b3 := b2.1.set 3 v3
  have b4 := b3.1.set 4 v4
  have b5 := b4.1.set 5 v5
  have b6 := b5.1.set 6 v6
  have b7 := b6.1.set 7 v7
  have b8 := b7.1.set 8 v8
  have b9 := b8.1.set 9 v9
  have b10 := b9.1.set 10 v10
  have b11 := b10.1.set 11 v11
  have b12 := b11.1.set 12 v12
  have b13 := b12.1.set 13 v13
  have b14 := b13.1.set 14 v14
  have b15 := b14.1.set 15 v15
  exact ⟨b15.1, (((((((((((((((b0.2.trans b1.2 (by simp)).trans b2.2 (by simp)).trans b3.2 (by simp)).trans b4.2 (by simp)).trans b5.2 (by simp)).trans b6.2 (by simp)).trans b7.2 (by simp)).trans b8.2 (by simp)).trans b9.2 (by simp)).trans b10.2 (by simp)).trans b11.2 (by simp)).trans b12.2 (by simp)).trans b13.2 (by simp)).trans b14.2 (by simp)).trans b15.2 (by simp))⟩
set_option maxRecDepth 20000 in
set_option maxHeartbeats 3200000 in
theorem holders_any {Lk : World → Nat → List Nat → List Int → Prop} (O : LkOps Lk) (g : Nat) (F : List Nat) (hs : List Int) (w : World) (h : Lk w g F hs) : Calls Try.prog 12 #[.pointer (some ⟨g, 0, none⟩)] w fun e w' => e = .returned (.agg (i64s hs).toArray) ∧ Kept [] w w' := by
  have HL := @hideH _ (O.ok h).len
  have HK := @hideH _ h
  clear h
  obtain ⟨w1, hw1⟩ : ∃ wx, wx = w.alloc (.cells #[.int .i64 0, .int .i64 0, .int .i64 0, .int .i64 0, .int .i64 0, .int .i64 0, .int .i64 0, .int .i64 0, .int .i64 0, .int .i64 0, .int .i64 0, .int .i64 0, .int .i64 0, .int .i64 0, .int .i64 0, .int .i64 0] 31) := ⟨_, rfl⟩
  have k1 : Kept [] w w1 := by rw [hw1]; exact (Kept.refl [] w).alloc _
  have B1 : Blk w1 w.heap.size 31 (i64s (List.replicate 16 0)) := by rw [hw1]; exact Blk.new w _ _
  obtain ⟨w2, hw2⟩ : ∃ wx, wx = w1.alloc (.cells #[.int .i64 0, .int .i64 0, .int .i64 0, .int .i64 0, .int .i64 0, .int .i64 0, .int .i64 0, .int .i64 0, .int .i64 0, .int .i64 0, .int .i64 0, .int .i64 0, .int .i64 0, .int .i64 0, .int .i64 0, .int .i64 0] 31) := ⟨_, rfl⟩
  have k2 : Kept [] w1 w2 := by rw [hw2]; exact (Kept.refl [] w1).alloc _
  have B2 : Blk w2 w1.heap.size 31 (i64s (List.replicate 16 0)) := by rw [hw2]; exact Blk.new w1 _ _
  have e1 : w1.heap.size = w.heap.size + 1 := by rw [hw1, World.size_alloc]
  rw [e1] at B2
  have HB := @hideH _ (And.intro (B1.kept k2 (by simp)) (And.intro B2 (k1.then k2)))
  clear k1 k2 B1 B2
  go_enter Try.func12, Try.ntmps12
  go_upto_region 2 with fail
  rw [← hw1, ← hw2]
  clear hw1 hw2 e1
  go_wp2
  go_loopw [4] (fun i wr => ∃ k : Nat, k ≤ 16 ∧ i = .int .i64 k ∧ Hid (Blk wr w.heap.size 31 (i64s (List.replicate 16 0)) ∧ Blk wr (w.heap.size + 1) 31 (i64s (firstN hs k)) ∧ Kept [] w wr)) (fun i _ => 16 - (intOf i).toNat)
  case atStart => exact ⟨0, by omega, rfl, HB.out.1, by rw [firstN_zero]; exact HB.out.2.1, HB.out.2.2⟩
  case round =>
    clear HB
    obtain ⟨k, hk, rfl, hh⟩ := hrel
    by_cases hkl : k < 16
    · have hkl' : (k : Int) < (16 : Int) := by omega
      have h0 : (0 : Int) ≤ (k : Int) := by omega
      have wk : IntKind.i64.wrap ((k : Int) + 1) = (k : Int) + 1 := wrap_i64_of (by omega) (by omega)
      have hH := O.holder (k : Int) wr (O.kept HK.out hh.out.2.2 (by simp)) ⟨by omega, by omega⟩
      go_wp2_with fail
      refine hH.mono ?_
      clear hH
      rintro e wz ⟨rfl, kz⟩
      obtain ⟨x, hx⟩ : ∃ x, x = hs.getD k 0 := ⟨_, rfl⟩
      rw [whoL_nat hs hkl, ← hx]
      have BA := hh.out.2.1.kept kz (by simp)
      have cA := BA.cell (i64s_at (l := firstN hs k) (j := k) (by rw [firstN_length HL.out (by omega)]; exact hkl))
      have fA := BA.free k
      obtain ⟨BS, kS⟩ := BA.set k (.int .i64 x)
      rw [i64s_set, hx, firstN_set HL.out hkl, ← hx] at BS
      obtain ⟨wn, hwn⟩ : ∃ wx, wx = wz.setCell ⟨w.heap.size + 1, k, none⟩ (.int .i64 x) := ⟨_, rfl⟩
      rw [← hwn] at BS kS
      have HN := @hideH _ (And.intro ((hh.out.1.kept kz (by simp)).kept kS (by simp)) (And.intro BS ((hh.out.2.2.then kz).trans kS (fun y hy => .inr (by simp at hy; omega)))))
      clear hh kz BA BS kS hx
      generalize (firstN hs k).getD k 0 = old at cA
      go_upto_region 4 with fail
      rw [← hwn]
      clear hwn cA fA
      go_wp2
      go_roundw
      case rel => exact ⟨k + 1, by omega, by go_num, HN.out⟩
      case measure => simp [intOf]; omega
    · have ek : k = 16 := by omega
      subst ek
      have B1 := hh.out.1
      have B2 := hh.out.2.1
      rw [firstN_all HL.out] at B2
      have HKK := @hideH _ hh.out.2.2
      obtain ⟨x0, x1, x2, x3, x4, x5, x6, x7, x8, x9, x10, x11, x12, x13, x14, x15, e16⟩ := len16 HL.out
      rw [e16] at B2
      have HE := @hideH _ e16
      clear e16 hh
      have a0 := B2.cell (j := 0) rfl
      have a1 := B2.cell (j := 1) rfl
      have a2 := B2.cell (j := 2) rfl
      have a3 := B2.cell (j := 3) rfl
      have a4 := B2.cell (j := 4) rfl
      have a5 := B2.cell (j := 5) rfl
      have a6 := B2.cell (j := 6) rfl
      have a7 := B2.cell (j := 7) rfl
      have a8 := B2.cell (j := 8) rfl
      have a9 := B2.cell (j := 9) rfl
      have a10 := B2.cell (j := 10) rfl
      have a11 := B2.cell (j := 11) rfl
      have a12 := B2.cell (j := 12) rfl
      have a13 := B2.cell (j := 13) rfl
      have a14 := B2.cell (j := 14) rfl
      have a15 := B2.cell (j := 15) rfl
      have b0 := B1.cell (j := 0) rfl
      have b1 := B1.cell (j := 1) rfl
      have b2 := B1.cell (j := 2) rfl
      have b3 := B1.cell (j := 3) rfl
      have b4 := B1.cell (j := 4) rfl
      have b5 := B1.cell (j := 5) rfl
      have b6 := B1.cell (j := 6) rfl
      have b7 := B1.cell (j := 7) rfl
      have b8 := B1.cell (j := 8) rfl
      have b9 := B1.cell (j := 9) rfl
      have b10 := B1.cell (j := 10) rfl
      have b11 := B1.cell (j := 11) rfl
      have b12 := B1.cell (j := 12) rfl
      have b13 := B1.cell (j := 13) rfl
      have b14 := B1.cell (j := 14) rfl
      have b15 := B1.cell (j := 15) rfl
      have f0 := B1.free 0
      have f1 := B1.free 1
      have f2 := B1.free 2
      have f3 := B1.free 3
      have f4 := B1.free 4
      have f5 := B1.free 5
      have f6 := B1.free 6
      have f7 := B1.free 7
      have f8 := B1.free 8
      have f9 := B1.free 9
      have f10 := B1.free 10
      have f11 := B1.free 11
      have f12 := B1.free 12
      have f13 := B1.free 13
      have f14 := B1.free 14
      have f15 := B1.free 15
      obtain ⟨BF, kF⟩ := Blk.fill16 (show Blk wr w.heap.size 31 [.int .i64 0, .int .i64 0, .int .i64 0, .int .i64 0, .int .i64 0, .int .i64 0, .int .i64 0, .int .i64 0, .int .i64 0, .int .i64 0, .int .i64 0, .int .i64 0, .int .i64 0, .int .i64 0, .int .i64 0, .int .i64 0] from B1) (.int .i64 x0) (.int .i64 x1) (.int .i64 x2) (.int .i64 x3) (.int .i64 x4) (.int .i64 x5) (.int .i64 x6) (.int .i64 x7) (.int .i64 x8) (.int .i64 x9) (.int .i64 x10) (.int .i64 x11) (.int .i64 x12) (.int .i64 x13) (.int .i64 x14) (.int .i64 x15)
      obtain ⟨we, hwe⟩ : ∃ wx, wx = ((((((((((((((((wr.setCell ⟨w.heap.size, 0, none⟩ (.int .i64 x0)).setCell ⟨w.heap.size, 1, none⟩ (.int .i64 x1)).setCell ⟨w.heap.size, 2, none⟩ (.int .i64 x2)).setCell ⟨w.heap.size, 3, none⟩ (.int .i64 x3)).setCell ⟨w.heap.size, 4, none⟩ (.int .i64 x4)).setCell ⟨w.heap.size, 5, none⟩ (.int .i64 x5)).setCell ⟨w.heap.size, 6, none⟩ (.int .i64 x6)).setCell ⟨w.heap.size, 7, none⟩ (.int .i64 x7)).setCell ⟨w.heap.size, 8, none⟩ (.int .i64 x8)).setCell ⟨w.heap.size, 9, none⟩ (.int .i64 x9)).setCell ⟨w.heap.size, 10, none⟩ (.int .i64 x10)).setCell ⟨w.heap.size, 11, none⟩ (.int .i64 x11)).setCell ⟨w.heap.size, 12, none⟩ (.int .i64 x12)).setCell ⟨w.heap.size, 13, none⟩ (.int .i64 x13)).setCell ⟨w.heap.size, 14, none⟩ (.int .i64 x14)).setCell ⟨w.heap.size, 15, none⟩ (.int .i64 x15)) := ⟨_, rfl⟩
      rw [← hwe] at BF kF
      have HKE := @hideH _ (HKK.out.trans kF (fun y hy => .inr (by simp at hy; omega)))
      go_wp2
      rw [← hwe]
      clear hwe a0 b0 f0 a1 b1 f1 a2 b2 f2 a3 b3 f3 a4 b4 f4 a5 b5 f5 a6 b6 f6 a7 b7 f7 a8 b8 f8 a9 b9 f9 a10 b10 f10 a11 b11 f11 a12 b12 f12 a13 b13 f13 a14 b14 f14 a15 b15 f15 B1 B2 kF
      have r0 := BF.cell (j := 0) rfl
      have r1 := BF.cell (j := 1) rfl
      have r2 := BF.cell (j := 2) rfl
      have r3 := BF.cell (j := 3) rfl
      have r4 := BF.cell (j := 4) rfl
      have r5 := BF.cell (j := 5) rfl
      have r6 := BF.cell (j := 6) rfl
      have r7 := BF.cell (j := 7) rfl
      have r8 := BF.cell (j := 8) rfl
      have r9 := BF.cell (j := 9) rfl
      have r10 := BF.cell (j := 10) rfl
      have r11 := BF.cell (j := 11) rfl
      have r12 := BF.cell (j := 12) rfl
      have r13 := BF.cell (j := 13) rfl
      have r14 := BF.cell (j := 14) rfl
      have r15 := BF.cell (j := 15) rfl
      refine bodyPost_ret (by simp [results, Try.results12, go_sem, r0, r1, r2, r3, r4, r5, r6, r7, r8, r9, r10, r11, r12, r13, r14, r15]; try rfl) rfl ?_
      exact ⟨by rw [HE.out]; rfl, HKE.out⟩
end Go.Proofs.Ytijmmacpmcbmkaa

/-
  OWN WORK. Locks (layer 15): the law's 'played'.
-/
namespace Go.Proofs.Ytijmmacpmcbmkaa
open Go.RowKit
set_option linter.unusedVariables false
set_option linter.unusedSimpArgs false

theorem playL_take {hs : List Int} {s : StepL} (h : s.kind = 0) : playL hs s = takeH hs s.page s.birth := by unfold playL; rw [if_pos h]
theorem playL_give {hs : List Int} {s : StepL} (h : s.kind = 1) : playL hs s = giveH hs s.page := by unfold playL; rw [if_neg (by omega), if_pos h]
theorem playL_drop {hs : List Int} {s : StepL} (h : s.kind = 2) : playL hs s = dropH hs s.birth := by unfold playL; rw [if_neg (by omega), if_neg (by omega), if_pos h]
theorem playL_none {hs : List Int} {s : StepL} (h0 : s.kind ≠ 0) (h1 : s.kind ≠ 1) (h2 : s.kind ≠ 2) : playL hs s = hs := by unfold playL; rw [if_neg h0, if_neg h1, if_neg h2]
set_option maxRecDepth 20000 in
set_option maxHeartbeats 3200000 in
theorem played_any {Lk : World → Nat → List Nat → List Int → Prop} (O : LkOps Lk) (v : Value) (ss : List StepL) (w : World) (hS : Scr w v ss) : Calls Try.prog 7 #[v] w fun e w' => ∃ g F, e = .returned (.pointer (some ⟨g, 0, none⟩)) ∧ Lk w' g F (playedL ss ss.length) ∧ (∀ x ∈ F, w.heap.size ≤ x) ∧ Kept [] w w' := by
  obtain ⟨ps, cs, hv, hml⟩ := hS.shape
  subst hv
  obtain ⟨n, hn⟩ : ∃ n, n = ss.length := ⟨_, rfl⟩
  have HS := @hideH _ hS
  have HN := @hideH _ (And.intro hn hml)
  rw [← hn]
  clear hS hml hn
  go_enter Try.func7, Try.ntmps7
  go_wp2_with fail
  refine (O.new w).mono ?_
  rintro e w1 ⟨g, F, rfl, l1, hF, k1⟩
  have HF := @hideH _ hF
  have HL := @hideH _ (And.intro l1 k1)
  clear hF l1 k1
  go_wp2
  go_loopw [4] (fun i wr => ∃ k : Nat, k ≤ n ∧ i = .int .i64 k ∧ Hid (Lk wr g F (playedL ss k) ∧ Kept [] w wr)) (fun i _ => n - (intOf i).toNat)
  case atStart => exact ⟨0, Nat.zero_le _, rfl, HL.out.1, HL.out.2⟩
  case round =>
    clear HL
    obtain ⟨k, hk, rfl, hh⟩ := hrel
    by_cases hkl : k < n
    · have hkl' : (k : Int) < (n : Int) := by omega
      have h0 : (0 : Int) ≤ (k : Int) := by omega
      have wk : IntKind.i64.wrap ((k : Int) + 1) = (k : Int) + 1 := wrap_i64_of (by omega) (by have e1 := HN.out.1; have e2 := HN.out.2; unfold maxLen at e2; omega)
      obtain ⟨s, hs⟩ : ∃ s, ss[k]? = some s := ⟨_, List.getElem?_eq_getElem (by have := HN.out.1; omega)⟩
      obtain ⟨sb, so, sc, es, c0, c1, c2, c3, nn⟩ := HS.out.at hs
      cases es
      have HE := @hideH _ (playedL_next hs)
      have hsb : sb ∉ F := fun hm => by have e1 := HF.out sb hm; have e2 : sb < w.heap.size := lt_of_cell c0; omega
      have d1 := hh.out.2.cell c1 (by simp)
      have d2 := hh.out.2.cell c2 (by simp)
      have d3 := hh.out.2.cell c3 (by simp)
      have HNN := @hideH _ nn
      clear c0 c1 c2 c3 nn hs
      by_cases q0 : s.kind = 0
      · have HP := @hideH _ (playL_take (hs := playedL ss k) q0)
        have hT := fun wz (kz : Kept [] wr wz) => O.take s.page s.birth wz (O.kept hh.out.1 kz (by simp)) HNN.out.2.1 HNN.out.2.2
        rw [q0] at d1
        clear q0
        go_upto_region 9 with fail
        have kx : Kept [] wr wr.drew := (Kept.refl [] wr).drew
        go_region_held3 (fun w' => w'.cell? ⟨sb, so + k * 4 + 2, none⟩ = some (.int .i64 s.page) ∧ w'.cell? ⟨sb, so + k * 4 + 3, none⟩ = some (.int .i64 s.birth))
          (first
            | (exact ⟨kx.cell d2 hsb, kx.cell d3 hsb⟩)
            | (exact ⟨kx.cell d2 List.not_mem_nil, kx.cell d3 List.not_mem_nil⟩)
            | fail)
          (first
            | (go_at_call 13; refine (hT _ kx).mono ?_; clear hT; rintro r w6 ⟨rfl, l6, k6⟩; replace kx := (kx.mono (T := F) (by simp)).trans k6 (fun x hx => .inl hx))
            | fail)
        have HX := @hideH _ (And.intro l6 (hh.out.2.trans kx (fun x hx => .inr (HF.out x hx))))
        clear l6 k6 kx hh d1 d2 d3
        go_wp2
        go_roundw
        case rel => exact ⟨k + 1, by omega, by go_num, by rw [HE.out, HP.out]; exact HX.out.1, HX.out.2⟩
        case measure => simp [intOf]; omega
      · have q0' : (s.kind == 0) = false := by simpa using q0
        by_cases q1 : s.kind = 1
        · have HP := @hideH _ (playL_give (hs := playedL ss k) q1)
          have hT := O.give s.page wr hh.out.1 HNN.out.2.1
          rw [q1] at d1 q0'
          clear q0 q1
          go_wp2_with fail
          refine hT.mono ?_
          clear hT
          rintro r w6 ⟨rfl, l6, k6⟩
          have HX := @hideH _ (And.intro l6 (hh.out.2.trans k6 (fun x hx => .inr (HF.out x hx))))
          clear l6 k6 hh d1 d2 d3
          go_wp2
          go_roundw
          case rel => exact ⟨k + 1, by omega, by go_num, by rw [HE.out, HP.out]; exact HX.out.1, HX.out.2⟩
          case measure => simp [intOf]; omega
        · have q1' : (s.kind == 1) = false := by simpa using q1
          by_cases q2 : s.kind = 2
          · have HP := @hideH _ (playL_drop (hs := playedL ss k) q2)
            have hT := O.drop s.birth wr hh.out.1 HNN.out.2.2
            rw [q2] at d1 q0' q1'
            clear q0 q1 q2
            go_wp2_with fail
            refine hT.mono ?_
            clear hT
            rintro r w6 ⟨vd, rfl, nd, l6, k6⟩
            have HX := @hideH _ (And.intro l6 (hh.out.2.trans k6 (fun x hx => .inr (HF.out x hx))))
            clear l6 k6 nd hh d1 d2 d3
            go_wp2
            go_roundw
            case rel => exact ⟨k + 1, by omega, by go_num, by rw [HE.out, HP.out]; exact HX.out.1, HX.out.2⟩
            case measure => simp [intOf]; omega
          · have q2' : (s.kind == 2) = false := by simpa using q2
            have HP := @hideH _ (playL_none (hs := playedL ss k) q0 q1 q2)
            clear q0 q1 q2
            go_wp2
            go_roundw
            case rel => exact ⟨k + 1, by omega, by go_num, by rw [HE.out, HP.out]; exact hh.out.1, hh.out.2⟩
            case measure => simp [intOf]; omega
    · have ek : k = n := by omega
      subst ek
      go_wp2
      go_ret
      exact ⟨g, F, rfl, hh.out.1, HF.out, hh.out.2⟩
end Go.Proofs.Ytijmmacpmcbmkaa

/-
  OWN WORK. Locks (layer 15): plain facts for LockOne.
-/
namespace Go.Proofs.Ytijmmacpmcbmkaa
set_option linter.unusedVariables false
theorem heldN_front (hs : List Int) (b : Int) (q : Nat) : ∀ m, q ≤ m → ∃ t, heldN hs b m = heldN hs b q ++ t
  | 0, h => ⟨[], by rw [show q = 0 by omega]; simp⟩
  | m + 1, h => by
    by_cases e : q = m + 1
    · exact ⟨[], by rw [e]; simp⟩
    · obtain ⟨t, ht⟩ := heldN_front hs b q m (by omega)
      rw [show heldN hs b (m + 1) = if b ≠ 0 ∧ hs.getD m 0 = b then heldN hs b m ++ [(m : Int)] else heldN hs b m from rfl]
      split
      · exact ⟨t ++ [(m : Int)], by rw [ht, List.append_assoc]⟩
      · exact ⟨t, ht⟩
/-- a page of b stands in the list where those ahead of it end -/
theorem heldL_there (hs : List Int) {b : Int} (hb : b ≠ 0) {q : Nat} (hq : q < 16) (h : hs.getD q 0 = b) : (heldN hs b q).length < (heldL hs b).length ∧ (heldL hs b).getD (heldN hs b q).length 0 = (q : Int) := by
  obtain ⟨t, ht⟩ := heldN_front hs b (q + 1) 16 (by omega)
  have e : heldN hs b (q + 1) = heldN hs b q ++ [(q : Int)] := by rw [heldN, if_pos ⟨hb, h⟩]
  unfold heldL
  rw [ht, e]
  refine ⟨by simp, ?_⟩
  rw [List.append_assoc, List.getD_eq_getElem?_getD, List.getElem?_append_right (Nat.le_refl _)]
  simp
theorem heldL_zero (hs : List Int) : heldL hs 0 = [] := by
  unfold heldL
  simp [heldN]
theorem take_want {hs : List Int} (h : hs.length = 16) {k : Nat} {b : Int} (hk : k < 16) (hb : isBirth b) : takeH hs (k : Int) b = (if hs.getD k 0 = 0 then hs.set k b else hs) ∧ (takeE hs (k : Int) b = 0 ∧ (takeH hs (k : Int) b).getD k 0 = b ∨ takeE hs (k : Int) b = 150 ∧ (takeH hs (k : Int) b).getD k 0 ≠ b) := by
  have hg : ∀ l : List Int, l.length = 16 → ∀ x, (l.set k x).getD k 0 = x := fun l hl x => by simp [List.getD_eq_getElem?_getD, hl, hk]
  by_cases h0 : hs.getD k 0 = 0
  · obtain ⟨e1, e2⟩ := take_ok hs hk hb (.inl h0)
    rw [if_pos h0]
    exact ⟨e2, .inl ⟨e1, by rw [e2]; exact hg hs h b⟩⟩
  · rw [if_neg h0]
    by_cases h1 : hs.getD k 0 = b
    · obtain ⟨e1, e2⟩ := take_ok hs hk hb (.inr h1)
      have e3 : hs.set k b = hs := by
        rw [← h1]
        apply List.ext_getElem (by simp)
        intro i h2 h3
        rw [List.getElem_set]
        split
        · rename_i e; subst e; rw [List.getD_eq_getElem?_getD, List.getElem?_eq_getElem h3]; rfl
        · rfl
      rw [e3] at e2
      exact ⟨e2, .inl ⟨e1, by rw [e2]; exact h1⟩⟩
    · obtain ⟨e1, e2⟩ := take_busy hs hk hb h0 h1
      exact ⟨e2, .inr ⟨e1, by rw [e2]; exact h1⟩⟩
theorem okH_i64 {hs : List Int} (h : OkH hs) (k : Nat) : I64 (hs.getD k 0) := by
  by_cases c : k < hs.length
  · have hm : hs.getD k 0 ∈ hs := by rw [List.getD_eq_getElem?_getD, List.getElem?_eq_getElem c]; exact List.getElem_mem c
    rcases h.all _ hm with q | q
    · rw [q]; exact ⟨by omega, by omega⟩
    · have q1 := q.1
      have q2 := q.2
      exact ⟨by omega, by omega⟩
  · rw [List.getD_eq_getElem?_getD, List.getElem?_eq_none (by omega)]
    exact ⟨by decide, by decide⟩
theorem heldN_len_next {hs : List Int} {b : Int} (hb : b ≠ 0) {q : Nat} (h : hs.getD q 0 = b) : (heldN hs b (q + 1)).length = (heldN hs b q).length + 1 := by rw [heldN, if_pos ⟨hb, h⟩, List.length_append]; rfl
theorem heldN_len_stay {hs : List Int} {b : Int} {q : Nat} (h : hs.getD q 0 ≠ b) : (heldN hs b (q + 1)).length = (heldN hs b q).length := by rw [heldN, if_neg (fun c => h c.2)]
end Go.Proofs.Ytijmmacpmcbmkaa

/-
  OWN WORK. Two arrays of the same numbers are alike.
-/
namespace Go.Proofs.Ytijmmacpmcbmkaa
open Go.RowKit
set_option linter.unusedVariables false
theorem eqItems_same {P : Program} {e : TypeId} (d : Nat) (he : P.plainKey e = true) (hu : P.underlying e = some (.int .i64)) (l : List Int) (w : World) : ∀ is : List Nat, (∀ i ∈ is, i < l.length) → (Op.eqItems (d + 1) e 1 (i64s l).toArray (i64s l).toArray is).run P w = .ok true w
  | [], _ => by simp [Op.eqItems]
  | i :: is, h => by
    have hi := h i (by simp)
    have hx : (i64s l).toArray[i * 1]? = some (.int .i64 (l.getD i 0)) := by rw [Nat.mul_one, List.getElem?_toArray]; exact i64s_at hi
    have q := run_part_plain (P := P) w he hx
    have ih := eqItems_same d he hu l w is (fun j hj => h j (by simp [hj]))
    simp only [Op.eqItems, Sem.run_bind, q, Result.andThen_ok, run_equalIn_int w d e .i64 .i64 _ _ hu, beq_self_eq_true, Bool.not_true, Bool.false_eq_true, if_false]
    exact ih
theorem eq_same16 (l : List Int) (hl : l.length = 16) (w : World) : (Op.equalIn 10000 31 (.agg (i64s l).toArray) (.agg (i64s l).toArray)).run Try.prog w = .ok true w := by
  obtain ⟨i, hi, -⟩ := info_parts3 (show (Try.prog.info? 3).map (fun i => (i.zero, i.size, i.bytes)) = some (some (.int .i64 0), 1, 8) by kernel_rfl)
  rw [show (10000 : Nat) = 9999 + 1 from rfl, run_equalIn_array (P := Try.prog) w 9999 _ _ Try.underlying31 hi, show Try.prog.cellsOf 3 = 1 by kernel_rfl]
  exact eqItems_same 9998 (by kernel_rfl) Try.underlying3 l w _ (fun i h => by rw [hl]; simpa using h)
end Go.Proofs.Ytijmmacpmcbmkaa

/-
  OWN WORK (by mklk1.py). The law: LockOne.
-/
namespace Go.Proofs.Ytijmmacpmcbmkaa
open Go.RowKit
set_option linter.unusedVariables false
set_option linter.unusedSimpArgs false

set_option maxRecDepth 20000 in
set_option maxHeartbeats 6400000 in
theorem lockOne_W {Lk : World → Nat → List Nat → List Int → Prop} (O : LkOps Lk) (v : Value) (ss : List StepL) (p b : Int) (w : World) (hS : Scr w v ss) (hp : I64 p) (hb : I64 b) (hr : ¬ (isP p ∧ isBirth b)) : Calls Try.prog 4 #[v, .int .i64 p, .int .i64 b] w fun e w' => e = .returned (.bool true) ∧ Kept [] w w' := by
  have hPl := played_any O v ss w hS
  have HPB := @hideH _ (And.intro hp hb)
  obtain ⟨ps, cs, hv, -⟩ := hS.shape
  subst hv
  have HR := @hideH _ hr
  clear hS hp hb hr
  go_enter Try.func4, Try.ntmps4
  go_wp2_with fail
  refine hPl.mono ?_
  clear hPl
  rintro e w1 ⟨g, F, rfl, l1, hF, k1⟩
  have HF := @hideH _ hF
  clear hF
  obtain ⟨hs, hhs⟩ : ∃ hs, hs = playedL ss ss.length := ⟨_, rfl⟩
  rw [← hhs] at l1
  clear hhs
  have HOK := @hideH _ (O.ok l1)
  obtain ⟨x0, x1, x2, x3, x4, x5, x6, x7, x8, x9, x10, x11, x12, x13, x14, x15, e16⟩ := len16 HOK.out.len
  have HX := @hideH _ e16
  clear e16
  go_wp2_with fail
  refine (known_any O w1).mono ?_
  rintro e w2 ⟨rfl, k2⟩
  have HFL := @hideH _ (O.lt l1)
  have l2 := O.kept l1 k2 (by simp)
  have hk12 := k2.size
  have K2 := k1.then k2
  have hk01 := k1.size
  clear l1 k1 k2
  go_wp2_with fail
  refine (holders_any O g F hs w2 l2).mono ?_
  rintro e w3 ⟨rfl, k3⟩
  have HW13 := @hideH _ (show w1.heap.size ≤ w3.heap.size ∧ w.heap.size ≤ w1.heap.size from ⟨Nat.le_trans hk12 k3.size, hk01⟩)
  clear hk12 hk01
  rw [show (i64s hs).toArray = #[.int .i64 x0, .int .i64 x1, .int .i64 x2, .int .i64 x3, .int .i64 x4, .int .i64 x5, .int .i64 x6, .int .i64 x7, .int .i64 x8, .int .i64 x9, .int .i64 x10, .int .i64 x11, .int .i64 x12, .int .i64 x13, .int .i64 x14, .int .i64 x15] from by rw [HX.out]; rfl]
  obtain ⟨w4, hw4⟩ : ∃ wx, wx = w3.alloc (.cells #[.int .i64 x0, .int .i64 x1, .int .i64 x2, .int .i64 x3, .int .i64 x4, .int .i64 x5, .int .i64 x6, .int .i64 x7, .int .i64 x8, .int .i64 x9, .int .i64 x10, .int .i64 x11, .int .i64 x12, .int .i64 x13, .int .i64 x14, .int .i64 x15] 31) := ⟨_, rfl⟩
  have kw4 : Kept [] w3 w4 := by rw [hw4]; exact (Kept.refl [] w3).alloc _
  have Ba : Blk w4 w3.heap.size 31 (i64s hs) := by rw [HX.out, hw4]; exact Blk.new w3 _ _
  go_upto_region 5 with fail
  rw [← hw4]
  clear hw4
  have l4 := O.kept l2 (k3.then kw4) (by simp)
  have K4 := K2.then (k3.then kw4)
  clear l2 k3 kw4 K2
  go_wp2_with fail
  refine (O.take p b w4 l4 HPB.out.1 HPB.out.2).mono ?_
  rintro e w5 ⟨rfl, l5, k5⟩
  have hne : w3.heap.size ∉ F := fun hm => by have e1 := HFL.out _ hm; have e2 := HW13.out; omega
  have Ba5 := Ba.kept k5 hne
  have K5 := K4.trans k5 (fun x hx => .inr (HF.out x hx))
  obtain ⟨ht, hht⟩ : ∃ ht, ht = takeH hs p b := ⟨_, rfl⟩
  rw [← hht] at l5
  have HT := @hideH _ hht
  obtain ⟨E, hE⟩ : ∃ E, E = takeE hs p b := ⟨_, rfl⟩
  rw [← hE]
  have HEE := @hideH _ hE
  clear hht hE k5 K4 l4 Ba hne
  obtain ⟨y0, y1, y2, y3, y4, y5, y6, y7, y8, y9, y10, y11, y12, y13, y14, y15, e16⟩ := len16 (O.ok l5).len
  have HY := @hideH _ e16
  clear e16
  go_wp2_with fail
  refine (holders_any O g F ht w5 l5).mono ?_
  rintro e w6 ⟨rfl, k6⟩
  rw [show (i64s ht).toArray = #[.int .i64 y0, .int .i64 y1, .int .i64 y2, .int .i64 y3, .int .i64 y4, .int .i64 y5, .int .i64 y6, .int .i64 y7, .int .i64 y8, .int .i64 y9, .int .i64 y10, .int .i64 y11, .int .i64 y12, .int .i64 y13, .int .i64 y14, .int .i64 y15] from by rw [HY.out]; rfl]
  obtain ⟨w7, hw7⟩ : ∃ wx, wx = w6.alloc (.cells #[.int .i64 y0, .int .i64 y1, .int .i64 y2, .int .i64 y3, .int .i64 y4, .int .i64 y5, .int .i64 y6, .int .i64 y7, .int .i64 y8, .int .i64 y9, .int .i64 y10, .int .i64 y11, .int .i64 y12, .int .i64 y13, .int .i64 y14, .int .i64 y15] 31) := ⟨_, rfl⟩
  have kw7 : Kept [] w6 w7 := by rw [hw7]; exact (Kept.refl [] w6).alloc _
  have Bn : Blk w7 w6.heap.size 31 (i64s ht) := by rw [HY.out, hw7]; exact Blk.new w6 _ _
  go_upto_region 7 with fail
  rw [← hw7]
  clear hw7
  have l7 := O.kept l5 (k6.then kw7) (by simp)
  have K7 := K5.then (k6.then kw7)
  have Ba7 := Ba5.kept (k6.then kw7) (by simp)
  have HLT := @hideH _ (show w.heap.size ≤ w3.heap.size ∧ w3.heap.size < w6.heap.size ∧ w6.heap.size < w7.heap.size from ⟨by have := HW13.out; omega, Nat.lt_of_lt_of_le Ba5.lt k6.size, Bn.lt⟩)
  clear l5 k6 kw7 K5 Ba5
  have hr := HR.out
  clear HR
  have eq : ht = hs := by
    rw [HT.out]
    by_cases c : isP p
    · exact (take_range hs c (fun q => hr ⟨c, q⟩)).2
    · exact (take_place hs b c).2
  rw [← eq, HY.out] at Ba7
  rw [HY.out] at Bn
  have a0 := Ba7.cell (j := 0) rfl
  have a1 := Ba7.cell (j := 1) rfl
  have a2 := Ba7.cell (j := 2) rfl
  have a3 := Ba7.cell (j := 3) rfl
  have a4 := Ba7.cell (j := 4) rfl
  have a5 := Ba7.cell (j := 5) rfl
  have a6 := Ba7.cell (j := 6) rfl
  have a7 := Ba7.cell (j := 7) rfl
  have a8 := Ba7.cell (j := 8) rfl
  have a9 := Ba7.cell (j := 9) rfl
  have a10 := Ba7.cell (j := 10) rfl
  have a11 := Ba7.cell (j := 11) rfl
  have a12 := Ba7.cell (j := 12) rfl
  have a13 := Ba7.cell (j := 13) rfl
  have a14 := Ba7.cell (j := 14) rfl
  have a15 := Ba7.cell (j := 15) rfl
  have n0 := Bn.cell (j := 0) rfl
  have n1 := Bn.cell (j := 1) rfl
  have n2 := Bn.cell (j := 2) rfl
  have n3 := Bn.cell (j := 3) rfl
  have n4 := Bn.cell (j := 4) rfl
  have n5 := Bn.cell (j := 5) rfl
  have n6 := Bn.cell (j := 6) rfl
  have n7 := Bn.cell (j := 7) rfl
  have n8 := Bn.cell (j := 8) rfl
  have n9 := Bn.cell (j := 9) rfl
  have n10 := Bn.cell (j := 10) rfl
  have n11 := Bn.cell (j := 11) rfl
  have n12 := Bn.cell (j := 12) rfl
  have n13 := Bn.cell (j := 13) rfl
  have n14 := Bn.cell (j := 14) rfl
  have n15 := Bn.cell (j := 15) rfl
  have KE := @hideH _ K7
  clear Ba7 Bn eq l7 K7
  have heq : ∀ wz, (Op.equalIn 10000 31 (.agg #[.int .i64 y0, .int .i64 y1, .int .i64 y2, .int .i64 y3, .int .i64 y4, .int .i64 y5, .int .i64 y6, .int .i64 y7, .int .i64 y8, .int .i64 y9, .int .i64 y10, .int .i64 y11, .int .i64 y12, .int .i64 y13, .int .i64 y14, .int .i64 y15]) (.agg #[.int .i64 y0, .int .i64 y1, .int .i64 y2, .int .i64 y3, .int .i64 y4, .int .i64 y5, .int .i64 y6, .int .i64 y7, .int .i64 y8, .int .i64 y9, .int .i64 y10, .int .i64 y11, .int .i64 y12, .int .i64 y13, .int .i64 y14, .int .i64 y15])).run Try.prog wz = .ok true wz := fun wz => eq_same16 [y0, y1, y2, y3, y4, y5, y6, y7, y8, y9, y10, y11, y12, y13, y14, y15] rfl wz
  by_cases c1 : (0 : Int) ≤ p
  · by_cases c2 : p < (16 : Int)
    · by_cases c3 : (1 : Int) ≤ b
      · have eE : E = 30 := by rw [HEE.out]; exact (take_range hs ⟨c1, c2⟩ (fun q => hr ⟨⟨c1, c2⟩, q⟩)).1
        rw [eE]
        have c4 : ¬ b ≤ (1152921504606846976 : Int) := fun q => hr ⟨⟨c1, c2⟩, c3, q⟩
        have d1 : ¬ p < (0 : Int) := by omega
        have d2 : ¬ (16 : Int) ≤ p := by omega
        clear eE hr HEE HT HX HY
        go_wp2
        go_ret
        exact ⟨by first | rfl | simp, KE.out⟩
      · have eE : E = 30 := by rw [HEE.out]; exact (take_range hs ⟨c1, c2⟩ (fun q => hr ⟨⟨c1, c2⟩, q⟩)).1
        rw [eE]
        have d1 : ¬ p < (0 : Int) := by omega
        have d2 : ¬ (16 : Int) ≤ p := by omega
        clear eE hr HEE HT HX HY
        go_wp2
        go_ret
        exact ⟨by first | rfl | simp, KE.out⟩
    · have eE : E = 61 := by rw [HEE.out]; exact (take_place hs b (fun q => c2 q.2)).1
      rw [eE]
      have d1 : ¬ p < (0 : Int) := by omega
      have d2 : (16 : Int) ≤ p := by omega
      clear eE hr HEE HT HX HY
      go_wp2
      go_ret
      exact ⟨by first | rfl | simp, KE.out⟩
  · have eE : E = 61 := by rw [HEE.out]; exact (take_place hs b (fun q => c1 q.1)).1
    rw [eE]
    have d1 : p < (0 : Int) := by omega
    clear eE hr HEE HT HX HY
    go_wp2
    go_ret
    exact ⟨by first | rfl | simp, KE.out⟩
end Go.Proofs.Ytijmmacpmcbmkaa

/-
  OWN WORK (by mklk1.py). The law: LockOne.
-/
namespace Go.Proofs.Ytijmmacpmcbmkaa
open Go.RowKit
set_option linter.unusedVariables false
set_option linter.unusedSimpArgs false

set_option maxRecDepth 20000 in
set_option maxHeartbeats 6400000 in
theorem lockOne_R {Lk : World → Nat → List Nat → List Int → Prop} (O : LkOps Lk) (v : Value) (ss : List StepL) (p b : Int) (w : World) (hS : Scr w v ss) (hp : I64 p) (hb : I64 b) (hr : (isP p ∧ isBirth b)) : Calls Try.prog 4 #[v, .int .i64 p, .int .i64 b] w fun e w' => e = .returned (.bool true) ∧ Kept [] w w' := by
  have hPl := played_any O v ss w hS
  have HPB := @hideH _ (And.intro hp hb)
  obtain ⟨ps, cs, hv, -⟩ := hS.shape
  subst hv
  have HR := @hideH _ hr
  clear hS hp hb hr
  go_enter Try.func4, Try.ntmps4
  go_wp2_with fail
  refine hPl.mono ?_
  clear hPl
  rintro e w1 ⟨g, F, rfl, l1, hF, k1⟩
  have HF := @hideH _ hF
  clear hF
  obtain ⟨hs, hhs⟩ : ∃ hs, hs = playedL ss ss.length := ⟨_, rfl⟩
  rw [← hhs] at l1
  clear hhs
  have HOK := @hideH _ (O.ok l1)
  obtain ⟨x0, x1, x2, x3, x4, x5, x6, x7, x8, x9, x10, x11, x12, x13, x14, x15, e16⟩ := len16 HOK.out.len
  have HX := @hideH _ e16
  clear e16
  go_wp2_with fail
  refine (known_any O w1).mono ?_
  rintro e w2 ⟨rfl, k2⟩
  have HFL := @hideH _ (O.lt l1)
  have l2 := O.kept l1 k2 (by simp)
  have hk12 := k2.size
  have K2 := k1.then k2
  have hk01 := k1.size
  clear l1 k1 k2
  go_wp2_with fail
  refine (holders_any O g F hs w2 l2).mono ?_
  rintro e w3 ⟨rfl, k3⟩
  have HW13 := @hideH _ (show w1.heap.size ≤ w3.heap.size ∧ w.heap.size ≤ w1.heap.size from ⟨Nat.le_trans hk12 k3.size, hk01⟩)
  clear hk12 hk01
  rw [show (i64s hs).toArray = #[.int .i64 x0, .int .i64 x1, .int .i64 x2, .int .i64 x3, .int .i64 x4, .int .i64 x5, .int .i64 x6, .int .i64 x7, .int .i64 x8, .int .i64 x9, .int .i64 x10, .int .i64 x11, .int .i64 x12, .int .i64 x13, .int .i64 x14, .int .i64 x15] from by rw [HX.out]; rfl]
  obtain ⟨w4, hw4⟩ : ∃ wx, wx = w3.alloc (.cells #[.int .i64 x0, .int .i64 x1, .int .i64 x2, .int .i64 x3, .int .i64 x4, .int .i64 x5, .int .i64 x6, .int .i64 x7, .int .i64 x8, .int .i64 x9, .int .i64 x10, .int .i64 x11, .int .i64 x12, .int .i64 x13, .int .i64 x14, .int .i64 x15] 31) := ⟨_, rfl⟩
  have kw4 : Kept [] w3 w4 := by rw [hw4]; exact (Kept.refl [] w3).alloc _
  have Ba : Blk w4 w3.heap.size 31 (i64s hs) := by rw [HX.out, hw4]; exact Blk.new w3 _ _
  go_upto_region 5 with fail
  rw [← hw4]
  clear hw4
  have l4 := O.kept l2 (k3.then kw4) (by simp)
  have K4 := K2.then (k3.then kw4)
  clear l2 k3 kw4 K2
  go_wp2_with fail
  refine (O.take p b w4 l4 HPB.out.1 HPB.out.2).mono ?_
  rintro e w5 ⟨rfl, l5, k5⟩
  have hne : w3.heap.size ∉ F := fun hm => by have e1 := HFL.out _ hm; have e2 := HW13.out; omega
  have Ba5 := Ba.kept k5 hne
  have K5 := K4.trans k5 (fun x hx => .inr (HF.out x hx))
  obtain ⟨ht, hht⟩ : ∃ ht, ht = takeH hs p b := ⟨_, rfl⟩
  rw [← hht] at l5
  have HT := @hideH _ hht
  obtain ⟨E, hE⟩ : ∃ E, E = takeE hs p b := ⟨_, rfl⟩
  rw [← hE]
  have HEE := @hideH _ hE
  clear hht hE k5 K4 l4 Ba hne
  obtain ⟨y0, y1, y2, y3, y4, y5, y6, y7, y8, y9, y10, y11, y12, y13, y14, y15, e16⟩ := len16 (O.ok l5).len
  have HY := @hideH _ e16
  clear e16
  go_wp2_with fail
  refine (holders_any O g F ht w5 l5).mono ?_
  rintro e w6 ⟨rfl, k6⟩
  rw [show (i64s ht).toArray = #[.int .i64 y0, .int .i64 y1, .int .i64 y2, .int .i64 y3, .int .i64 y4, .int .i64 y5, .int .i64 y6, .int .i64 y7, .int .i64 y8, .int .i64 y9, .int .i64 y10, .int .i64 y11, .int .i64 y12, .int .i64 y13, .int .i64 y14, .int .i64 y15] from by rw [HY.out]; rfl]
  obtain ⟨w7, hw7⟩ : ∃ wx, wx = w6.alloc (.cells #[.int .i64 y0, .int .i64 y1, .int .i64 y2, .int .i64 y3, .int .i64 y4, .int .i64 y5, .int .i64 y6, .int .i64 y7, .int .i64 y8, .int .i64 y9, .int .i64 y10, .int .i64 y11, .int .i64 y12, .int .i64 y13, .int .i64 y14, .int .i64 y15] 31) := ⟨_, rfl⟩
  have kw7 : Kept [] w6 w7 := by rw [hw7]; exact (Kept.refl [] w6).alloc _
  have Bn : Blk w7 w6.heap.size 31 (i64s ht) := by rw [HY.out, hw7]; exact Blk.new w6 _ _
  go_upto_region 7 with fail
  rw [← hw7]
  clear hw7
  have l7 := O.kept l5 (k6.then kw7) (by simp)
  have K7 := K5.then (k6.then kw7)
  have Ba7 := Ba5.kept (k6.then kw7) (by simp)
  have HLT := @hideH _ (show w.heap.size ≤ w3.heap.size ∧ w3.heap.size < w6.heap.size ∧ w6.heap.size < w7.heap.size from ⟨by have := HW13.out; omega, Nat.lt_of_lt_of_le Ba5.lt k6.size, Bn.lt⟩)
  clear l5 k6 kw7 K5 Ba5
  have hr := HR.out
  clear HR
  obtain ⟨hP, hB⟩ := hr
  obtain ⟨k, hk, hpk⟩ := isP_nat hP
  subst hpk
  have W := take_want HOK.out.len hk hB
  rw [← HT.out, ← HEE.out] at W
  have HW := @hideH _ W
  have c1 : (0 : Int) ≤ (k : Int) := by omega
  have c2 : (k : Int) < (16 : Int) := by omega
  have c3 : (1 : Int) ≤ b := hB.1
  have c4 : b ≤ (1152921504606846976 : Int) := hB.2
  clear W hP hB HEE HT
  have Ba' := Ba7
  rw [HX.out] at Ba'
  have a0 := Ba'.cell (j := 0) rfl
  have a1 := Ba'.cell (j := 1) rfl
  have a2 := Ba'.cell (j := 2) rfl
  have a3 := Ba'.cell (j := 3) rfl
  have a4 := Ba'.cell (j := 4) rfl
  have a5 := Ba'.cell (j := 5) rfl
  have a6 := Ba'.cell (j := 6) rfl
  have a7 := Ba'.cell (j := 7) rfl
  have a8 := Ba'.cell (j := 8) rfl
  have a9 := Ba'.cell (j := 9) rfl
  have a10 := Ba'.cell (j := 10) rfl
  have a11 := Ba'.cell (j := 11) rfl
  have a12 := Ba'.cell (j := 12) rfl
  have a13 := Ba'.cell (j := 13) rfl
  have a14 := Ba'.cell (j := 14) rfl
  have a15 := Ba'.cell (j := 15) rfl
  clear Ba'
  obtain ⟨w8, hw8⟩ : ∃ wx, wx = w7.alloc (.cells #[.int .i64 x0, .int .i64 x1, .int .i64 x2, .int .i64 x3, .int .i64 x4, .int .i64 x5, .int .i64 x6, .int .i64 x7, .int .i64 x8, .int .i64 x9, .int .i64 x10, .int .i64 x11, .int .i64 x12, .int .i64 x13, .int .i64 x14, .int .i64 x15] 31) := ⟨_, rfl⟩
  have k8 : Kept [] w7 w8 := by rw [hw8]; exact (Kept.refl [] w7).alloc _
  have Bc : Blk w8 w7.heap.size 31 (i64s hs) := by rw [HX.out, hw8]; exact Blk.new w7 _ _
  go_upto_region 11 with fail
  rw [← hw8]
  clear hw8 a0 a1 a2 a3 a4 a5 a6 a7 a8 a9 a10 a11 a12 a13 a14 a15
  have Ba8 := Ba7.kept k8 (by simp)
  have Bn8 := Bn.kept k8 (by simp)
  have l8 := O.kept l7 k8 (by simp)
  have K8 := K7.then k8
  have HC7 := @hideH _ (show w7.heap.size < w8.heap.size from Bc.lt)
  clear Ba7 Bn l7 K7 k8
  obtain ⟨z, hz⟩ : ∃ z, z = hs.getD k 0 := ⟨_, rfl⟩
  have ck := Ba8.cell (i64s_at (l := hs) (j := k) (by rw [HOK.out.len]; exact hk))
  rw [← hz] at ck
  have HZ := @hideH _ hz
  clear hz
  go_upto_if 71 with fail
  go_cut [] (fun wx => Hid (Blk wx w7.heap.size 31 (i64s ht) ∧ Kept [w7.heap.size] w8 wx))
  case first =>
    by_cases h0 : z = 0
    · have h0' : (z == 0) = true := by simpa using h0
      have e1 : ht = hs.set k b := by rw [HW.out.1, ← HZ.out, if_pos h0]
      have cc := Bc.cell (i64s_at (l := hs) (j := k) (by rw [HOK.out.len]; exact hk))
      have fc := Bc.free k
      obtain ⟨BS, kS⟩ := Bc.set k (.int .i64 b)
      rw [i64s_set, ← e1] at BS
      have HBS := @hideH _ (And.intro BS kS)
      generalize hs.getD k 0 = old at cc
      clear BS kS e1 h0 Bc
      go_wp2
      go_meet
      case rel => exact HBS.out
    · have h0' : (z == 0) = false := by simpa using h0
      have e1 : ht = hs := by rw [HW.out.1, ← HZ.out, if_neg h0]
      rw [← e1] at Bc
      have HBS := @hideH _ (And.intro Bc (Kept.refl [w7.heap.size] w8))
      clear e1 h0 Bc
      go_wp2
      go_meet
      case rel => exact HBS.out
  case rest =>
    as_aux_lemma =>
      have hne : w6.heap.size ∉ [w7.heap.size] := by have := HLT.out; simp; omega
      have Bn9 := Bn8.kept hcut.out.2 hne
      have l9 := O.kept l8 hcut.out.2 (fun x hx hm => by simp at hm; have e1 := HFL.out x hx; have e2 := HW13.out; have e3 := HLT.out; omega)
      have K9 := K8.trans hcut.out.2 (fun x hx => .inr (by simp at hx; have := HLT.out; omega))
      have Dc := hcut.out.1
      clear hcut hne Bn8 l8 K8 Ba8 Bc ck
      have HBN := @hideH _ Bn9
      have nk := Bn9.cell (i64s_at (l := ht) (j := k) (by rw [(O.ok l9).len]; exact hk))
      have HL9 := @hideH _ (And.intro l9 K9)
      clear l9 K9
      rw [HY.out] at Bn9 Dc
      have n0 := Bn9.cell (j := 0) rfl
      have n1 := Bn9.cell (j := 1) rfl
      have n2 := Bn9.cell (j := 2) rfl
      have n3 := Bn9.cell (j := 3) rfl
      have n4 := Bn9.cell (j := 4) rfl
      have n5 := Bn9.cell (j := 5) rfl
      have n6 := Bn9.cell (j := 6) rfl
      have n7 := Bn9.cell (j := 7) rfl
      have n8 := Bn9.cell (j := 8) rfl
      have n9 := Bn9.cell (j := 9) rfl
      have n10 := Bn9.cell (j := 10) rfl
      have n11 := Bn9.cell (j := 11) rfl
      have n12 := Bn9.cell (j := 12) rfl
      have n13 := Bn9.cell (j := 13) rfl
      have n14 := Bn9.cell (j := 14) rfl
      have n15 := Bn9.cell (j := 15) rfl
      have d0 := Dc.cell (j := 0) rfl
      have d1 := Dc.cell (j := 1) rfl
      have d2 := Dc.cell (j := 2) rfl
      have d3 := Dc.cell (j := 3) rfl
      have d4 := Dc.cell (j := 4) rfl
      have d5 := Dc.cell (j := 5) rfl
      have d6 := Dc.cell (j := 6) rfl
      have d7 := Dc.cell (j := 7) rfl
      have d8 := Dc.cell (j := 8) rfl
      have d9 := Dc.cell (j := 9) rfl
      have d10 := Dc.cell (j := 10) rfl
      have d11 := Dc.cell (j := 11) rfl
      have d12 := Dc.cell (j := 12) rfl
      have d13 := Dc.cell (j := 13) rfl
      have d14 := Dc.cell (j := 14) rfl
      have d15 := Dc.cell (j := 15) rfl
      clear Bn9 Dc
      have heq : ∀ wz, (Op.equalIn 10000 31 (.agg #[.int .i64 y0, .int .i64 y1, .int .i64 y2, .int .i64 y3, .int .i64 y4, .int .i64 y5, .int .i64 y6, .int .i64 y7, .int .i64 y8, .int .i64 y9, .int .i64 y10, .int .i64 y11, .int .i64 y12, .int .i64 y13, .int .i64 y14, .int .i64 y15]) (.agg #[.int .i64 y0, .int .i64 y1, .int .i64 y2, .int .i64 y3, .int .i64 y4, .int .i64 y5, .int .i64 y6, .int .i64 y7, .int .i64 y8, .int .i64 y9, .int .i64 y10, .int .i64 y11, .int .i64 y12, .int .i64 y13, .int .i64 y14, .int .i64 y15])).run Try.prog wz = .ok true wz := fun wz => eq_same16 [y0, y1, y2, y3, y4, y5, y6, y7, y8, y9, y10, y11, y12, y13, y14, y15] rfl wz
      obtain ⟨m, hm⟩ : ∃ m, m = ht.getD k 0 := ⟨_, rfl⟩
      rw [← hm] at nk
      have HWM := @hideH _ (show E = 0 ∧ m = b ∨ E = 150 ∧ m ≠ b by rw [hm]; exact HW.out.2)
      clear hm HW HZ
      go_upto_region 13 with fail
      go_cut [95] (fun s wx => s = .bool false ∧ wx = wc)
      case first =>
        rcases HWM.out with ⟨e1, e2⟩ | ⟨e1, e2⟩
        · subst e1 e2
          clear HWM
          go_wp2
          go_meet
          case rel => exact ⟨rfl, rfl⟩
        · have e2' : (m == b) = false := by simpa using e2
          subst e1
          clear HWM e2
          go_wp2
          go_meet
          case rel => exact ⟨rfl, rfl⟩
      case rest =>
        as_aux_lemma =>
          obtain ⟨hs1, hs2⟩ := hcut
          subst hs1 hs2
          clear heq nk HWM n0 d0 n1 d1 n2 d2 n3 d3 n4 d4 n5 d5 n6 d6 n7 d7 n8 d8 n9 d9 n10 d10 n11 d11 n12 d12 n13 d13 n14 d14 n15 d15
          go_wp2
          go_loopw [13] (fun vi wr => ∃ q : Nat, q ≤ 16 ∧ vi = .int .i64 q ∧ Hid (Kept [] wc wr)) (fun vi _ => 16 - (intOf vi).toNat)
          case atStart => exact ⟨0, Nat.zero_le _, rfl, Kept.refl _ _⟩
          case round =>
            obtain ⟨q, hq, rfl, hh⟩ := hrel
            by_cases hql : q < 16
            · have hql' : (q : Int) < (16 : Int) := by omega
              have hq0 : (0 : Int) ≤ (q : Int) := by omega
              have wq : IntKind.i64.wrap ((q : Int) + 1) = (q : Int) + 1 := wrap_i64_of (by omega) (by omega)
              obtain ⟨bn, hbn⟩ : ∃ bn, bn = ht.getD q 0 := ⟨_, rfl⟩
              have cq := (HBN.out.kept hh.out (by simp)).cell (i64s_at (l := ht) (j := q) (by rw [(O.ok HL9.out.1).len]; exact hql))
              rw [← hbn] at cq
              have hH := O.held bn wr (O.kept HL9.out.1 hh.out (by simp)) (by rw [hbn]; exact okH_i64 (O.ok HL9.out.1) q)
              obtain ⟨lh, hlh⟩ : ∃ lh, lh = heldL ht bn := ⟨_, rfl⟩
              rw [← hlh] at hH
              clear hbn
              have HLH := @hideH _ (And.intro hlh (show lh.length ≤ 16 by rw [hlh]; exact heldN_length ht bn 16))
              clear hlh
              go_wp2_with fail
              refine hH.mono ?_
              clear hH
              rintro e w10 ⟨vh, rfl, nv, k10⟩
              obtain ⟨ph, ch, hvh⟩ := nv.shape
              subst hvh
              obtain ⟨n, hn⟩ : ∃ n, n = lh.length := ⟨_, rfl⟩
              rw [← hn]
              have HNV := @hideH _ (And.intro nv (And.intro hn HLH.out.2))
              have HK10 := @hideH _ (hh.out.then k10)
              replace cq := k10.cell cq (by simp)
              clear nv hn k10 hh
              by_cases hb0 : bn = 0
              · have hb0' : (bn == 0) = true := by simpa using hb0
                clear hb0
                go_wp2
                go_roundw
                case rel => exact ⟨q + 1, by omega, by go_num, HK10.out⟩
                case measure => simp [intOf]; omega
              · have hb0' : (bn == 0) = false := by simpa using hb0
                obtain ⟨wo, hwo⟩ : ∃ wo, wo = wr := ⟨_, rfl⟩
                clear hwo
                go_wp2
                go_loopw [15, 16] (fun vk vr wq => ∃ r : Nat, r ≤ 16 ∧ vr = .int .i64 r ∧ vk = .int .i64 ((heldN ht bn r).length : Nat) ∧ Hid (Kept [] w10 wq)) (fun _ vr _ => 16 - (intOf vr).toNat)
                case atStart => exact ⟨0, Nat.zero_le _, rfl, rfl, Kept.refl _ _⟩
                case round =>
                  obtain ⟨r, hr, rfl, rfl, hh⟩ := hrel
                  obtain ⟨mk, hmk⟩ : ∃ mk, mk = (heldN ht bn r).length := ⟨_, rfl⟩
                  rw [← hmk]
                  by_cases hrl : r < 16
                  · have hrl' : (r : Int) < (16 : Int) := by omega
                    have hr0 : (0 : Int) ≤ (r : Int) := by omega
                    have wr1 : IntKind.i64.wrap ((r : Int) + 1) = (r : Int) + 1 := wrap_i64_of (by omega) (by omega)
                    obtain ⟨br, hbr⟩ : ∃ br, br = ht.getD r 0 := ⟨_, rfl⟩
                    have cr := (HBN.out.kept (HK10.out.then hh.out) (by simp)).cell (i64s_at (l := ht) (j := r) (by rw [(O.ok HL9.out.1).len]; exact hrl))
                    rw [← hbr] at cr
                    have cq2 := hh.out.cell cq (by simp)
                    have HKK := @hideH _ hh.out
                    by_cases he : br = bn
                    · have he' : (br == bn) = true := by simpa using he
                      obtain ⟨t1, t2⟩ := heldL_there ht hb0 hrl (hbr.symm.trans he)
                      rw [← HLH.out.1, ← hmk] at t1 t2
                      have HNX := @hideH _ (show (heldN ht bn (r + 1)).length = mk + 1 by rw [hmk]; exact heldN_len_next hb0 (hbr.symm.trans he))
                      obtain ⟨gh, hph, -, cm, -⟩ := HNV.out.1.at t1
                      subst hph
                      rw [t2] at cm
                      replace cm := hh.out.cell cm (by simp)
                      have hmn : ¬ (n : Int) ≤ (mk : Int) := by have := HNV.out.2.1; omega
                      have hmn2 : (mk : Int) < (n : Int) := by omega
                      have hm0 : (0 : Int) ≤ (mk : Int) := by omega
                      have wm : IntKind.i64.wrap ((mk : Int) + 1) = (mk : Int) + 1 := wrap_i64_of (by omega) (by have := HNV.out.2; omega)
                      clear t1 t2 hmk hbr he hh
                      go_wp2
                      go_quiet (fail)
                      go_wp2
                      go_roundw
                      case rel => exact ⟨r + 1, by omega, by go_num, by rw [HNX.out]; go_num, HKK.out.drewN' _⟩
                      case measure => simp [intOf]; omega
                    · have he' : (br == bn) = false := by simpa using he
                      have HNX := @hideH _ (show (heldN ht bn (r + 1)).length = mk by rw [hmk]; exact heldN_len_stay (fun c => he (hbr.trans c)))
                      clear hmk hbr he hh
                      go_wp2
                      go_quiet (fail)
                      go_wp2
                      go_roundw
                      case rel => exact ⟨r + 1, by omega, by go_num, by rw [HNX.out], HKK.out.drewN' _⟩
                      case measure => simp [intOf]; omega
                  · have er : r = 16 := by omega
                    subst er
                    have emn : mk = n := by rw [hmk, HNV.out.2.1, HLH.out.1]; rfl
                    subst emn
                    have HKZ := @hideH _ (HK10.out.then hh.out)
                    clear hmk hh
                    go_wp2
                    go_roundw
                    case rel => exact ⟨q + 1, by omega, by go_num, HKZ.out⟩
                    case measure => simp [intOf]; omega
            · have eq : q = 16 := by omega
              subst eq
              have hH := O.held 0 wr (O.kept HL9.out.1 hh.out (by simp)) ⟨by omega, by omega⟩
              rw [heldL_zero] at hH
              go_wp2_with fail
              refine hH.mono ?_
              clear hH
              rintro e w11 ⟨vh, rfl, nv, k11⟩
              obtain ⟨ph, ch, hvh⟩ := nv.shape
              subst hvh
              have KE := @hideH _ ((HL9.out.2.then hh.out).then k11)
              clear nv k11 hh
              go_wp2
              go_ret
              exact ⟨by first | rfl | simp, KE.out⟩
end Go.Proofs.Ytijmmacpmcbmkaa

/-
  OWN WORK. The law: LockOne.
-/
namespace Go.Proofs.Ytijmmacpmcbmkaa
theorem lockOne_walk {Lk : World → Nat → List Nat → List Int → Prop} (O : LkOps Lk) (v : Value) (ss : List StepL) (p b : Int) (w : World) (hS : Scr w v ss) (hp : I64 p) (hb : I64 b) : Calls Try.prog 4 #[v, .int .i64 p, .int .i64 b] w fun e w' => e = .returned (.bool true) ∧ Kept [] w w' := by
  by_cases hr : isP p ∧ isBirth b
  · exact lockOne_R O v ss p b w hS hp hb hr
  · exact lockOne_W O v ss p b w hS hp hb hr
end Go.Proofs.Ytijmmacpmcbmkaa

