import Derived.WalkKit
import Derived.WalkSpells
import Derived.WalkLawsBesides
import Derived.Laws.CopyOwn
import Derived.Laws.AppendOwnNone
import Derived.Laws.BytesArg
import Derived.Deep.AppendLies
import Derived.Test.YtebcmcmboomgfaaRows
import Derived.ProofKit
import Derived.OpenShut
import Derived.JoinedCond
import Derived.SizedLaws
import Derived.Deep.Matrix
import Derived.Laws.Bits64
import Derived.Deep.Upon
import Derived.Deep.RegionHeld3
import Derived.Deep.QuietTactic
import Derived.BigQuiet
import Derived.Handy
import Derived.Deep.DeepCutAuto
/-
  OWN WORK. Words for byte slices in memory, whatever the program: 'Bs w v l' (the value v is a slice of the bytes l in w), 'Kept S w w'' (what was there is as it was, but for the blocks of S).
-/
namespace Go.Proofs.Ytebcmcmboomgfaa
open Go.RowKit
set_option linter.unusedVariables false

/-- the cells that hold these bytes -/
def u8s (l : List UInt8) : List Value := l.map fun x => Value.int .u8 (x.toNat : Int)
theorem u8s_length (l : List UInt8) : (u8s l).length = l.length := by simp [u8s]
theorem u8s_append (a b : List UInt8) : u8s (a ++ b) = u8s a ++ u8s b := by simp [u8s]
theorem u8s_one (l : List UInt8) (u : Value) : u ∈ u8s l → u.oneCell' = true := by
  intro h
  obtain ⟨x, _, rfl⟩ := List.mem_map.1 h
  rfl
theorem u8s_at {l : List UInt8} {j : Nat} {u : Value} (h : (u8s l)[j]? = some u) : ∃ x, l[j]? = some x ∧ u = .int .u8 (x.toNat : Int) := by
  simp only [u8s, List.getElem?_map, Option.map_eq_some_iff] at h
  obtain ⟨x, hx, rfl⟩ := h
  exact ⟨x, hx, rfl⟩

structure Kept (S : List Nat) (w w' : World) : Prop where
  os : w'.os = w.os
  tape : w'.tape = w.tape
  output : w'.output = w.output
  size : w.heap.size ≤ w'.heap.size
  block : ∀ k, k < w.heap.size → k ∉ S → w'.heap[k]? = w.heap[k]?

theorem Kept.refl (S : List Nat) (w : World) : Kept S w w := ⟨rfl, rfl, rfl, Nat.le_refl _, fun _ _ _ => rfl⟩
theorem Kept.trans {S T : List Nat} {a b c : World} (h : Kept S a b) (k : Kept T b c) (hT : ∀ x ∈ T, x ∈ S ∨ a.heap.size ≤ x) : Kept S a c :=
  ⟨k.os.trans h.os, k.tape.trans h.tape, k.output.trans h.output, Nat.le_trans h.size k.size, fun x hx hn =>
    (k.block x (Nat.lt_of_lt_of_le hx h.size) (fun hm => by rcases hT x hm with h' | h'; exact hn h'; omega)).trans (h.block x hx hn)⟩
theorem Kept.then {S : List Nat} {a b c : World} (h : Kept S a b) (k : Kept [] b c) : Kept S a c := h.trans k (by simp)
theorem Kept.mono {S T : List Nat} {a b : World} (h : Kept S a b) (hT : ∀ x ∈ S, x ∈ T) : Kept T a b :=
  ⟨h.os, h.tape, h.output, h.size, fun x hx hn => h.block x hx fun hm => hn (hT x hm)⟩
theorem Kept.alloc {S : List Nat} {a w : World} (h : Kept S a w) (o : Obj) : Kept S a (w.alloc o) :=
  h.trans (T := []) ⟨rfl, rfl, rfl, by simp, fun x hx _ => Below.heap_alloc w o x hx⟩ (by simp)
theorem Kept.drew {S : List Nat} {a w : World} (h : Kept S a w) : Kept S a w.drew := ⟨h.os, h.tape, h.output, h.size, h.block⟩
theorem Kept.below {w w' : World} (h : Kept [] w w') : Below w.heap.size w w' := ⟨h.os, h.tape, h.output, h.size, fun x hx => h.block x hx (by simp)⟩
theorem Kept.ofBelow {w w' : World} (h : Below w.heap.size w w') : Kept [] w w' := ⟨h.os, h.tape, h.output, h.size, fun x hx _ => h.block x hx⟩
theorem Kept.ofGrown {w w' : World} {r : Option Nat} {S : List Nat} (h : w.grownBy w' r) (hr : ∀ k, r = some k → k < w.heap.size → k ∈ S) : Kept S w w' :=
  ⟨h.os, h.tape, h.output, h.size, fun x hx hn => h.block x hx fun e => hn (hr x e.symm hx)⟩
/-- a row of the call's own grew -/
theorem Kept.grown {S : List Nat} {a w w' : World} {r : Option Nat} (h : Kept S a w) (hg : w.grownBy w' r) (hr : ∀ k, r = some k → k ∈ S ∨ a.heap.size ≤ k) : Kept S a w' :=
  h.trans (T := r.toList) (Kept.ofGrown hg (by intro k e _; subst e; simp)) (by intro x hx; exact hr x (by simpa using hx))
theorem Kept.setCell {S : List Nat} {a w : World} (h : Kept S a w) {p : Addr} (hp : p.block ∈ S ∨ a.heap.size ≤ p.block) (u : Value) : Kept S a (w.setCell p u) :=
  h.trans (T := [p.block]) ⟨rfl, rfl, rfl, by simp, fun x hx hn => Below.heap_setCell w p u x (by simpa using hn)⟩ (by intro x hx; simp at hx; subst hx; exact hp)

theorem lt_of_cell {w : World} {a : Addr} {v : Value} (h : w.cell? a = some v) : a.block < w.heap.size := by
  rcases Nat.lt_or_ge a.block w.heap.size with hl | hl
  · exact hl
  · simp [World.cell?, Array.getElem?_eq_none hl] at h
theorem spot_of_cell {w : World} {a : Addr} {v : Value} (h : w.cell? a = some v) : a.spot = none := by
  unfold World.cell? at h
  split at h
  · split at h
    · cases h
    · rename_i hs; simpa using hs
  · cases h
theorem Kept.cell {S : List Nat} {w w' : World} (h : Kept S w w') {a : Addr} {v : Value} (hc : w.cell? a = some v) (hn : a.block ∉ S) : w'.cell? a = some v := by
  rw [World.cell?_of_block (h.block a.block (lt_of_cell hc) hn)]; exact hc
theorem add_block (a : Addr) (i : Nat) : (a.add i).block = a.block := by unfold Addr.add; split <;> rfl
theorem add_none {a : Addr} (h : a.spot = none) (i : Nat) : a.add i = ⟨a.block, a.off + i, none⟩ := by
  obtain ⟨b, o, s⟩ := a
  simp only at h; subst h
  unfold Addr.add; split <;> simp_all

theorem add_add (a : Addr) (k i : Nat) : (a.add k).add i = a.add (k + i) := by
  obtain ⟨b, o, s⟩ := a
  by_cases hk : k = 0
  · subst hk; simp [Addr.add]
  · by_cases hi : i = 0
    · subst hi; simp [Addr.add]
    · simp [Addr.add, hk, hi, Nat.add_assoc]

/-- THE VALUE v IS A SLICE OF THE BYTES l IN w. -/
def Bs (w : World) (v : Value) (l : List UInt8) : Prop :=
  ∃ (p : Option Addr) (c : Nat), v = .slice p l.length c ∧ l.length ≤ c ∧ c ≤ maxLen ∧ (p = none → c = 0) ∧
    ∀ a, p = some a → ∀ (i : Nat) x, l[i]? = some x → w.cell? (a.add i) = some (.int .u8 (x.toNat : Int))

/-- of one byte or more: where it lies -/
theorem Bs.pos {w : World} {v : Value} {l : List UInt8} (h : Bs w v l) (hl : 0 < l.length) :
    ∃ b o c, v = .slice (some ⟨b, o, none⟩) l.length c ∧ l.length ≤ c ∧ c ≤ maxLen ∧ b < w.heap.size ∧ ∀ (i : Nat) x, l[i]? = some x → w.cell? ⟨b, o + i, none⟩ = some (.int .u8 (x.toNat : Int)) := by
  obtain ⟨p, c, rfl, h1, h2, h3, h4⟩ := h
  cases p with
  | none => have := h3 rfl; omega
  | some a =>
    have hc := h4 a rfl 0 l[0] (List.getElem?_eq_getElem hl)
    have hs := spot_of_cell hc
    have hs' : a.spot = none := by
      unfold Addr.add at hs
      split at hs <;> simp_all
    have hb := lt_of_cell hc
    rw [add_block] at hb
    refine ⟨a.block, a.off, c, by obtain ⟨b, o, s⟩ := a; simp_all, h1, h2, hb, fun i x hx => ?_⟩
    rw [← add_none hs' i]
    exact h4 a rfl i x hx

theorem Bs.nil (w : World) : Bs w (.slice none 0 0) [] := ⟨none, 0, rfl, Nat.le_refl _, by simp [maxLen], fun _ => rfl, fun a h => (by cases h)⟩
theorem Bs.mk {w : World} {b o c : Nat} {l : List UInt8} (h1 : l.length ≤ c) (h2 : c ≤ maxLen) (h : ∀ (i : Nat) x, l[i]? = some x → w.cell? ⟨b, o + i, none⟩ = some (.int .u8 (x.toNat : Int))) : Bs w (.slice (some ⟨b, o, none⟩) l.length c) l :=
  ⟨_, c, rfl, h1, h2, fun e => (by cases e), fun a e i x hx => (by cases e; rw [add_none rfl]; exact h i x hx)⟩
/-- carried to a world in which its cells are as they were -/
theorem Bs.carry {w w' : World} {v : Value} {l : List UInt8} (h : Bs w v l) (hc : ∀ (a : Addr) (x : UInt8), w.cell? a = some (.int .u8 (x.toNat : Int)) → v.ownBlock = some a.block → w'.cell? a = some (.int .u8 (x.toNat : Int))) : Bs w' v l := by
  obtain ⟨p, c, rfl, h1, h2, h3, h4⟩ := h
  exact ⟨p, c, rfl, h1, h2, h3, fun a e i x hx => hc _ x (h4 a e i x hx) (by subst e; simp [Value.ownBlock, add_block])⟩
theorem Bs.kept {w w' : World} {v : Value} {l : List UInt8} (h : Bs w v l) (k : Kept [] w w') : Bs w' v l := h.carry fun a x hx _ => k.cell hx (by simp)
/-- block k holds one slice and nothing else: a box that no byte lies in -/
def Box (w : World) (k : Nat) : Prop := ∃ p n c t m, w.heap[k]? = some (.cells #[.slice p n c] t m)
theorem Bs.keptBox {w w' : World} {v : Value} {l : List UInt8} {S : List Nat} (h : Bs w v l) (k : Kept S w w') (hS : ∀ x ∈ S, Box w x ∨ w.heap.size ≤ x) : Bs w' v l := h.carry fun a x hx _ => k.cell hx fun hm => by
  rcases hS _ hm with ⟨p, n, c, t, m, hb⟩ | hb
  · simp only [World.cell?, hb] at hx
    split at hx
    · cases hx
    · rcases ha : a.off with _ | j
      · simp [ha] at hx
      · simp [ha] at hx
  · have := lt_of_cell hx; omega
/-- behind 'kept but for v's own elder rows': its own block is not among those let go -/
theorem Bs.keptOwn {w w' : World} {v : Value} {l : List UInt8} {S : List Nat} (h : Bs w v l) (k : Kept S w w') (hS : ∀ x, v.ownBlock = some x → x ∉ S) : Bs w' v l := h.carry fun a x hx ho => k.cell hx (hS _ ho)

/-- an owned row of bytes is a slice of them -/
theorem Bs.ofOwn {w : World} {base e : Nat} {v : Value} {n : Nat} {l : List UInt8} (h : w.ownsRow base e 1 v n (u8s l)) : Bs w v l := by
  have hn : n = l.length := by have := h.1; rw [u8s_length] at this; omega
  subst hn
  rcases h.2 with ⟨rfl, h0⟩ | ⟨g, cap, cur, rfl, _, hg, h1, h2, h3, h4⟩
  · have : l = [] := List.eq_nil_of_length_eq_zero h0
    subst this
    exact Bs.nil w
  · refine Bs.mk h1 h2 fun i x hx => ?_
    have hc := h.cells (g := g) rfl i (.int .u8 (x.toNat : Int)) (by simp [u8s, hx])
    rw [add_none rfl] at hc
    exact hc
theorem own_ge {w : World} {base e size : Nat} {v : Value} {n : Nat} {xs : List Value} (h : w.ownsRow base e size v n xs) (k : Nat) (hk : v.ownBlock = some k) : base ≤ k := (h.lt k hk).1

/-- 'string(b)' -/
theorem Bs.convert {P : Program} {w : World} {v : Value} {l : List UInt8} (h : Bs w v l) {src dst e : TypeId} (hs : P.underlying src = some (.slice e)) (he : P.underlying e = some (.int .u8)) (hd : P.underlying dst = some .string) :
    (convert src dst v).run P w = .ok (.string ⟨l.toArray⟩) w := by
  obtain ⟨p, c, rfl, h1, h2, h3, h4⟩ := h
  cases p with
  | none =>
    have hc := h3 rfl
    have : l = [] := List.eq_nil_of_length_eq_zero (by omega)
    subst this
    rw [run_convert_bytes_nil w src e hs he _ _ dst hd]
    rfl
  | some a =>
    have hl : (loadCells a l.length).run P w = .ok ((l.map fun x => (x.toNat : Int)).map (Value.int .u8)).toArray w := by
      have := run_loadCells_list (P := P) w a ((l.map fun x => (x.toNat : Int)).map (Value.int .u8)) (fun j v hj => by
        simp only [List.getElem?_map, Option.map_eq_some_iff] at hj
        obtain ⟨_, ⟨x, hx, rfl⟩, rfl⟩ := hj
        exact h4 a rfl j x hx)
      simpa using this
    rw [run_convert_bytes_string w src dst e _ _ c hs he hd, run_bytesToString w _ _ c _ hl, foldl_push_bytes]
    simp [ByteArray.empty, ByteArray.emptyWithCapacity, List.map_map]
    congr 1
    rw [show (List.map ((fun n => UInt8.ofNat n.toNat) ∘ fun x : UInt8 => (x.toNat : Int)) l) = l from by
      conv => rhs; rw [← List.map_id l]
      exact List.map_congr_left (fun x _ => by simp)]
    rfl

/-- 'b[:k]' and 'b[k:]' -/
theorem Bs.cut {P : Program} {w : World} {p : Option Addr} {c : Nat} {l : List UInt8} (h : Bs w (.slice p l.length c) l) {k : Nat} (hk : k ≤ l.length) :
    Bs w (.slice p k c) (l.take k) ∧ Bs w (.slice (if c = k then p else p.map (·.add k)) (l.length - k) (c - k)) (l.drop k) := by
  obtain ⟨p', c', e, h1, h2, h3, h4⟩ := h
  cases e
  refine ⟨⟨p, c, by simp [Nat.min_eq_left hk], by simp; omega, h2, h3, fun a e i x hx => h4 a e i x ?_⟩, ⟨(if c = k then p else p.map (·.add k)), c - k, by rw [List.length_drop], by simp; omega, by omega, ?_, ?_⟩⟩
  · rw [List.getElem?_take] at hx; split at hx
    · exact hx
    · cases hx
  · intro e
    by_cases hc : c = k
    · omega
    · rw [if_neg hc] at e
      have := h3 (by simpa using e)
      omega
  · intro a e i x hx
    have hi : i < l.length - k := by simpa using (List.getElem?_eq_some_iff.1 hx).1
    by_cases hc : c = k
    · omega
    · rw [if_neg hc] at e
      obtain ⟨a', rfl, rfl⟩ := Option.map_eq_some_iff.1 e
      rw [List.getElem?_drop] at hx
      have := h4 a' rfl (k + i) x hx
      have e2 : (a'.add k).add i = a'.add (k + i) := add_add a' k i
      rw [e2]; exact this

/-- an index into a constant text, where its run is known -/
theorem wpList_index_str {P : Program} {w : World} {ops : Array Oper} {rest : List Oper} {o : Oper} {a : Act} {Q : Exit → Act → World → Prop} (hgd : o.guard = none) (t : TypeId) (S : ByteArray) (x : Operand)
    (ho : o.op = .index t (.const (.string S)) x) (k : IntKind) (i : Int) (n : Int) (hx : a.eval x = .int k i) (hr : ∀ w, (Instr.index t (.string S) (.int k i)).run P w = .ok (.int .u8 n) w)
    (h : wpList P ops Q rest (a.put o.dst (.int .u8 n)) w) : wpList P ops Q (o :: rest) a w := by
  refine wpList_plain hgd fun K hK => ?_
  unfold Oper.wp
  have e : a.eval (.const (.string S)) = .string S := rfl
  simp [execOp, ho, hx, hr, e, Result.andThen]
  exact hK _ _ h
end Go.Proofs.Ytebcmcmboomgfaa

/-
  OWN WORK. append, copy, make and the cuts of byte slices as laws for the walk, whatever the program.
-/
namespace Go.Proofs.Ytebcmcmboomgfaa
open Go.RowKit
set_option linter.unusedVariables false

/-- 'append(out, b...)': out the call's own row of bytes, b any slice of bytes (nil too). -/
theorem wpList_append_bs {P : Program} {w : World} {ops : Array Oper} {rest : List Oper} {o : Oper} {a : Act} {Q : Exit → Act → World → Prop} (hgd : o.guard = none) (s x : Operand) (t : TypeId)
    (ho : o.op = .call { callee := .builtin .append, args := #[s, x], argTypes := #[t, t] }) (base : Nat) (e : TypeId) (hu : P.underlying t = some (.slice e))
    (hinf : (P.info? e).map (fun i => (i.zero, i.size, i.bytes)) = some (some (.int .u8 0), 1, 1))
    (v : Value) (n : Nat) (xs : List Value) (hs : a.eval s = v) (hown : w.ownsRow base e 1 v n xs) (sv : Value) (l : List UInt8) (hx : a.eval x = sv) (hb : Bs w sv l)
    (hroom : n + l.length ≤ 140737488355328) (hbase : base ≤ w.heap.size)
    (h : ∀ v' w', w'.ownsRow base e 1 v' (n + l.length) (xs ++ u8s l) → w.grownBy w' v.ownBlock → (v'.ownBlock = v.ownBlock ∨ v'.ownBlock = some w.heap.size) → wpList P ops Q rest (a.put o.dst v') w') :
    wpList P ops Q (o :: rest) a w := by
  obtain ⟨i, hi, hz, hsz, hby⟩ := info_parts hinf
  obtain ⟨p, c, rfl, h1, h2, h3, h4⟩ := hb
  cases p with
  | none =>
    have hc := h3 rfl
    subst hc
    obtain rfl : l = [] := List.eq_nil_of_length_eq_zero (by omega)
    refine wpList_append_own_none hgd s x t ho base e i 1 hu hi v n xs hs hown hx ?_
    exact h v w (by simpa [u8s] using hown) (World.grownBy.refl _ _) (.inl rfl)
  | some ad =>
    refine wpList_plain hgd fun K hK => ?_
    obtain ⟨v', w', hr, k1, k2, _, k4⟩ := run_append_own_at (P := P) w base t o.type e i (.int .u8 0) 1 1 hu hi hz hsz hby rfl (by decide) v n xs hown ad l.length c (u8s l) (by simp [u8s])
      (fun j u hj => by obtain ⟨y, hy, rfl⟩ := u8s_at hj; exact h4 ad rfl j y hy) (u8s_one l) (by unfold maxLen; omega) (by omega) hbase
    unfold Oper.wp execOp
    simp only [ho, resolve, invoke, builtin, Sem.run_bind, Sem.run_pure, Result.andThen_ok, List.map_toArray, List.map_cons, List.map_nil, hs, hx, hr]
    exact hK _ _ (h v' w' k1 k2 k4)

/-- the same at a step of a region that draws its order -/
theorem step_append_bs {P : Program} {w : World} {ops : Array Oper} {o : Oper} {a : Act} {K : Act → World → Prop} {Q : Exit → Act → World → Prop} {E : Prop} (hgd : o.guard = none) (s x : Operand) (t : TypeId)
    (ho : o.op = .call { callee := .builtin .append, args := #[s, x], argTypes := #[t, t] }) (base : Nat) (e : TypeId) (hu : P.underlying t = some (.slice e))
    (hinf : (P.info? e).map (fun i => (i.zero, i.size, i.bytes)) = some (some (.int .u8 0), 1, 1))
    (v : Value) (n : Nat) (xs : List Value) (hs : a.eval s = v) (hown : w.ownsRow base e 1 v n xs) (sv : Value) (l : List UInt8) (hx : a.eval x = sv) (hb : Bs w sv l)
    (hroom : n + l.length ≤ 140737488355328) (hbase : base ≤ w.heap.size)
    (h : ∀ v' w', w'.ownsRow base e 1 v' (n + l.length) (xs ++ u8s l) → w.grownBy w' v.ownBlock → (v'.ownBlock = v.ownBlock ∨ v'.ownBlock = some w.heap.size) → K (a.put o.dst v') w') :
    if Region.wanted o (yielded ops a.tmps) = true then Oper.wp P o a w K Q else E := by
  have hw : Region.wanted o (yielded ops a.tmps) = true := by simp [Region.wanted, hgd]
  rw [if_pos hw]
  obtain ⟨i, hi, hz, hsz, hby⟩ := info_parts hinf
  obtain ⟨p, c, rfl, h1, h2, h3, h4⟩ := hb
  cases p with
  | none =>
    have hc := h3 rfl
    subst hc
    obtain rfl : l = [] := List.eq_nil_of_length_eq_zero (by omega)
    have hrun := run_append_owned_none (P := P) (w := w) base t o.type e i 1 hu hi v n xs hown
    have hx' : a.eval x = .slice none 0 0 := hx
    unfold Oper.wp execOp
    simp only [ho, resolve, invoke, builtin, Sem.run_bind, Sem.run_pure, Result.andThen_ok, List.map_toArray, List.map_cons, List.map_nil, hs, hx', hrun]
    exact h v w (by simpa [u8s] using hown) (World.grownBy.refl _ _) (.inl rfl)
  | some ad =>
    obtain ⟨v', w', hr, k1, k2, _, k4⟩ := run_append_own_at (P := P) w base t o.type e i (.int .u8 0) 1 1 hu hi hz hsz hby rfl (by decide) v n xs hown ad l.length c (u8s l) (by simp [u8s])
      (fun j u hj => by obtain ⟨y, hy, rfl⟩ := u8s_at hj; exact h4 ad rfl j y hy) (u8s_one l) (by unfold maxLen; omega) (by omega) hbase
    unfold Oper.wp execOp
    simp only [ho, resolve, invoke, builtin, Sem.run_bind, Sem.run_pure, Result.andThen_ok, List.map_toArray, List.map_cons, List.map_nil, hs, hx, hr]
    exact h v' w' k1 k2 k4
/-- 'copy(out, b)': out the call's own row, as long as b. -/
theorem wpList_copy_bs {P : Program} {w : World} {ops : Array Oper} {rest : List Oper} {o : Oper} {a : Act} {Q : Exit → Act → World → Prop} (hgd : o.guard = none) (d s : Operand) (t : TypeId)
    (ho : o.op = .call { callee := .builtin .copy, args := #[d, s], argTypes := #[t, t] }) (base : Nat) (e : TypeId) (hu : P.underlying t = some (.slice e))
    (hsz : (P.info? e).map (·.size) = some 1)
    (v : Value) (n : Nat) (xs : List Value) (hd : a.eval d = v) (hown : w.ownsRow base e 1 v n xs) (sv : Value) (l : List UInt8) (hx : a.eval s = sv) (hb : Bs w sv l) (hn : l.length = n)
    (h : ∀ w', w'.ownsRow base e 1 v n (u8s l) → w.grownBy w' v.ownBlock → wpList P ops Q rest (a.put o.dst (goInt n)) w') : wpList P ops Q (o :: rest) a w := by
  subst hn
  obtain ⟨p, c, rfl, h1, h2, h3, h4⟩ := hb
  by_cases h0 : l.length = 0
  · obtain rfl : l = [] := List.eq_nil_of_length_eq_zero h0
    have hxs : xs = [] := List.eq_nil_of_length_eq_zero (by simpa using hown.1)
    subst hxs
    obtain ⟨dp, dc, rfl⟩ : ∃ dp dc, v = .slice dp 0 dc := by
      rcases hown.2 with ⟨rfl, _⟩ | ⟨g, cap, cur, rfl, _⟩
      · exact ⟨_, _, rfl⟩
      · exact ⟨_, _, rfl⟩
    refine wpList_copy_nothing hgd d s t t ho e hu hsz dp p 0 dc 0 c hd hx rfl ?_
    exact h w hown (World.grownBy.refl _ _)
  · cases p with
    | none => have := h3 rfl; omega
    | some ad =>
      rcases hown.2 with ⟨rfl, hz⟩ | ⟨g, cap, cur, rfl, hbg, hg, hnc, hcm, hcs, htk⟩
      · omega
      · refine wpList_copy_own hgd d s t t ho e hu hsz g 0 l.length cap ad l.length c hd hx cur e hg (u8s l) (by simp [u8s]) (fun j u hj => by obtain ⟨y, hy, rfl⟩ := u8s_at hj; exact h4 ad rfl j y hy) (by rw [u8s_length]; omega) (u8s_one l) ?_
        rw [u8s_length]
        have hgl : g < w.heap.size := (Array.getElem?_eq_some_iff.1 hg).1
        refine h _ ⟨by simp [u8s], .inr ⟨g, cap, _, rfl, hbg, setRow_heap w g cur _ e (0, 0) hg, hnc, hcm, ?_, ?_⟩⟩ ⟨rfl, rfl, rfl, by simp [World.setRow], fun k hk hne => setRow_other w g k _ (by intro e2; subst e2; exact hne rfl)⟩
        · simp [u8s_length]; omega
        · simp
          rw [List.take_append_of_le_length (by rw [u8s_length]; omega)]
          exact List.take_of_length_le (by rw [u8s_length]; omega)

/-- 'make([]byte, n, c)' -/
theorem run_make_bs {P : Program} (w : World) (t e : TypeId) (hu : P.underlying t = some (.slice e)) (hinf : (P.info? e).map (fun i => (i.zero, i.size, i.bytes)) = some (some (.int .u8 0), 1, 1))
    (n c : Nat) (hnc : n ≤ c) (hc : c ≤ 281474976710656) :
    (Instr.makeSlice t (.int .i64 (n : Int)) (.int .i64 (c : Int))).run P w = .ok (.slice (some ⟨w.heap.size, 0, none⟩) n c) (w.alloc (.cells (madeCells #[.int .u8 0] c) e)) := by
  obtain ⟨i, hi, hz, hsz, hby⟩ := info_parts hinf
  have h := run_make (P := P) w t e i (.int .u8 0) hu hi hz .i64 .i64 (n : Int) (c : Int) (by omega) (by omega) (by rw [hby]; omega) (by omega)
  rw [h, hsz]
  simp [Value.cells]
theorem own_made (w : World) (e base n c : Nat) (hb : base ≤ w.heap.size) (hnc : n ≤ c) (hc : c ≤ maxLen) :
    (w.alloc (.cells (madeCells #[.int .u8 0] c) e)).ownsRow base e 1 (.slice (some ⟨w.heap.size, 0, none⟩) n c) n (u8s (List.replicate n 0)) := by
  refine ⟨by simp [u8s], .inr ⟨w.heap.size, c, _, rfl, hb, heap_alloc_new w _, hnc, hc, by simp [size_madeCells], ?_⟩⟩
  rw [toList_madeCells_one]
  simp [u8s, Nat.min_eq_left hnc]
/-- one byte in a block of its own, as 'append(out, x)' lays it -/
theorem Bs.one (w : World) (e : TypeId) (n : Int) (y : UInt8) (hn : n = (y.toNat : Int)) : Bs (w.alloc (.cells #[.int .u8 n] e)) (.slice (some ⟨w.heap.size, 0, none⟩) 1 1) [y] := by
  subst hn
  exact Bs.mk (l := [y]) (by simp) (by simp [maxLen]) fun i x hx => by
    rcases i with _ | i
    · simp at hx; subst hx
      have := World.news_of_block (heap_alloc_new w (.cells #[.int .u8 (y.toNat : Int)] e)) 0 (.int .u8 (y.toNat : Int)) (by simp)
      rwa [add_none rfl] at this
    · simp at hx
/-- a literal's bytes in a block of their own -/
theorem Bs.lit (w : World) (e : TypeId) (l : List UInt8) (cs : Array Value) (hcs : cs = (u8s l).toArray) (hl : l.length ≤ maxLen) : Bs (w.alloc (.cells cs e)) (.slice (some ⟨w.heap.size, 0, none⟩) l.length l.length) l := by
  subst hcs
  exact Bs.mk (Nat.le_refl _) hl fun i x hx => by
    have := World.news_of_block (heap_alloc_new w (.cells (u8s l).toArray e)) i (.int .u8 (x.toNat : Int)) (by simp [u8s, hx])
    rwa [add_none rfl] at this
theorem Bs.litAt (w : World) (e : TypeId) (l : List UInt8) (cs : Array Value) (hcs : cs = (u8s l).toArray) (hl : l.length ≤ maxLen) (H : Nat) (hH : w.heap.size = H) : Bs (w.alloc (.cells cs e)) (.slice (some ⟨H, 0, none⟩) l.length l.length) l := by
  subst hH
  exact Bs.lit w e l cs hcs hl
theorem own_of_lit (w : World) (e base : Nat) (l : List UInt8) (hb : base ≤ w.heap.size) (hl : l.length ≤ maxLen) : (w.alloc (.cells (u8s l).toArray e)).ownsRow base e 1 (.slice (some ⟨w.heap.size, 0, none⟩) l.length l.length) l.length (u8s l) :=
  ⟨by simp [u8s], .inr ⟨w.heap.size, l.length, _, rfl, hb, heap_alloc_new w _, Nat.le_refl _, hl, by simp [u8s], by simp only [Nat.mul_one]; exact List.take_of_length_le (by simp [u8s])⟩⟩
end Go.Proofs.Ytebcmcmboomgfaa

/-
  OWN WORK. The cuts 'b[:k]', 'b[k:]' of a slice of bytes, run; a reader's box.
-/
namespace Go.Proofs.Ytebcmcmboomgfaa
open Go.RowKit
set_option linter.unusedVariables false

theorem run_cut_to {P : Program} (w : World) (t e : TypeId) (hu : P.underlying t = some (.slice e)) (hsz : (P.info? e).map (·.size) = some 1) (p : Option Addr) (n c k : Nat) (hk : k ≤ c) :
    (Instr.slice t (.slice p n c) none (some (.int .i64 (k : Int))) none).run P w = .ok (.slice p k c) w := by
  obtain ⟨i, hi, hs⟩ := Option.map_eq_some_iff.1 hsz
  have e0 : Option.map (fun x : Addr => x.add 0) p = p := by cases p <;> simp [Addr.add]
  simp [Instr.slice, run_underlying hu, Instr.sliceBounds, run_sliceBound, sizeOf, typeInfo, hi, e0, (by omega : (k : Int) ≤ (c : Int))]
theorem run_cut_from {P : Program} (w : World) (t e : TypeId) (hu : P.underlying t = some (.slice e)) (hsz : (P.info? e).map (·.size) = some 1) (p : Option Addr) (n c k : Nat) (hk : k ≤ n) :
    (Instr.slice t (.slice p n c) (some (.int .i64 (k : Int))) none none).run P w = .ok (.slice (if c = k then p else p.map (·.add k)) (n - k) (c - k)) w := by
  obtain ⟨i, hi, hs⟩ := Option.map_eq_some_iff.1 hsz
  simp [Instr.slice, run_underlying hu, Instr.sliceBounds, run_sliceBound, sizeOf, typeInfo, hi, hs, (by omega : (k : Int) ≤ (n : Int))]

theorem run_cut_mid {P : Program} (w : World) (t e : TypeId) (hu : P.underlying t = some (.slice e)) (hsz : (P.info? e).map (·.size) = some 1) (p : Option Addr) (n c k m : Nat) (hm : k + m ≤ c) :
    (Instr.slice t (.slice p n c) (some (.int .i64 (k : Int))) (some (.int .i64 ((k : Int) + (m : Int)))) none).run P w = .ok (.slice (if c = k then p else p.map (·.add k)) m (c - k)) w := by
  obtain ⟨i, hi, hs⟩ := Option.map_eq_some_iff.1 hsz
  have e1 : ((k : Int) + (m : Int)).toNat = k + m := by omega
  simp [Instr.slice, run_underlying hu, Instr.sliceBounds, run_sliceBound, sizeOf, typeInfo, hi, hs, e1, (by omega : (k : Int) + (m : Int) ≤ (c : Int)), (by omega : 0 ≤ (k : Int) + (m : Int))]
  rw [run_sliceBound (P := P) w .i64 (k : Int) (k + m) .sliceB (by omega) (by omega)]
  simp [Result.andThen]
theorem Bs.heap {w w' : World} {v : Value} {l : List UInt8} (hw : w'.heap = w.heap) (h : Bs w v l) : Bs w' v l := h.carry fun a x hx _ => by rw [World.cell?_of_block (w := w) (by rw [hw])]; exact hx
/-- 'b[k:k+m]' -/
theorem Bs.mid {P : Program} (t e : TypeId) (hu : P.underlying t = some (.slice e)) (hsz : (P.info? e).map (·.size) = some 1) {w : World} {p : Option Addr} {n c : Nat} {l : List UInt8} (h : Bs w (.slice p n c) l) (k m : Nat) (hk : k + m ≤ n) :
    ∃ p2, (∀ u, (Instr.slice t (.slice p n c) (some (.int .i64 (k : Int))) (some (.int .i64 ((k : Int) + (m : Int)))) none).run P u = .ok (.slice p2 m (c - k)) u) ∧ Bs w (.slice p2 m (c - k)) ((l.drop k).take m) := by
  obtain ⟨p', c', e', h1, h2, -⟩ := id h
  cases e'
  have hc := (h.cut (P := P) (k := k) (by omega)).2
  have hd := (Bs.cut (P := P) (c := c - k) (l := l.drop k) (by simpa using hc) (k := m) (by simp; omega)).1
  exact ⟨_, fun u => run_cut_mid u t e hu hsz p _ c k m (by omega), hd⟩
/-- both cuts of a slice of bytes, with what they hold -/
theorem Bs.cuts {P : Program} (t e : TypeId) (hu : P.underlying t = some (.slice e)) (hsz : (P.info? e).map (·.size) = some 1) {w : World} {p : Option Addr} {n c : Nat} {l : List UInt8} (h : Bs w (.slice p n c) l) (k : Nat) (hk : k ≤ n) :
    ∃ p2, (∀ u, (Instr.slice t (.slice p n c) none (some (.int .i64 (k : Int))) none).run P u = .ok (.slice p k c) u) ∧
      (∀ u, (Instr.slice t (.slice p n c) (some (.int .i64 (k : Int))) none none).run P u = .ok (.slice p2 (n - k) (c - k)) u) ∧ Bs w (.slice p k c) (l.take k) ∧ Bs w (.slice p2 (n - k) (c - k)) (l.drop k) := by
  obtain ⟨p', c', e', h1, h2, -⟩ := id h
  cases e'
  have hc := h.cut (P := P) hk
  exact ⟨_, fun u => run_cut_to u t e hu hsz p _ c k (by omega), fun u => run_cut_from u t e hu hsz p _ c k hk, hc.1, hc.2⟩

/-- A READER: block g holds one slice, of the bytes l that are left. -/
def Rd (t : TypeId) (w : World) (g : Nat) (l : List UInt8) : Prop :=
  ∃ p n c, w.heap[g]? = some (.cells #[.slice p n c] t (0, 0)) ∧ Bs w (.slice p n c) l
theorem Rd.box {t : TypeId} {w : World} {g : Nat} {l : List UInt8} (h : Rd t w g l) : Box w g := by
  obtain ⟨p, n, c, h1, _⟩ := h
  exact ⟨p, n, c, t, _, h1⟩
theorem Rd.lt {t : TypeId} {w : World} {g : Nat} {l : List UInt8} (h : Rd t w g l) : g < w.heap.size := by
  obtain ⟨p, n, c, h1, _⟩ := h
  exact (Array.getElem?_eq_some_iff.1 h1).1
/-- a reader is as it was where neither it nor a byte was touched -/
theorem Rd.kept {t : TypeId} {w w' : World} {g : Nat} {l : List UInt8} {S : List Nat} (h : Rd t w g l) (k : Kept S w w') (hS : ∀ x ∈ S, x ≠ g ∧ (Box w x ∨ w.heap.size ≤ x)) : Rd t w' g l := by
  have hl := h.lt
  obtain ⟨p, n, c, h1, h2⟩ := h
  exact ⟨p, n, c, (k.block g hl (fun hm => (hS g hm).1 rfl)).trans h1, h2.keptBox k fun x hx => (hS x hx).2⟩
theorem Box.kept {w w' : World} {x : Nat} {S : List Nat} (h : Box w x) (k : Kept S w w') (hn : x ∉ S) : Box w' x := by
  obtain ⟨p, n, c, t, m, hb⟩ := h
  exact ⟨p, n, c, t, m, (k.block x (Array.getElem?_eq_some_iff.1 hb).1 hn).trans hb⟩
theorem Rd.fresh {t : TypeId} {w : World} {p : Option Addr} {n c : Nat} {l : List UInt8} (h : Bs w (.slice p n c) l) : Rd t (w.alloc (.cells #[.slice p n c] t)) w.heap.size l :=
  ⟨p, n, c, heap_alloc_new w _, h.kept ((Kept.refl [] w).alloc _)⟩
theorem Rd.cell {t : TypeId} {w : World} {g : Nat} {p : Option Addr} {n c : Nat} (h : w.heap[g]? = some (.cells #[.slice p n c] t (0, 0))) : w.cell? ⟨g, 0, none⟩ = some (.slice p n c) ∧ w.frozen? ⟨g, 0, none⟩ = false :=
  ⟨cell_of_one h, free_of_one h⟩
/-- the reader's box is written: the new slice in it -/
theorem Rd.set {t : TypeId} {w : World} {g : Nat} {p p' : Option Addr} {n c n' c' : Nat} {l' : List UInt8} (h : w.heap[g]? = some (.cells #[.slice p n c] t (0, 0))) (hb : Bs w (.slice p' n' c') l') :
    Rd t (w.setCell ⟨g, 0, none⟩ (.slice p' n' c')) g l' ∧ Kept [g] w (w.setCell ⟨g, 0, none⟩ (.slice p' n' c')) := by
  have hk : Kept [g] w (w.setCell ⟨g, 0, none⟩ (.slice p' n' c')) := (Kept.refl [g] w).setCell (.inl (by simp)) _
  refine ⟨⟨p', n', c', one_setCell h, hb.keptBox hk fun x hx => .inl ?_⟩, hk⟩
  simp at hx; subst hx
  exact ⟨p, n, c, t, _, h⟩
theorem own_mono {w : World} {b b' e size : Nat} {v : Value} {n : Nat} {xs : List Value} (h : w.ownsRow b e size v n xs) (hb : b' ≤ b) : w.ownsRow b' e size v n xs := by
  refine ⟨h.1, ?_⟩
  rcases h.2 with h | ⟨g, cap, cur, h1, h2, h3⟩
  · exact .inl h
  · exact .inr ⟨g, cap, cur, h1, Nat.le_trans hb h2, h3⟩
end Go.Proofs.Ytebcmcmboomgfaa

/-
  OWN WORK. A slice of slices of bytes; rows of the call's own.
-/
namespace Go.Proofs.Ytebcmcmboomgfaa
open Go.RowKit
set_option linter.unusedVariables false

theorem Kept.drewN' {S : List Nat} {a w : World} (h : Kept S a w) (n : Nat) : Kept S a (w.drewN n) := ⟨h.os, h.tape, h.output, h.size, h.block⟩
/-- THE VALUE v IS A SLICE OF SLICES OF THESE BYTES IN w. -/
def Bss (w : World) (v : Value) (ls : List (List UInt8)) : Prop :=
  ∃ (p : Option Addr) (c : Nat), v = .slice p ls.length c ∧ ls.length ≤ c ∧ c ≤ maxLen ∧ (p = none → c = 0) ∧
    ∀ a, p = some a → ∀ (i : Nat) l, ls[i]? = some l → ∃ q d, w.cell? (a.add i) = some (.slice q l.length d) ∧ Bs w (.slice q l.length d) l
theorem Bss.pos {w : World} {v : Value} {ls : List (List UInt8)} (h : Bss w v ls) (hl : 0 < ls.length) :
    ∃ b o c, v = .slice (some ⟨b, o, none⟩) ls.length c ∧ ls.length ≤ c ∧ c ≤ maxLen ∧ b < w.heap.size ∧
      ∀ (i : Nat) l, ls[i]? = some l → ∃ q d, w.cell? ⟨b, o + i, none⟩ = some (.slice q l.length d) ∧ Bs w (.slice q l.length d) l := by
  obtain ⟨p, c, rfl, h1, h2, h3, h4⟩ := h
  cases p with
  | none => have := h3 rfl; omega
  | some a =>
    obtain ⟨q, d, hc, _⟩ := h4 a rfl 0 ls[0] (List.getElem?_eq_getElem hl)
    have hs := spot_of_cell hc
    have hs' : a.spot = none := by
      unfold Addr.add at hs
      split at hs <;> simp_all
    have hb := lt_of_cell hc
    rw [add_block] at hb
    refine ⟨a.block, a.off, c, by obtain ⟨b, o, s⟩ := a; simp_all, h1, h2, hb, fun i x hx => ?_⟩
    rw [← add_none hs' i]
    exact h4 a rfl i x hx
theorem Bss.kept {w w' : World} {v : Value} {ls : List (List UInt8)} (h : Bss w v ls) (k : Kept [] w w') : Bss w' v ls := by
  obtain ⟨p, c, rfl, h1, h2, h3, h4⟩ := h
  refine ⟨p, c, rfl, h1, h2, h3, fun a e i l hl => ?_⟩
  obtain ⟨q, d, hc, hb⟩ := h4 a e i l hl
  exact ⟨q, d, k.cell hc (by simp), hb.kept k⟩
/-- a literal's slices in a block of their own -/
theorem Bss.lit (w : World) (e : TypeId) (vs : List Value) (ls : List (List UInt8)) (hl : vs.length = ls.length) (hm : ls.length ≤ maxLen) (hB : ∀ (i : Nat) v l, vs[i]? = some v → ls[i]? = some l → Bs w v l) (H : Nat) (hH : w.heap.size = H) :
    Bss (w.alloc (.cells vs.toArray e)) (.slice (some ⟨H, 0, none⟩) ls.length ls.length) ls := by
  subst hH
  refine ⟨_, ls.length, rfl, Nat.le_refl _, hm, fun e => (by cases e), fun a ha i l hi => ?_⟩
  cases ha
  have hv : i < vs.length := by rw [hl]; exact (List.getElem?_eq_some_iff.1 hi).1
  have hb := hB i vs[i] l (List.getElem?_eq_getElem hv) hi
  obtain ⟨q, d, hq, -⟩ := id hb
  refine ⟨q, d, ?_, ?_⟩
  · have := World.news_of_block (heap_alloc_new w (.cells vs.toArray e)) i vs[i] (by simp)
    rw [← hq]
    exact this
  · rw [← hq]
    exact hb.kept ((Kept.refl [] w).alloc _)
/-- the rows one behind the other -/
def flat (ls : List (List UInt8)) : List UInt8 := ls.flatten
theorem flat_nil : flat [] = [] := rfl
theorem flat_take (ls : List (List UInt8)) (k : Nat) (l : List UInt8) (h : ls[k]? = some l) : flat (ls.take (k + 1)) = flat (ls.take k) ++ l := by
  obtain ⟨hk, rfl⟩ := List.getElem?_eq_some_iff.1 h
  unfold flat
  rw [List.take_succ_eq_append_getElem hk, List.flatten_append]
  simp
theorem flat_le (ls : List (List UInt8)) (k : Nat) : (flat (ls.take k)).length ≤ (flat ls).length := by
  unfold flat
  have : ls.flatten = (ls.take k).flatten ++ (ls.drop k).flatten := by rw [← List.flatten_append, List.take_append_drop]
  rw [this, List.length_append]; omega

theorem own_shape2 {w : World} {base e size : Nat} {v : Value} {n : Nat} {xs : List Value} (h : w.ownsRow base e size v n xs) : ∃ p c, v = .slice p n c := by
  rcases h.2 with ⟨rfl, rfl⟩ | ⟨g, cap, cur, rfl, _⟩
  · exact ⟨_, _, rfl⟩
  · exact ⟨_, _, rfl⟩
theorem Bss.lit1 (w : World) (e : TypeId) (a : Value) (la : List UInt8) (ha : Bs w a la) (H : Nat) (hH : w.heap.size = H) : Bss (w.alloc (.cells #[a] e)) (.slice (some ⟨H, 0, none⟩) 1 1) [la] :=
  Bss.lit w e [a] [la] rfl (by simp [maxLen]) (by
    intro i v l h1 h2
    match i, h1, h2 with
    | 0, h1, h2 => simp at h1 h2; subst h1; subst h2; exact ha
    | i + 1, h1, h2 => simp at h1) H hH
theorem Bss.lit2 (w : World) (e : TypeId) (a b : Value) (la lb : List UInt8) (ha : Bs w a la) (hb : Bs w b lb) (H : Nat) (hH : w.heap.size = H) : Bss (w.alloc (.cells #[a, b] e)) (.slice (some ⟨H, 0, none⟩) 2 2) [la, lb] :=
  Bss.lit w e [a, b] [la, lb] rfl (by simp [maxLen]) (by
    intro i v l h1 h2
    match i, h1, h2 with
    | 0, h1, h2 => simp at h1 h2; subst h1; subst h2; exact ha
    | 1, h1, h2 => simp at h1 h2; subst h1; subst h2; exact hb
    | i + 2, h1, h2 => simp at h1) H hH
theorem Bss.lit3 (w : World) (e : TypeId) (a b c : Value) (la lb lc : List UInt8) (ha : Bs w a la) (hb : Bs w b lb) (hc : Bs w c lc) (H : Nat) (hH : w.heap.size = H) : Bss (w.alloc (.cells #[a, b, c] e)) (.slice (some ⟨H, 0, none⟩) 3 3) [la, lb, lc] :=
  Bss.lit w e [a, b, c] [la, lb, lc] rfl (by simp [maxLen]) (by
    intro i v l h1 h2
    match i, h1, h2 with
    | 0, h1, h2 => simp at h1 h2; subst h1; subst h2; exact ha
    | 1, h1, h2 => simp at h1 h2; subst h1; subst h2; exact hb
    | 2, h1, h2 => simp at h1 h2; subst h1; subst h2; exact hc
    | i + 3, h1, h2 => simp at h1) H hH
/-- rows made behind a literal's block -/
theorem own_late {w w' : World} {o : Obj} {e n : Nat} {v : Value} {xs : List Value} (h : w'.ownsRow (w.alloc o).heap.size e 1 v n xs) : w'.ownsRow w.heap.size e 1 v n xs := by
  refine ⟨h.1, ?_⟩
  rcases h.2 with h1 | ⟨g, cap, cur, h1, h2, h3⟩
  · exact .inl h1
  · exact .inr ⟨g, cap, cur, h1, Nat.le_trans (by simp) h2, h3⟩

end Go.Proofs.Ytebcmcmboomgfaa

/-
  OWN WORK. What a reading of an argument says in the words of 'Bs' and 'Bss', and what the bound gives of it.
-/
namespace Go.Proofs.Ytebcmcmboomgfaa
open Go.ChangeShapes Go.WideShapes Go.ChangeAt Go.RowKit Go.Deep
set_option linter.unusedVariables false

theorem own : ownKnob Try.prog.godebug = none := by kernel_rfl
theorem laidOut : laidOutB Try.prog = true := by kernel_rfl

theorem bulk_one {H : Type} (d : DataW H) : 1 ≤ Rows.uptoBulk d := by
  cases d with
  | lit l => cases l <;> simp [Rows.uptoBulk]
  | nil => simp [Rows.uptoBulk]
  | ptr d => simp [Rows.uptoBulk]
  | slice elems spare => simp [Rows.uptoBulk]
  | agg parts => simp [Rows.uptoBulk]
  | iface t d => simp [Rows.uptoBulk]
  | map entries => simp [Rows.uptoBulk]
  | held h => simp [Rows.uptoBulk]
theorem bulk_length {H : Type} (l : List (DataW H)) : l.length ≤ Rows.uptoBulkAll l := by
  induction l with
  | nil => simp [Rows.uptoBulkAll]
  | cons x r ih => have := bulk_one x; simp only [Rows.uptoBulkAll, List.length_cons]; omega
theorem bulk_append {H : Type} (l r : List (DataW H)) : Rows.uptoBulkAll (l ++ r) = Rows.uptoBulkAll l + Rows.uptoBulkAll r := by
  induction l with
  | nil => simp [Rows.uptoBulkAll]
  | cons x l ih => simp only [List.cons_append, Rows.uptoBulkAll, ih]; omega

/-- the bytes that these numbers are -/
def bytesOfInts (zs : List Int) : List UInt8 := zs.map fun n => UInt8.ofNat n.toNat
theorem bytes_length (zs : List Int) : (bytesOfInts zs).length = zs.length := by simp [bytesOfInts]
theorem byte_wf {n : Int} (h : (Lit.int .u8 n).wf = true) : ((UInt8.ofNat n.toNat).toNat : Int) = n := by
  have hx : 0 ≤ n ∧ n ≤ 255 := by simpa [Lit.wf, IntKind.min, IntKind.max, IntKind.signed, IntKind.bits] using h
  rw [UInt8.toNat_ofNat']
  omega
theorem bs_cells {w : World} {ao : Option Addr} {len cap : Nat} {zs : List Int} (hl : len ≤ cap) (hm : cap ≤ maxLen) (hz : zs.length = cap) (hn : ao = none → cap = 0)
    (hc : ∀ a, ao = some a → ∀ i, i < cap → w.cell? (a.add i) = some (.int .u8 (zs.getD i 0))) (hw : ∀ n ∈ zs, (Lit.int .u8 n).wf = true) : Bs w (.slice ao len cap) (bytesOfInts (zs.take len)) := by
  have hlen : (bytesOfInts (zs.take len)).length = len := by rw [bytes_length, List.length_take]; omega
  refine ⟨ao, cap, by rw [hlen], by omega, hm, hn, fun a ha i x hx => ?_⟩
  have hi : i < len := by rw [← hlen]; exact (List.getElem?_eq_some_iff.1 hx).1
  rw [hc a ha i (by omega)]
  have e : x = UInt8.ofNat (zs.getD i 0).toNat := by
    simp only [bytesOfInts, List.getElem?_map, List.getElem?_take, hi, if_true] at hx
    obtain ⟨y, hy, rfl⟩ := Option.map_eq_some_iff.1 hx
    simp [List.getD, hy]
  rw [e, byte_wf (hw _ ?_)]
  rw [List.getD, List.getElem?_eq_getElem (by omega)]
  exact List.getElem_mem _

theorem bs_open {H : Type} {enc : TypeId × Value → H} {W : World} {t e : TypeId} {ao : Option Addr} {len cap : Nat} {d : DataW H} {p : List MemPlace} (ht : Try.prog.underlying t = some (.slice e)) (he : Try.prog.underlying e = some (.int .u8)) (hc : Try.prog.cellsOf e = 1)
    (h : DataW.Trod enc Try.prog W 0 (fun _ => true) true t (.slice ao len cap) d p) : ∃ l : List UInt8, l.length = len ∧ Bs W (.slice ao len cap) l ∧ l.length + 1 ≤ Rows.uptoBulk d ∧ (d = .nil ∧ len = 0 ∨ ∃ el sp, d = .slice el sp ∧ el.length = len) := by
  obtain ⟨fuel, hf⟩ := h
  rcases open_ints ht he hc hf with ⟨hcs, hx⟩ | ⟨x, n, c, zs, hcs, _, hl, hm, hz, hx, hcell, hwz⟩
  · simp [Value.cells] at hcs
    obtain ⟨rfl, rfl, rfl⟩ := hcs
    obtain ⟨rfl, rfl⟩ := Prod.mk.inj hx
    exact ⟨[], rfl, Bs.nil W, by simp [Rows.uptoBulk], .inl ⟨rfl, rfl⟩⟩
  · simp [Value.cells] at hcs
    obtain ⟨rfl, rfl, rfl⟩ := hcs
    obtain ⟨rfl, rfl⟩ := Prod.mk.inj hx
    have hz' : zs.length = cap := by simpa using hz
    have hlen : (bytesOfInts (zs.take len)).length = len := by rw [bytes_length, List.length_take]; omega
    refine ⟨bytesOfInts (zs.take len), hlen, bs_cells hl hm hz' (fun e => by cases e) (fun a ha i hi => by cases ha; exact hcell i (by omega)) hwz, ?_, .inr ⟨_, _, rfl, by simp [lits]; omega⟩⟩
    rw [hlen]
    have h1 := bulk_length (lits (H := H) .u8 (zs.take len))
    simp only [Rows.uptoBulk]
    simp only [lits, List.length_map, List.length_take] at h1 ⊢
    omega

/-- the form's own reach, of a slice of bytes -/
theorem sized_len {H : Type} {ts : List TypeId} {ds : List (DataW H)} {j : Nat} {t e : TypeId} {d : DataW H} {len : Nat} (hsz : (DataW.weightsEach Try.prog ts ds).all (· ≤ reachBytes) = true) (ht : ts[j]? = some t) (hd : ds[j]? = some d)
    (hu : Try.prog.underlying t = some (.slice e)) (hb : Try.prog.bytesOf e = 1) (h : d = .nil ∧ len = 0 ∨ ∃ el sp, d = .slice el sp ∧ el.length = len) : len ≤ 140737488351232 := by
  rcases h with ⟨_, rfl⟩ | ⟨el, sp, rfl, rfl⟩
  · omega
  · have := sized_slice hsz ht hd hu
    rw [hb] at this
    simp only [reachBytes] at this
    omega

theorem bss_open {H : Type} {enc : TypeId × Value → H} {W : World} {t e q : TypeId} {ao : Option Addr} {len cap : Nat} {d : DataW H} {p : List MemPlace} (ht : Try.prog.underlying t = some (.slice e)) (he : Try.prog.underlying e = some (.slice q)) (hq : Try.prog.underlying q = some (.int .u8))
    (ce : Try.prog.cellsOf e = 1) (cq : Try.prog.cellsOf q = 1) (h : DataW.Trod enc Try.prog W 0 (fun _ => true) true t (.slice ao len cap) d p) : ∃ ls : List (List UInt8), Bss W (.slice ao len cap) ls ∧ (flat ls).length + ls.length + 1 ≤ Rows.uptoBulk d := by
  obtain ⟨fuel, hf⟩ := h
  rcases open_int_rows ht he hq ce cq hf with ⟨hcs, hx⟩ | ⟨a, n, c, A, L, C, Z, hcs, _, hl, hm, hx, hr⟩
  · simp [Value.cells] at hcs
    obtain ⟨rfl, rfl, rfl⟩ := hcs
    obtain ⟨rfl, rfl⟩ := Prod.mk.inj hx
    exact ⟨[], ⟨none, 0, rfl, Nat.le_refl _, by simp [maxLen], fun _ => rfl, fun a e => (by cases e)⟩, by simp [Rows.uptoBulk, flat]⟩
  · simp [Value.cells] at hcs
    obtain ⟨rfl, rfl, rfl⟩ := hcs
    obtain ⟨rfl, rfl⟩ := Prod.mk.inj hx
    have hlr : ∀ r, r < cap → (bytesOfInts ((Z r).take (L r))).length = L r := fun r h => by
      obtain ⟨_, h1, _, h3, _⟩ := hr r h
      rw [bytes_length, List.length_take]; omega
    refine ⟨(List.range len).map fun r => bytesOfInts ((Z r).take (L r)), ⟨some a, cap, by simp, by simpa using hl, hm, fun e => (by cases e), fun a' e i l hi => ?_⟩, ?_⟩
    · cases e
      simp only [List.getElem?_map] at hi
      obtain ⟨r, hr1, rfl⟩ := Option.map_eq_some_iff.1 hi
      obtain ⟨hr2, rfl⟩ := List.getElem?_eq_some_iff.1 hr1
      have hr3 : i < len := by simpa using hr2
      simp only [List.getElem_range]
      obtain ⟨k1, k2, k3, k4, k5, k6, k7⟩ := hr i (by omega)
      rw [hlr i (by omega)]
      exact ⟨A i, C i, k1, bs_cells k2 k3 k4 k6 (fun a' ha j hj => (k7 a' ha).2 j hj) k5⟩
    · have key : ∀ (m : Nat), m ≤ len → (flat ((List.range m).map fun r => bytesOfInts ((Z r).take (L r)))).length + m ≤ Rows.uptoBulkAll ((List.range m).map fun r => intRow (H := H) .u8 (A r) (L r) (Z r)) := by
        intro m
        induction m with
        | zero => intro _; simp [flat, Rows.uptoBulkAll]
        | succ m ih =>
          intro hm'
          have := ih (by omega)
          rw [List.range_succ, List.map_append, List.map_append, bulk_append]
          have e1 : (flat (((List.range m).map fun r => bytesOfInts ((Z r).take (L r))) ++ [m].map fun r => bytesOfInts ((Z r).take (L r)))).length = (flat ((List.range m).map fun r => bytesOfInts ((Z r).take (L r)))).length + L m := by
            unfold flat
            rw [List.flatten_append, List.length_append]
            simp only [List.map_cons, List.map_nil, List.flatten_cons, List.flatten_nil, List.append_nil]
            rw [hlr m (by omega)]
          rw [e1]
          have e2 : L m + 1 ≤ Rows.uptoBulkAll ([m].map fun r => intRow (H := H) .u8 (A r) (L r) (Z r)) := by
            obtain ⟨k1, k2, k3, k4, k5, k6, k7⟩ := hr m (by omega)
            simp only [List.map_cons, List.map_nil, Rows.uptoBulkAll]
            cases ha : A m with
            | none => have := k6 ha; simp [intRow, Rows.uptoBulk]; omega
            | some y =>
              have h1 := bulk_length (lits (H := H) .u8 ((Z m).take (L m)))
              simp only [intRow, Rows.uptoBulk]
              simp only [lits, List.length_map, List.length_take] at h1 ⊢
              omega
          omega
      have := key len (Nat.le_refl _)
      simp only [Rows.uptoBulk, List.length_map, List.length_range]
      omega
end Go.Proofs.Ytebcmcmboomgfaa

/-
  OWN WORK. Records (layer 9) in plain words: right ones, their bytes, bytes as records.
-/
namespace Go.Proofs.Ytebcmcmboomgfaa
set_option linter.unusedVariables false

structure RowR where
  birth : Int
  id : Int
  state : Int
  last : Int
  next : Int
structure RecR where
  page : Int
  lsn : Int
structure Rcd where
  kind : Int
  birth : Int
  prev : Int
  id : Int
  page : Int
  frm : Int
  before : List UInt8
  after : List UInt8
  next : Int
  rows : List RowR
  dirty : List RecR
def topLsn : Nat := 1152921504606846976
def lsnOk (n : Int) : Prop := 1 ≤ n ∧ n ≤ 1152921504606846976
def nextOk (n : Int) : Prop := 0 ≤ n ∧ n ≤ 1152921504606846976
def rowOk (x : RowR) : Prop := lsnOk x.birth ∧ (1 ≤ x.id ∧ x.id ≤ 64) ∧ (x.state = 1 ∨ x.state = 2) ∧ lsnOk x.last ∧ nextOk x.next
def recOk (x : RecR) : Prop := (0 ≤ x.page ∧ x.page < 16) ∧ lsnOk x.lsn
def listsOk (r : Rcd) : Prop := (r.rows.length ≤ 8 ∧ r.dirty.length ≤ 16) ∧ ((∀ x ∈ r.rows, rowOk x) ∧ ∀ (i : Nat) x y, r.rows[i]? = some x → r.rows[i + 1]? = some y → x.birth < y.birth) ∧ (∀ x ∈ r.dirty, recOk x) ∧ ∀ (i : Nat) x y, r.dirty[i]? = some x → r.dirty[i + 1]? = some y → x.page < y.page
def rangedOk (r : Rcd) : Prop := (0 ≤ r.page ∧ r.page < 16) ∧ (1 ≤ r.after.length ∧ r.after.length ≤ 128) ∧ 16 ≤ r.frm ∧ r.frm ≤ 144 - (r.after.length : Int)
def partsOk (r : Rcd) : Prop := r.before.length = r.after.length ∧ r.before[0]? ≠ r.after[0]? ∧ r.before[r.after.length - 1]? ≠ r.after[r.after.length - 1]?
def Rcd.Right (r : Rcd) : Prop :=
  (1 ≤ r.kind ∧ r.kind ≤ 7) ∧ (if r.kind = 1 ∨ r.kind = 7 then r.birth = 0 ∧ r.prev = 0 else lsnOk r.birth ∧ lsnOk r.prev) ∧ (if r.kind = 1 then 1 ≤ r.id ∧ r.id ≤ 64 else r.id = 0) ∧ (if r.kind = 7 then listsOk r else r.rows = [] ∧ r.dirty = []) ∧ (if r.kind = 3 then nextOk r.next else r.next = 0) ∧
    (if r.kind = 2 ∨ r.kind = 3 then rangedOk r else r.page = 0 ∧ r.frm = 0 ∧ r.after = []) ∧ (if r.kind = 2 then partsOk r else r.before = [])
/-- n bytes of a number, the lowest first -/
def putN : Nat → Nat → List UInt8
  | 0, _ => []
  | n + 1, v => UInt8.ofNat (v % 256) :: putN n (v / 256)
def takeN : List UInt8 → Nat
  | [] => 0
  | b :: r => b.toNat + 256 * takeN r
theorem putN_length : ∀ (n v : Nat), (putN n v).length = n
  | 0, _ => rfl
  | n + 1, v => by simp [putN, putN_length n]
theorem takeN_lt : ∀ (l : List UInt8), takeN l < 256 ^ l.length
  | [] => by simp [takeN]
  | b :: r => by
    have := takeN_lt r
    have hb := b.toNat_lt
    simp only [takeN, List.length_cons, Nat.pow_succ]
    omega
theorem takeN_putN : ∀ (n v : Nat), v < 256 ^ n → takeN (putN n v) = v
  | 0, v, h => by simp at h; simp [putN, takeN, h]
  | n + 1, v, h => by
    have h1 : v / 256 < 256 ^ n := by rw [Nat.pow_succ] at h; exact (Nat.div_lt_iff_lt_mul (by omega)).2 h
    simp only [putN, takeN, takeN_putN n _ h1, UInt8.toNat_ofNat']
    omega
theorem putN_takeN : ∀ (l : List UInt8), putN l.length (takeN l) = l
  | [] => rfl
  | b :: r => by
    have hb := b.toNat_lt
    have e1 : (b.toNat + 256 * takeN r) % 256 = b.toNat := by omega
    have e2 : (b.toNat + 256 * takeN r) / 256 = takeN r := by omega
    simp only [takeN, List.length_cons, putN, e1, e2, putN_takeN r]
    simp
/-- readers: what is read, and what is left -/
def Ps (α : Type) := List UInt8 → Option (α × List UInt8)
def Ps.ret {α : Type} (a : α) : Ps α := fun l => some (a, l)
def Ps.bind {α β : Type} (p : Ps α) (f : α → Ps β) : Ps β := fun l => match p l with
  | none => none
  | some (a, r) => f a r
theorem Ps.bind_some {α β : Type} {p : Ps α} {f : α → Ps β} {l : List UInt8} {b : β} {r : List UInt8} : p.bind f l = some (b, r) ↔ ∃ a r1, p l = some (a, r1) ∧ f a r1 = some (b, r) := by
  unfold Ps.bind
  cases h : p l with
  | none => simp
  | some x =>
    obtain ⟨a, r1⟩ := x
    constructor
    · intro e
      exact ⟨a, r1, rfl, e⟩
    · rintro ⟨a', r', e1, e2⟩
      cases e1
      exact e2
theorem Ps.bind_of {α β : Type} {p : Ps α} {f : α → Ps β} {l : List UInt8} {a : α} {r1 : List UInt8} (h : p l = some (a, r1)) : p.bind f l = f a r1 := by
  unfold Ps.bind
  rw [h]
def Ext {α : Type} (p : Ps α) : Prop := ∀ l a r m, p l = some (a, r) → p (l ++ m) = some (a, r ++ m)
theorem Ext.ret {α : Type} (a : α) : Ext (Ps.ret a) := fun l b r m h => by
  unfold Ps.ret at h ⊢
  simp at h
  obtain ⟨rfl, rfl⟩ := h
  rfl
theorem Ext.bind {α β : Type} {p : Ps α} {f : α → Ps β} (hp : Ext p) (hf : ∀ a, Ext (f a)) : Ext (p.bind f) := fun l b r m h => by
  obtain ⟨a, r1, h1, h2⟩ := Ps.bind_some.1 h
  rw [Ps.bind_of (hp l a r1 m h1)]
  exact hf a r1 b r m h2
/-- a number of n bytes; one above the greatest LSN is none -/
def num (n : Nat) : Ps Nat := fun l => if l.length < n then none else if takeN (l.take n) ≤ topLsn then some (takeN (l.take n), l.drop n) else none
def raw (n : Nat) : Ps (List UInt8) := fun l => if l.length < n then none else some (l.take n, l.drop n)
theorem num_some {n : Nat} {l r : List UInt8} {v : Nat} (h : num n l = some (v, r)) : l = putN n v ++ r ∧ v ≤ topLsn ∧ v < 256 ^ n := by
  unfold num at h
  split at h
  · cases h
  · rename_i hl
    split at h
    · rename_i hv
      simp at h
      obtain ⟨rfl, rfl⟩ := h
      have hn : (l.take n).length = n := by rw [List.length_take]; omega
      have e := putN_takeN (l.take n)
      have e2 := takeN_lt (l.take n)
      rw [hn] at e e2
      exact ⟨by rw [e, List.take_append_drop], hv, e2⟩
    · cases h
theorem num_of {n v : Nat} (r : List UInt8) (h1 : v ≤ topLsn) (h2 : v < 256 ^ n) : num n (putN n v ++ r) = some (v, r) := by
  have e1 : (putN n v ++ r).take n = putN n v := List.take_left' (putN_length n v)
  have e2 : (putN n v ++ r).drop n = r := List.drop_left' (putN_length n v)
  unfold num
  rw [if_neg (by rw [List.length_append, putN_length]; omega), e1, e2, takeN_putN n v h2, if_pos h1]
theorem raw_some {n : Nat} {l r x : List UInt8} (h : raw n l = some (x, r)) : l = x ++ r ∧ x.length = n := by
  unfold raw at h
  split at h
  · cases h
  · rename_i hl
    simp at h
    obtain ⟨rfl, rfl⟩ := h
    exact ⟨by rw [List.take_append_drop], by rw [List.length_take]; omega⟩
theorem raw_of {n : Nat} {x : List UInt8} (r : List UInt8) (h : x.length = n) : raw n (x ++ r) = some (x, r) := by
  unfold raw
  rw [if_neg (by rw [List.length_append]; omega), List.take_left' h, List.drop_left' h]
theorem Ext.num (n : Nat) : Ext (num n) := fun l v r m h => by
  obtain ⟨rfl, h1, h2⟩ := num_some h
  rw [List.append_assoc]
  exact num_of _ h1 h2
theorem Ext.raw (n : Nat) : Ext (raw n) := fun l v r m h => by
  obtain ⟨rfl, h1⟩ := raw_some h
  rw [List.append_assoc]
  exact raw_of _ h1
def many {α : Type} (p : Ps α) : Nat → Ps (List α)
  | 0 => Ps.ret []
  | n + 1 => p.bind fun a => (many p n).bind fun xs => Ps.ret (a :: xs)
theorem Ext.many {α : Type} {p : Ps α} (h : Ext p) : ∀ n, Ext (many p n)
  | 0 => Ext.ret _
  | n + 1 => Ext.bind h fun a => Ext.bind (Ext.many h n) fun xs => Ext.ret _
def pRow : Ps RowR := (num 8).bind fun b => (num 1).bind fun i => (num 1).bind fun s => (num 8).bind fun l => (num 8).bind fun n => Ps.ret ⟨b, i, s, l, n⟩
def pRec : Ps RecR := (num 1).bind fun p => (num 8).bind fun l => Ps.ret ⟨p, l⟩
theorem Ext.pRow : Ext pRow := Ext.bind (Ext.num _) fun _ => Ext.bind (Ext.num _) fun _ => Ext.bind (Ext.num _) fun _ => Ext.bind (Ext.num _) fun _ => Ext.bind (Ext.num _) fun _ => Ext.ret _
theorem Ext.pRec : Ext pRec := Ext.bind (Ext.num _) fun _ => Ext.bind (Ext.num _) fun _ => Ext.ret _
/-- what stands behind kind, birth and prev -/
def pTail (k b p : Nat) : Ps Rcd :=
  if k = 1 then (num 1).bind fun i => Ps.ret ⟨k, b, p, i, 0, 0, [], [], 0, [], []⟩
  else if k = 2 then (num 1).bind fun g => (num 2).bind fun f => (num 2).bind fun n => (raw n).bind fun x => (raw n).bind fun y => Ps.ret ⟨k, b, p, 0, g, f, x, y, 0, [], []⟩
  else if k = 3 then (num 1).bind fun g => (num 2).bind fun f => (num 2).bind fun n => (raw n).bind fun y => (num 8).bind fun z => Ps.ret ⟨k, b, p, 0, g, f, [], y, z, [], []⟩
  else if k = 7 then (num 1).bind fun n => (many pRow n).bind fun rs => (num 1).bind fun m => (many pRec m).bind fun ds => Ps.ret ⟨k, b, p, 0, 0, 0, [], [], 0, rs, ds⟩
  else Ps.ret ⟨k, b, p, 0, 0, 0, [], [], 0, [], []⟩
def pAll : Ps Rcd := (num 1).bind fun k => (num 8).bind fun b => (num 8).bind fun p => pTail k b p
theorem Ext.pTail (k b p : Nat) : Ext (pTail k b p) := by
  unfold Go.Proofs.Ytebcmcmboomgfaa.pTail
  split
  · exact Ext.bind (Ext.num _) fun _ => Ext.ret _
  split
  · exact Ext.bind (Ext.num _) fun _ => Ext.bind (Ext.num _) fun _ => Ext.bind (Ext.num _) fun _ => Ext.bind (Ext.raw _) fun _ => Ext.bind (Ext.raw _) fun _ => Ext.ret _
  split
  · exact Ext.bind (Ext.num _) fun _ => Ext.bind (Ext.num _) fun _ => Ext.bind (Ext.num _) fun _ => Ext.bind (Ext.raw _) fun _ => Ext.bind (Ext.num _) fun _ => Ext.ret _
  split
  · exact Ext.bind (Ext.num _) fun _ => Ext.bind (Ext.many Ext.pRow _) fun _ => Ext.bind (Ext.num _) fun _ => Ext.bind (Ext.many Ext.pRec _) fun _ => Ext.ret _
  · exact Ext.ret _
theorem Ext.pAll : Ext pAll := Ext.bind (Ext.num _) fun _ => Ext.bind (Ext.num _) fun _ => Ext.bind (Ext.num _) fun _ => Ext.pTail _ _ _
/-- the bytes -/
def rowB (x : RowR) : List UInt8 := putN 8 x.birth.toNat ++ (putN 1 x.id.toNat ++ (putN 1 x.state.toNat ++ (putN 8 x.last.toNat ++ putN 8 x.next.toNat)))
def recB (x : RecR) : List UInt8 := putN 1 x.page.toNat ++ putN 8 x.lsn.toNat
def flatB {α : Type} (f : α → List UInt8) : List α → List UInt8
  | [] => []
  | a :: r => f a ++ flatB f r
def tailB (r : Rcd) : List UInt8 :=
  if r.kind = 1 then putN 1 r.id.toNat
  else if r.kind = 2 then putN 1 r.page.toNat ++ (putN 2 r.frm.toNat ++ (putN 2 r.after.length ++ (r.before ++ r.after)))
  else if r.kind = 3 then putN 1 r.page.toNat ++ (putN 2 r.frm.toNat ++ (putN 2 r.after.length ++ (r.after ++ putN 8 r.next.toNat)))
  else if r.kind = 7 then putN 1 r.rows.length ++ (flatB rowB r.rows ++ (putN 1 r.dirty.length ++ flatB recB r.dirty))
  else []
def bytesR (r : Rcd) : List UInt8 := putN 1 r.kind.toNat ++ (putN 8 r.birth.toNat ++ (putN 8 r.prev.toNat ++ tailB r))
theorem many_some {α : Type} {p : Ps α} {f : α → List UInt8} (h : ∀ l a r, p l = some (a, r) → l = f a ++ r) : ∀ (n : Nat) (l : List UInt8) (xs : List α) (r : List UInt8), many p n l = some (xs, r) → l = flatB f xs ++ r ∧ xs.length = n
  | 0, l, xs, r, e => by
    simp [many, Ps.ret] at e
    obtain ⟨rfl, rfl⟩ := e
    exact ⟨rfl, rfl⟩
  | n + 1, l, xs, r, e => by
    obtain ⟨a, r1, e1, e2⟩ := Ps.bind_some.1 e
    obtain ⟨bs, r2, e3, e4⟩ := Ps.bind_some.1 e2
    simp [Ps.ret] at e4
    obtain ⟨rfl, rfl⟩ := e4
    obtain ⟨rfl, h2⟩ := many_some h n r1 bs r2 e3
    have := h l a _ e1
    subst this
    exact ⟨by simp [flatB], by simp [h2]⟩
theorem many_of {α : Type} {p : Ps α} {f : α → List UInt8} : ∀ (xs : List α) (r : List UInt8), (∀ a ∈ xs, ∀ r, p (f a ++ r) = some (a, r)) → many p xs.length (flatB f xs ++ r) = some (xs, r)
  | [], r, h => rfl
  | a :: xs, r, h => by
    show (p.bind fun a => (many p xs.length).bind fun xs => Ps.ret (a :: xs)) (f a ++ flatB f xs ++ r) = _
    rw [List.append_assoc, Ps.bind_of (h a (by simp) _), Ps.bind_of (many_of xs r fun b hb => h b (by simp [hb]))]
    rfl
theorem pRow_some {l r : List UInt8} {x : RowR} (h : pRow l = some (x, r)) : l = rowB x ++ r := by
  obtain ⟨a1, r1, e1, h⟩ := Ps.bind_some.1 h
  obtain ⟨a2, r2, e2, h⟩ := Ps.bind_some.1 h
  obtain ⟨a3, r3, e3, h⟩ := Ps.bind_some.1 h
  obtain ⟨a4, r4, e4, h⟩ := Ps.bind_some.1 h
  obtain ⟨a5, r5, e5, h⟩ := Ps.bind_some.1 h
  simp [Ps.ret] at h
  obtain ⟨rfl, rfl⟩ := h
  rw [(num_some e1).1, (num_some e2).1, (num_some e3).1, (num_some e4).1, (num_some e5).1]
  simp [rowB]
theorem pRec_some {l r : List UInt8} {x : RecR} (h : pRec l = some (x, r)) : l = recB x ++ r := by
  obtain ⟨a1, r1, e1, h⟩ := Ps.bind_some.1 h
  obtain ⟨a2, r2, e2, h⟩ := Ps.bind_some.1 h
  simp [Ps.ret] at h
  obtain ⟨rfl, rfl⟩ := h
  rw [(num_some e1).1, (num_some e2).1]
  simp [recB]
theorem num_int {n : Nat} {z : Int} (r : List UInt8) (h0 : 0 ≤ z) (h1 : z ≤ 1152921504606846976) (h2 : z < 256 ^ n) : num n (putN n z.toNat ++ r) = some (z.toNat, r) := by
  refine num_of r (by unfold topLsn; omega) ?_
  have : ((z.toNat : Nat) : Int) < ((256 ^ n : Nat) : Int) := by rw [Int.toNat_of_nonneg h0]; simpa using h2
  exact Int.ofNat_lt.1 this
theorem pRow_of {x : RowR} (h : rowOk x) (r : List UInt8) : pRow (rowB x ++ r) = some (x, r) := by
  obtain ⟨⟨a1, a2⟩, ⟨b1, b2⟩, c1, ⟨d1, d2⟩, e1, e2⟩ := h
  have hs : 1 ≤ x.state ∧ x.state ≤ 2 := by rcases c1 with c | c <;> omega
  unfold rowB pRow
  simp only [List.append_assoc]
  rw [Ps.bind_of (num_int _ (by omega) a2 (by omega)), Ps.bind_of (num_int _ (by omega) (by omega) (by omega)), Ps.bind_of (num_int _ (by omega) (by omega) (by omega)), Ps.bind_of (num_int _ (by omega) d2 (by omega)), Ps.bind_of (num_int _ (by omega) e2 (by omega))]
  unfold Ps.ret
  rw [Int.toNat_of_nonneg (by omega), Int.toNat_of_nonneg (by omega), Int.toNat_of_nonneg (by omega), Int.toNat_of_nonneg (by omega), Int.toNat_of_nonneg (by omega)]
theorem pRec_of {x : RecR} (h : recOk x) (r : List UInt8) : pRec (recB x ++ r) = some (x, r) := by
  obtain ⟨⟨a1, a2⟩, b1, b2⟩ := h
  unfold recB pRec
  simp only [List.append_assoc]
  rw [Ps.bind_of (num_int _ (by omega) (by omega) (by omega)), Ps.bind_of (num_int _ (by omega) b2 (by omega))]
  unfold Ps.ret
  rw [Int.toNat_of_nonneg (by omega), Int.toNat_of_nonneg (by omega)]
theorem pTail_some {k b p : Nat} {l r : List UInt8} {x : Rcd} (h : pTail k b p l = some (x, r)) : l = tailB x ++ r ∧ x.kind = k ∧ x.birth = b ∧ x.prev = p := by
  unfold pTail at h
  split at h
  · rename_i hk
    obtain ⟨a1, r1, e1, h⟩ := Ps.bind_some.1 h
    simp [Ps.ret] at h
    obtain ⟨rfl, rfl⟩ := h
    subst hk
    rw [(num_some e1).1]
    simp [tailB]
  split at h
  · rename_i hk
    obtain ⟨a1, r1, e1, h⟩ := Ps.bind_some.1 h
    obtain ⟨a2, r2, e2, h⟩ := Ps.bind_some.1 h
    obtain ⟨a3, r3, e3, h⟩ := Ps.bind_some.1 h
    obtain ⟨a4, r4, e4, h⟩ := Ps.bind_some.1 h
    obtain ⟨a5, r5, e5, h⟩ := Ps.bind_some.1 h
    simp [Ps.ret] at h
    obtain ⟨rfl, rfl⟩ := h
    subst hk
    rw [(num_some e1).1, (num_some e2).1, (num_some e3).1, (raw_some e4).1, (raw_some e5).1, ← (raw_some e5).2]
    simp [tailB]
  split at h
  · rename_i hk
    obtain ⟨a1, r1, e1, h⟩ := Ps.bind_some.1 h
    obtain ⟨a2, r2, e2, h⟩ := Ps.bind_some.1 h
    obtain ⟨a3, r3, e3, h⟩ := Ps.bind_some.1 h
    obtain ⟨a4, r4, e4, h⟩ := Ps.bind_some.1 h
    obtain ⟨a5, r5, e5, h⟩ := Ps.bind_some.1 h
    simp [Ps.ret] at h
    obtain ⟨rfl, rfl⟩ := h
    subst hk
    rw [(num_some e1).1, (num_some e2).1, (num_some e3).1, (raw_some e4).1, (num_some e5).1, ← (raw_some e4).2]
    simp [tailB]
  split at h
  · rename_i hk
    obtain ⟨a1, r1, e1, h⟩ := Ps.bind_some.1 h
    obtain ⟨a2, r2, e2, h⟩ := Ps.bind_some.1 h
    obtain ⟨a3, r3, e3, h⟩ := Ps.bind_some.1 h
    obtain ⟨a4, r4, e4, h⟩ := Ps.bind_some.1 h
    simp [Ps.ret] at h
    obtain ⟨rfl, rfl⟩ := h
    subst hk
    have m1 := many_some (fun l a r e => pRow_some e) _ _ _ _ e2
    have m2 := many_some (fun l a r e => pRec_some e) _ _ _ _ e4
    rw [(num_some e1).1, m1.1, (num_some e3).1, m2.1, ← m1.2, ← m2.2]
    simp [tailB]
  · simp [Ps.ret] at h
    obtain ⟨rfl, rfl⟩ := h
    refine ⟨?_, rfl, rfl, rfl⟩
    unfold tailB
    rw [if_neg (by simp; omega), if_neg (by simp; omega), if_neg (by simp; omega), if_neg (by simp; omega)]
    rfl
theorem pAll_some {l r : List UInt8} {x : Rcd} (h : pAll l = some (x, r)) : l = bytesR x ++ r := by
  obtain ⟨a1, r1, e1, h⟩ := Ps.bind_some.1 h
  obtain ⟨a2, r2, e2, h⟩ := Ps.bind_some.1 h
  obtain ⟨a3, r3, e3, h⟩ := Ps.bind_some.1 h
  obtain ⟨h1, h2, h3, h4⟩ := pTail_some h
  rw [(num_some e1).1, (num_some e2).1, (num_some e3).1, h1]
  unfold bytesR
  rw [h2, h3, h4]
  simp
theorem pTail_of {x : Rcd} (h : x.Right) (r : List UInt8) : pTail x.kind.toNat x.birth.toNat x.prev.toNat (tailB x ++ r) = some (x, r) := by
  obtain ⟨⟨k1, k2⟩, hb, hi, hl, hn, hr, hp⟩ := h
  obtain ⟨kind, birth, prev, id, page, frm, before, after, next, rows, dirty⟩ := x
  simp only at k1 k2 hb hi hl hn hr hp
  have hbp : 0 ≤ birth ∧ 0 ≤ prev := by
    split at hb
    · omega
    · obtain ⟨⟨a, _⟩, b, _⟩ := hb; omega
  have eB : ((birth.toNat : Nat) : Int) = birth := Int.toNat_of_nonneg hbp.1
  have eP : ((prev.toNat : Nat) : Int) = prev := Int.toNat_of_nonneg hbp.2
  unfold pTail tailB
  simp only
  by_cases h1 : kind = 1
  · subst h1
    simp at hi hl hn hr hp
    obtain ⟨rfl, rfl⟩ := hl
    obtain ⟨rfl, rfl, rfl⟩ := hr
    subst hn hp
    simp only [Int.toNat_one, if_true]
    rw [Ps.bind_of (num_int _ (by omega) (by omega) (by omega))]
    unfold Ps.ret
    rw [eB, eP, Int.toNat_of_nonneg (by omega)]
    rfl
  by_cases h2 : kind = 2
  · subst h2
    simp [rangedOk, partsOk] at hi hl hn hr hp
    obtain ⟨rfl, rfl⟩ := hl
    subst hi hn
    obtain ⟨⟨p1, p2⟩, ⟨n1, n2⟩, f1, f2⟩ := hr
    have e2 : ((2 : Int).toNat) = 2 := rfl
    simp only [e2]
    rw [if_neg (by decide), if_pos (by trivial), if_neg (by decide), if_pos (by trivial)]
    simp only [List.append_assoc]
    rw [Ps.bind_of (num_int _ (by omega) (by omega) (by omega)), Ps.bind_of (num_int _ (by omega) (by omega) (by omega)), Ps.bind_of (num_of _ (by unfold topLsn; omega) (by omega)), Ps.bind_of (raw_of _ hp.1), Ps.bind_of (raw_of _ rfl)]
    unfold Ps.ret
    rw [eB, eP, Int.toNat_of_nonneg (by omega), Int.toNat_of_nonneg (by omega)]
    rfl
  by_cases h3 : kind = 3
  · subst h3
    simp [rangedOk, nextOk] at hi hl hn hr hp
    obtain ⟨rfl, rfl⟩ := hl
    subst hi hp
    obtain ⟨⟨p1, p2⟩, ⟨n1, n2⟩, f1, f2⟩ := hr
    have e3 : ((3 : Int).toNat) = 3 := rfl
    simp only [e3]
    rw [if_neg (by decide), if_neg (by decide), if_pos (by trivial), if_neg (by decide), if_neg (by decide), if_pos (by trivial)]
    simp only [List.append_assoc]
    rw [Ps.bind_of (num_int _ (by omega) (by omega) (by omega)), Ps.bind_of (num_int _ (by omega) (by omega) (by omega)), Ps.bind_of (num_of _ (by unfold topLsn; omega) (by omega)), Ps.bind_of (raw_of _ rfl), Ps.bind_of (num_int _ (by omega) hn.2 (by omega))]
    unfold Ps.ret
    rw [eB, eP, Int.toNat_of_nonneg (by omega), Int.toNat_of_nonneg (by omega), Int.toNat_of_nonneg (by omega)]
    rfl
  by_cases h7 : kind = 7
  · subst h7
    simp [listsOk] at hi hl hn hr hp
    obtain ⟨rfl, rfl, rfl⟩ := hr
    subst hi hn hp
    obtain ⟨⟨l1, l2⟩, ⟨o1, -⟩, o2, -⟩ := hl
    have e7 : ((7 : Int).toNat) = 7 := rfl
    simp only [e7]
    rw [if_neg (by decide), if_neg (by decide), if_neg (by decide), if_pos (by trivial), if_neg (by decide), if_neg (by decide), if_neg (by decide), if_pos (by trivial)]
    simp only [List.append_assoc]
    rw [Ps.bind_of (num_of _ (by unfold topLsn; omega) (by omega)), Ps.bind_of (many_of (f := rowB) rows _ fun a ha r => pRow_of (o1 a ha) r), Ps.bind_of (num_of _ (by unfold topLsn; omega) (by omega)), Ps.bind_of (many_of (f := recB) dirty _ fun a ha r => pRec_of (o2 a ha) r)]
    unfold Ps.ret
    rw [eB, eP]
    rfl
  · simp [h1, h2, h3, h7] at hi hl hn hr hp
    obtain ⟨rfl, rfl⟩ := hl
    obtain ⟨rfl, rfl, rfl⟩ := hr
    subst hi hn hp
    rw [if_neg (by omega), if_neg (by omega), if_neg (by omega), if_neg (by omega), if_neg h1, if_neg h2, if_neg h3, if_neg h7]
    unfold Ps.ret
    rw [eB, eP, Int.toNat_of_nonneg (by omega)]
    rfl
theorem pAll_of {x : Rcd} (h : x.Right) (r : List UInt8) : pAll (bytesR x ++ r) = some (x, r) := by
  have ht := pTail_of h r
  obtain ⟨⟨k1, k2⟩, hb, -⟩ := h
  have hbp : (0 ≤ x.birth ∧ x.birth ≤ 1152921504606846976) ∧ 0 ≤ x.prev ∧ x.prev ≤ 1152921504606846976 := by
    split at hb
    · omega
    · obtain ⟨⟨a, a2⟩, b, b2⟩ := hb; omega
  unfold bytesR pAll
  simp only [List.append_assoc]
  rw [Ps.bind_of (num_int _ (by omega) (by omega) (by omega)), Ps.bind_of (num_int _ (by omega) (by omega) (by omega)), Ps.bind_of (num_int _ (by omega) (by omega) (by omega))]
  exact ht
open Classical in
/-- the right record whose bytes these are -/
noncomputable def parseR (l : List UInt8) : Option Rcd := match pAll l with
  | some (r, []) => if r.Right then some r else none
  | _ => none
theorem parseR_some {l : List UInt8} {r : Rcd} (h : parseR l = some r) : pAll l = some (r, []) ∧ r.Right ∧ l = bytesR r := by
  unfold parseR at h
  split at h
  · rename_i r' e
    split at h
    · rename_i hr
      cases h
      have := pAll_some e
      simp at this
      exact ⟨e, hr, this⟩
    · cases h
  · cases h
theorem parseR_of {r : Rcd} (h : r.Right) : parseR (bytesR r) = some r := by
  have := pAll_of h []
  rw [List.append_nil] at this
  unfold parseR
  rw [this]
  simp [h]
/-- one form -/
theorem bytesR_inj {r s : Rcd} (hr : r.Right) (hs : s.Right) (h : bytesR r = bytesR s) : r = s := by
  have := parseR_of hr
  rw [h, parseR_of hs] at this
  exact (Option.some.inj this).symm
/-- no shorter beginning, and not with a byte more -/
theorem parseR_cut {r : Rcd} (h : r.Right) {i : Nat} (hi : i < (bytesR r).length) : parseR ((bytesR r).take i) = none := by
  cases e : parseR ((bytesR r).take i) with
  | none => rfl
  | some s =>
    obtain ⟨h1, -, -⟩ := parseR_some e
    have h2 := Ext.pAll _ _ _ ((bytesR r).drop i) h1
    rw [List.take_append_drop] at h2
    have h3 := pAll_of h []
    rw [List.append_nil, h2] at h3
    simp at h3
    omega
theorem parseR_more {r : Rcd} (h : r.Right) (m : List UInt8) (hm : m ≠ []) : parseR (bytesR r ++ m) = none := by
  unfold parseR
  rw [pAll_of h m]
  cases m with
  | nil => exact absurd rfl hm
  | cons a t => rfl
end Go.Proofs.Ytebcmcmboomgfaa

/-
  OWN WORK. Plain arithmetic: numbers as bytes, the lowest first.
-/
namespace Go.Proofs.Ytebcmcmboomgfaa
set_option linter.unusedVariables false

/-- the number that these bytes are -/
def low : List UInt8 → Nat
  | [] => 0
  | x :: r => x.toNat + 256 * low r
/-- n bytes of a number, the lowest first -/
def lay (n v : Nat) : List UInt8 := (List.range n).map fun i => UInt8.ofNat (v / 256 ^ i)

theorem low_lt (l : List UInt8) : low l < 256 ^ l.length := by
  induction l with
  | nil => simp [low]
  | cons x r ih =>
    have := x.toNat_lt
    simp only [low, List.length_cons, Nat.pow_succ]
    omega
theorem low_append (a b : List UInt8) : low (a ++ b) = low a + 256 ^ a.length * low b := by
  induction a with
  | nil => simp [low]
  | cons x r ih =>
    simp only [List.cons_append, low, ih, List.length_cons, Nat.pow_succ, Nat.mul_add]
    rw [Nat.mul_comm (256 ^ r.length) 256, Nat.mul_assoc]
    omega
theorem low_take (l : List UInt8) (k : Nat) (h : k < l.length) : low (l.take (k + 1)) = low (l.take k) + l[k].toNat * 256 ^ k := by
  rw [List.take_succ_eq_append_getElem h, low_append]
  have : (l.take k).length = k := by simp; omega
  rw [this]
  simp [low, Nat.mul_comm]
theorem low_take_lt (l : List UInt8) (k : Nat) (h : k ≤ l.length) : low (l.take k) < 256 ^ k := by
  have := low_lt (l.take k)
  rwa [show (l.take k).length = k by simp; omega] at this
theorem pow256 (k : Nat) : 256 ^ k = 2 ^ (8 * k) := by rw [Nat.pow_mul]
theorem low_lt64 (l : List UInt8) (h : l.length ≤ 8) : low l < 18446744073709551616 := by
  have h1 := low_lt l
  have h2 : 256 ^ l.length ≤ 256 ^ 8 := Nat.pow_le_pow_right (by omega) h
  have h3 : 256 ^ 8 = 18446744073709551616 := by decide
  omega

theorem bits_or_u64_nat (a b : Nat) (ha : a < 18446744073709551616) (hb : b < 18446744073709551616) :
    bits .or .u64 (a : Int) (b : Int) = ((a ||| b : Nat) : Int) := by
  have hx : a ||| b < 2 ^ 64 := Nat.or_lt_two_pow (by omega) (by omega)
  have h1 : (BitVec.ofInt 64 (a : Int)).toNat = a := by
    rw [BitVec.ofInt_natCast, BitVec.toNat_ofNat]; exact Nat.mod_eq_of_lt (by omega)
  have h2 : (BitVec.ofInt 64 (b : Int)).toNat = b := by
    rw [BitVec.ofInt_natCast, BitVec.toNat_ofNat]; exact Nat.mod_eq_of_lt (by omega)
  show IntKind.u64.wrap ((BitVec.ofInt 64 (a : Int) ||| BitVec.ofInt 64 (b : Int)).toNat : Int) = _
  rw [BitVec.toNat_or, h1, h2, IntKind.wrap_u64]
  omega
theorem bits_and_u64_nat (a b : Nat) (ha : a < 18446744073709551616) (hb : b < 18446744073709551616) :
    bits .and .u64 (a : Int) (b : Int) = ((a &&& b : Nat) : Int) := by
  have hx : a &&& b < 2 ^ 64 := Nat.and_lt_two_pow _ (by omega)
  have h1 : (BitVec.ofInt 64 (a : Int)).toNat = a := by
    rw [BitVec.ofInt_natCast, BitVec.toNat_ofNat]; exact Nat.mod_eq_of_lt (by omega)
  have h2 : (BitVec.ofInt 64 (b : Int)).toNat = b := by
    rw [BitVec.ofInt_natCast, BitVec.toNat_ofNat]; exact Nat.mod_eq_of_lt (by omega)
  show IntKind.u64.wrap ((BitVec.ofInt 64 (a : Int) &&& BitVec.ofInt 64 (b : Int)).toNat : Int) = _
  rw [BitVec.toNat_and, h1, h2, IntKind.wrap_u64]
  omega

/-- one byte more, from above: 'v |= uint64(x) << (8 * i)' -/
theorem or_byte (a k : Nat) (x : UInt8) (h : a < 256 ^ k) (hk : k < 8) :
    bits .or .u64 (a : Int) (IntKind.u64.wrap (IntKind.u64.wrap (x.toNat : Int) * 2 ^ (8 * k))) = ((a + x.toNat * 256 ^ k : Nat) : Int) := by
  have hx := x.toNat_lt
  have h1 : IntKind.u64.wrap (x.toNat : Int) = (x.toNat : Int) := by rw [IntKind.wrap_u64]; omega
  have hp : 256 ^ (k + 1) ≤ 256 ^ 8 := Nat.pow_le_pow_right (by omega) (by omega)
  have h8 : 256 ^ 8 = 18446744073709551616 := by decide
  have hpk : 0 < 256 ^ k := Nat.pow_pos (by omega)
  have hm : x.toNat * 256 ^ k ≤ 255 * 256 ^ k := Nat.mul_le_mul_right _ (by omega)
  have hs : 256 ^ (k + 1) = 256 ^ k * 256 := Nat.pow_succ ..
  have h2 : IntKind.u64.wrap ((x.toNat : Int) * 2 ^ (8 * k)) = ((x.toNat * 256 ^ k : Nat) : Int) := by
    have e : ((x.toNat : Int) * 2 ^ (8 * k)) = ((x.toNat * 256 ^ k : Nat) : Int) := by rw [pow256]; simp
    rw [e, IntKind.wrap_u64]
    omega
  rw [h1, h2, bits_or_u64_nat _ _ (by omega) (by omega)]
  have := Nat.two_pow_add_eq_or_of_lt (i := 8 * k) (b := a) (by rw [← pow256]; exact h) x.toNat
  rw [Nat.or_comm, Nat.mul_comm, pow256, ← this, Nat.add_comm]
theorem low_or (l : List UInt8) (k : Nat) (h : k < l.length) (h8 : l.length ≤ 8) :
    bits .or .u64 (low (l.take k) : Int) (IntKind.u64.wrap (IntKind.u64.wrap (l[k].toNat : Int) * 2 ^ (8 * k))) = (low (l.take (k + 1)) : Int) := by
  rw [or_byte _ _ _ (low_take_lt l k (by omega)) (by omega), low_take l k h]

theorem lay_length (n v : Nat) : (lay n v).length = n := by simp [lay]
theorem lay_succ (n v : Nat) : lay (n + 1) v = lay n v ++ [UInt8.ofNat (v / 256 ^ n)] := by simp [lay, List.range_succ]
theorem lay_zero (v : Nat) : lay 0 v = [] := rfl
theorem low_lay (n v : Nat) : low (lay n v) = v % 256 ^ n := by
  induction n with
  | zero => simp [lay, low, Nat.mod_one]
  | succ n ih =>
    rw [lay_succ, low_append, ih, lay_length]
    simp only [low, Nat.mul_zero, Nat.add_zero, UInt8.toNat_ofNat']
    have e : v % 256 ^ (n + 1) = v % 256 ^ n + 256 ^ n * (v / 256 ^ n % 256) := by rw [Nat.pow_succ, Nat.mod_mul]
    rw [e]
theorem lay_cons (n v : Nat) : lay (n + 1) v = UInt8.ofNat v :: lay n (v / 256) := by
  simp only [lay, List.range_succ_eq_map, List.map_cons, List.map_map]
  simp only [Nat.pow_zero, Nat.div_one]
  congr 1
  apply List.map_congr_left
  intro i _
  simp only [Function.comp]
  rw [Nat.div_div_eq_div_mul, Nat.pow_succ, Nat.mul_comm]
theorem byte_of (x k : Nat) : (x : Int) / 2 ^ (8 * k) % 256 = ((UInt8.ofNat (x / 256 ^ k)).toNat : Int) := by
  rw [UInt8.toNat_ofNat', pow256]
  have : ((2 : Int) ^ (8 * k)) = ((2 ^ (8 * k) : Nat) : Int) := by simp
  rw [this]
  generalize 2 ^ (8 * k) = m
  rw [← Int.natCast_ediv]
  show ((x / m : Nat) : Int) % ((256 : Nat) : Int) = _
  rw [← Int.natCast_emod]
theorem wrap_u8 {x : Nat} (h : x < 256 ^ 1) : IntKind.u8.wrap (x : Int) = (x : Int) := by
  simp only [IntKind.wrap, IntKind.bits, IntKind.signed]
  have : 256 ^ 1 = 256 := by decide
  simp
  omega
theorem wrap_u16 {x : Nat} (h : x < 256 ^ 2) : IntKind.u16.wrap (x : Int) = (x : Int) := by
  simp only [IntKind.wrap, IntKind.bits, IntKind.signed]
  have : 256 ^ 2 = 65536 := by decide
  simp
  omega
theorem wrap_u32 {x : Nat} (h : x < 256 ^ 4) : IntKind.u32.wrap (x : Int) = (x : Int) := by
  simp only [IntKind.wrap, IntKind.bits, IntKind.signed]
  have : 256 ^ 4 = 4294967296 := by decide
  simp
  omega
theorem byte_mod (z : Nat) : (z : Int) % 256 = ((UInt8.ofNat z).toNat : Int) := by
  rw [UInt8.toNat_ofNat']
  omega
theorem low_drop (l : List UInt8) (j : Nat) (h : j < l.length) : low (l.drop j) = l[j].toNat + 256 * low (l.drop (j + 1)) := by
  rw [List.drop_eq_getElem_cons h, low]
theorem get_step (z : Nat) (x : UInt8) (h : x.toNat + 256 * z < 18446744073709551616) :
    IntKind.u64.wrap (IntKind.u64.wrap ((z : Int) * 256) + IntKind.u64.wrap (x.toNat : Int)) = ((x.toNat + 256 * z : Nat) : Int) := by
  rw [IntKind.wrap_u64, IntKind.wrap_u64, IntKind.wrap_u64]
  omega
theorem div_step (z : Nat) (h : z < 18446744073709551616) : IntKind.u64.wrap ((z : Int) / 256) = ((z / 256 : Nat) : Int) := by
  rw [IntKind.wrap_u64]
  omega
theorem get_bound (l : List UInt8) (n j : Nat) (hl : n ≤ l.length) (hj : j < n) (h8 : n ≤ 8) : low ((l.take n).drop j) = l[j].toNat + 256 * low ((l.take n).drop (j + 1)) ∧ low ((l.take n).drop j) < 18446744073709551616 := by
  have hlen : (l.take n).length = n := by simp; omega
  refine ⟨?_, low_lt64 _ (by simp; omega)⟩
  rw [low_drop _ j (by omega)]
  simp
/-- 'v & (1<<(8*width) - 1)' -/
theorem and_mask (x n : Nat) (hx : x < 18446744073709551616) (h8 : n ≤ 8) : bits .and .u64 (x : Int) ((256 ^ n - 1 : Nat) : Int) = ((x % 256 ^ n : Nat) : Int) := by
  have h2 : 256 ^ n ≤ 256 ^ 8 := Nat.pow_le_pow_right (by omega) h8
  have h3 : 256 ^ 8 = 18446744073709551616 := by decide
  have h4 : 0 < 256 ^ n := Nat.pow_pos (by decide)
  rw [bits_and_u64_nat _ _ hx (by omega), pow256, Nat.and_two_pow_sub_one_eq_mod]
theorem low_lay_lt (n m : Nat) (h : m < 256 ^ n) : low (lay n m) = m := by rw [low_lay, Nat.mod_eq_of_lt h]
theorem low_lay_take (n m : Nat) (h : m < 256 ^ n) : low ((lay n m).take n) = m := by
  rw [List.take_of_length_le (by rw [lay_length]; omega)]
  exact low_lay_lt n m h
theorem take_left {α : Type} (a b : List α) : (a ++ b).take a.length = a := by simp
theorem drop_left {α : Type} (a b : List α) : (a ++ b).drop a.length = b := by simp
end Go.Proofs.Ytebcmcmboomgfaa

/-
  OWN WORK. copy into a part of an owned row; a byte list laid over another.
-/
namespace Go.Proofs.Ytebcmcmboomgfaa
open Go.RowKit
set_option linter.unusedVariables false

/-- r laid over L from the place off on -/
def over (L : List UInt8) (off : Nat) (r : List UInt8) : List UInt8 := L.take off ++ (r ++ L.drop (off + r.length))
theorem over_length (L : List UInt8) (off : Nat) (r : List UInt8) (h : off + r.length ≤ L.length) : (over L off r).length = L.length := by simp [over]; omega
theorem over_nil (L : List UInt8) (off : Nat) : over L off [] = L := by simp [over]
theorem over_at (L : List UInt8) (off : Nat) (r : List UInt8) (h : off + r.length ≤ L.length) (i : Nat) : (over L off r)[i]? = if off ≤ i ∧ i < off + r.length then r[i - off]? else L[i]? := by
  unfold over
  by_cases h1 : i < off
  · rw [List.getElem?_append_left (by simp; omega), List.getElem?_take, if_pos h1, if_neg (by omega)]
  · rw [List.getElem?_append_right (by simp; omega)]
    have e : (L.take off).length = off := by simp; omega
    rw [e]
    by_cases h2 : i < off + r.length
    · rw [List.getElem?_append_left (by omega), if_pos ⟨by omega, h2⟩]
    · rw [List.getElem?_append_right (by omega), List.getElem?_drop, if_neg (by omega)]
      congr 1; omega
/-- 'copy(out[off:..], b)': out the call's own row; what is cut is at least as long as b. -/
theorem wpList_copy_part {P : Program} {w : World} {ops : Array Oper} {rest : List Oper} {o : Oper} {a : Act} {Q : Exit → Act → World → Prop} (hgd : o.guard = none) (d s : Operand) (t : TypeId)
    (ho : o.op = .call { callee := .builtin .copy, args := #[d, s], argTypes := #[t, t] }) (base : Nat) (e : TypeId) (hu : P.underlying t = some (.slice e))
    (hsz : (P.info? e).map (·.size) = some 1)
    (v : Value) (n : Nat) (L : List UInt8) (hown : w.ownsRow base e 1 v n (u8s L)) (off : Nat) (dp : Option Addr) (dLen dCap : Nat) (hd : a.eval d = .slice dp dLen dCap)
    (hdp : 0 < dLen → ∃ g, v.ownBlock = some g ∧ dp = some ⟨g, off, none⟩) (sv : Value) (r : List UInt8) (hx : a.eval s = sv) (hb : Bs w sv r) (hr : r.length ≤ dLen) (hfit : off + dLen ≤ n)
    (h : ∀ w', w'.ownsRow base e 1 v n (u8s (over L off r)) → w.grownBy w' v.ownBlock → wpList P ops Q rest (a.put o.dst (goInt r.length)) w') : wpList P ops Q (o :: rest) a w := by
  obtain ⟨p, c, rfl, h1, h2, h3, h4⟩ := hb
  by_cases h0 : r.length = 0
  · obtain rfl : r = [] := List.eq_nil_of_length_eq_zero h0
    refine wpList_copy_nothing hgd d s t t ho e hu hsz dp p dLen dCap 0 c hd hx (by simp) ?_
    exact h w (by rw [over_nil]; exact hown) (World.grownBy.refl _ _)
  · obtain ⟨g, hgv, rfl⟩ := hdp (by omega)
    cases p with
    | none => have := h3 rfl; omega
    | some ad =>
      have hn : n = L.length := by have := hown.1; rw [u8s_length] at this; omega
      subst hn
      rcases hown.2 with ⟨rfl, hz⟩ | ⟨g', cap, cur, rfl, hbg, hg, hnc, hcm, hcs, htk⟩
      · simp [Value.ownBlock] at hgv
      · have e1 : g' = g := by simpa [Value.ownBlock] using hgv
        subst e1
        refine wpList_copy_own hgd d s t t ho e hu hsz g' off dLen dCap ad r.length c hd hx cur e hg (u8s r) (by rw [u8s_length]; simp [Nat.min_def]; omega) (fun j u hj => by obtain ⟨y, hy, rfl⟩ := u8s_at hj; exact h4 ad rfl j y hy) (by rw [u8s_length]; omega) (u8s_one r) ?_
        rw [u8s_length]
        have hgl : g' < w.heap.size := (Array.getElem?_eq_some_iff.1 hg).1
        refine h _ ⟨by rw [u8s_length, over_length _ _ _ (by omega)]; omega, .inr ⟨g', cap, _, rfl, hbg, setRow_heap w g' cur _ e (0, 0) hg, hnc, hcm, ?_, ?_⟩⟩ ⟨rfl, rfl, rfl, by simp [World.setRow], fun k hk hne => setRow_other w g' k _ (by intro e2; subst e2; exact hne rfl)⟩
        · simp [u8s_length]; omega
        · simp only [Nat.mul_one] at htk ⊢
          have hT : cur.toList.take L.length = u8s L := htk
          have hsz' : cur.toList.length = cap := by simp [hcs]
          apply List.ext_getElem?
          intro j
          have hcur : ∀ j, j < L.length → cur.toList[j]? = (u8s L)[j]? := fun j hj => by rw [← hT, List.getElem?_take, if_pos hj]
          by_cases hj : j < L.length
          · rw [List.getElem?_take, if_pos hj]
            have e3 : (u8s (over L off r))[j]? = if off ≤ j ∧ j < off + r.length then (u8s r)[j - off]? else (u8s L)[j]? := by
              simp only [u8s, List.getElem?_map, over_at L off r (by omega) j]
              split <;> rfl
            rw [e3]
            by_cases c1 : j < off
            · rw [List.getElem?_append_left (by simp; omega), List.getElem?_take, if_pos c1, if_neg (by omega), hcur j hj]
            · rw [List.getElem?_append_right (by simp; omega)]
              have e4 : (cur.toList.take off).length = off := by simp; omega
              rw [e4]
              by_cases c2 : j < off + r.length
              · rw [List.getElem?_append_left (by rw [u8s_length]; omega), if_pos ⟨by omega, c2⟩]
              · rw [List.getElem?_append_right (by rw [u8s_length]; omega), List.getElem?_drop, if_neg (by omega), u8s_length, ← hcur j hj]
                congr 1; omega
          · rw [List.getElem?_eq_none (by simp; omega), List.getElem?_eq_none (by rw [u8s_length, over_length _ _ _ (by omega)]; omega)]
end Go.Proofs.Ytebcmcmboomgfaa

/-
  OWN WORK. append onto an owned row, telling whether the old row was left alone.
-/
namespace Go.Proofs.Ytebcmcmboomgfaa
open Go.RowKit
set_option linter.unusedVariables false

theorem run_append_own2 {P : Program} (w : World) (base : Nat) (t ty e : TypeId) (i : TypeInfo) (z : Value) (bytes : Nat) (ht : P.underlying t = some (.slice e)) (hi : P.info? e = some i) (hz : i.zero = some z) (hsize : i.size = 1) (hby : i.bytes = bytes) (hzs : z.cells.size = 1)
    (v : Value) (n : Nat) (xs : List Value) (hown : w.ownsRow base e 1 v n xs) (a : Addr) (m c : Nat) (news : List Value) (hl : news.length = m) (hnews : ∀ j u, news[j]? = some u → w.cell? (a.add j) = some u) (h1 : ∀ u ∈ news, u.oneCell' = true)
    (h63 : n + m ≤ maxLen) (hbytes : (n + m) * bytes ≤ 140737488355328) (hbase : base ≤ w.heap.size) :
    ∃ v' w', (Builtin.append_ #[t, t] ty #[v, .slice (some a) m c]).run P w = .ok v' w' ∧ w'.ownsRow base e 1 v' (n + m) (xs ++ news) ∧ w.grownBy w' v.ownBlock ∧ (v'.ownBlock = v.ownBlock ∨ (v'.ownBlock = some w.heap.size ∧ w.grownBy w' none)) := by
  obtain ⟨v', w', hr, h2, h3, _, h5⟩ := run_append_own_at (P := P) w base t ty e i z 1 bytes ht hi hz hsize hby hzs (by decide) v n xs hown a m c news (by omega) hnews h1 h63 hbytes hbase
  refine ⟨v', w', hr, h2, h3, ?_⟩
  rcases h5 with h5 | h5
  · exact .inl h5
  · right
    refine ⟨h5, ?_⟩
    rcases id hown.2 with ⟨rfl, rfl⟩ | ⟨g, cap, cur, rfl, hbg, hg, hnc, hcm, hcs, htake⟩
    · exact h3
    · have hgl : g < w.heap.size := (Array.getElem?_eq_some_iff.1 hg).1
      by_cases hroom : n + m ≤ cap
      · have hfit : n * i.size + news.length ≤ cur.size := by rw [hsize, hl, hcs]; omega
        have hr2 := run_append_room (P := P) w t ty e i ht hi g n cap cur hg a m c news (by rw [hsize]; omega) hnews h1 hroom hfit
        rw [hr] at hr2
        obtain ⟨rfl, rfl⟩ : v' = _ ∧ w' = _ := by simpa using hr2
        simp [Value.ownBlock] at h5
        omega
      · have holds : ∀ j u, xs[j]? = some u → w.cell? ((⟨g, 0, none⟩ : Addr).add j) = some u := hown.cells (g := g) rfl
        have hxl : xs.length = n := by simpa using hown.1
        have hr2 := run_append_grow (P := P) w t ty e i z ht hi hz ⟨g, 0, none⟩ n cap xs (by rw [hsize]; omega) holds a m c news (by rw [hsize]; omega) hnews (by omega) (by unfold maxLen at h63; omega) (growslice_fits (by omega) (by rw [hby]; exact hbytes))
        rw [hr] at hr2
        obtain ⟨rfl, rfl⟩ : v' = _ ∧ w' = _ := by simpa using hr2
        exact ⟨rfl, rfl, rfl, by simp, fun k hk _ => heap_alloc_old w.drew _ hk⟩

/-- 'append(out, xs...)' of a row of one-cell elements, whatever they are -/
theorem wpList_append_own2 {P : Program} {w : World} {ops : Array Oper} {rest : List Oper} {o : Oper} {a : Act} {Q : Exit → Act → World → Prop} (hgd : o.guard = none) (s x : Operand) (t : TypeId)
    (ho : o.op = .call { callee := .builtin .append, args := #[s, x], argTypes := #[t, t] }) (base : Nat) (e : TypeId) (hu : P.underlying t = some (.slice e)) (z : Value) (bytes : Nat)
    (hinf : (P.info? e).map (fun i => (i.zero, i.size, i.bytes)) = some (some z, 1, bytes)) (hzs : z.cells.size = 1)
    (v : Value) (n : Nat) (xs : List Value) (hs : a.eval s = v) (hown : w.ownsRow base e 1 v n xs) (ad : Addr) (m c : Nat) (news : List Value) (hx : a.eval x = .slice (some ad) m c) (hl : news.length = m)
    (hnews : ∀ j u, news[j]? = some u → w.cell? (ad.add j) = some u) (h1 : ∀ u ∈ news, u.oneCell' = true) (h63 : n + m ≤ maxLen) (hbytes : (n + m) * bytes ≤ 140737488355328) (hbase : base ≤ w.heap.size)
    (h : ∀ v' w', w'.ownsRow base e 1 v' (n + m) (xs ++ news) → w.grownBy w' v.ownBlock → (v'.ownBlock = v.ownBlock ∨ (v'.ownBlock = some w.heap.size ∧ w.grownBy w' none)) → wpList P ops Q rest (a.put o.dst v') w') :
    wpList P ops Q (o :: rest) a w := by
  obtain ⟨i, hi, hz, hsz, hby⟩ := info_parts hinf
  refine wpList_plain hgd fun K hK => ?_
  obtain ⟨v', w', hr, k1, k2, k4⟩ := run_append_own2 (P := P) w base t o.type e i z bytes hu hi hz hsz hby hzs v n xs hown ad m c news hl hnews h1 h63 hbytes hbase
  unfold Oper.wp execOp
  simp only [ho, resolve, invoke, builtin, Sem.run_bind, Sem.run_pure, Result.andThen_ok, List.map_toArray, List.map_cons, List.map_nil, hs, hx, hr]
  exact hK _ _ (h v' w' k1 k2 k4)
/-- 'append(out, x)', x one byte -/
theorem wpList_append_byte {P : Program} {w : World} {ops : Array Oper} {rest : List Oper} {o : Oper} {a : Act} {Q : Exit → Act → World → Prop} (hgd : o.guard = none) (s x : Operand) (t : TypeId)
    (ho : o.op = .call { callee := .builtin .append, args := #[s, x], argTypes := #[t, t] }) (base : Nat) (e : TypeId) (hu : P.underlying t = some (.slice e))
    (hinf : (P.info? e).map (fun i => (i.zero, i.size, i.bytes)) = some (some (.int .u8 0), 1, 1))
    (v : Value) (n : Nat) (l : List UInt8) (hs : a.eval s = v) (hown : w.ownsRow base e 1 v n (u8s l)) (ad : Addr) (c : Nat) (y : UInt8) (hx : a.eval x = .slice (some ad) 1 c)
    (hc : w.cell? ad = some (.int .u8 (y.toNat : Int))) (hroom : n + 1 ≤ 140737488355328) (hbase : base ≤ w.heap.size)
    (h : ∀ v' w', w'.ownsRow base e 1 v' (n + 1) (u8s (l ++ [y])) → w.grownBy w' v.ownBlock → (v'.ownBlock = v.ownBlock ∨ (v'.ownBlock = some w.heap.size ∧ w.grownBy w' none)) → wpList P ops Q rest (a.put o.dst v') w') :
    wpList P ops Q (o :: rest) a w :=
  wpList_append_own2 hgd s x t ho base e hu _ 1 hinf rfl v n (u8s l) hs hown ad 1 c (u8s [y]) hx rfl (by
    intro j u hj
    rcases j with _ | j
    · simp [u8s] at hj; subst hj; simpa [Addr.add] using hc
    · simp [u8s] at hj) (u8s_one _) (by unfold maxLen; omega) (by omega) hbase (by intro v' w' k1 k2 k3; exact h v' w' (by rw [u8s_append]; exact k1) k2 k3)
end Go.Proofs.Ytebcmcmboomgfaa

/-
  OWN WORK. A family of rows of bytes of the call's own, each in a block of its own.
-/
namespace Go.Proofs.Ytebcmcmboomgfaa
open Go.RowKit
set_option linter.unusedVariables false

/-- block k is no row of bytes -/
def Not8 (w : World) (k : Nat) : Prop := ∀ cur m, w.heap[k]? ≠ some (.cells cur 5 m)
theorem Rd.not8 {w : World} {g : Nat} {R : List UInt8} (h : Rd 92 w g R) : Not8 w g := by
  obtain ⟨p, n, c, h1, _⟩ := h
  intro cur m h2
  rw [h1] at h2
  simp at h2
theorem own_not8 {w : World} {base e n : Nat} {v : Value} {xs : List Value} (h : w.ownsRow base e 1 v n xs) (he : e ≠ 5) (k : Nat) (hk : v.ownBlock = some k) : Not8 w k := by
  rcases h.2 with ⟨rfl, _⟩ | ⟨g, cap, cur, rfl, h2, h3, h4⟩
  · simp [Value.ownBlock] at hk
  · simp [Value.ownBlock] at hk
    subst hk
    intro cur m h5
    rw [h3] at h5
    simp at h5
    exact he h5.2.1

structure Fam (w : World) (base : Nat) (vs : List Value) (ls : List (List UInt8)) : Prop where
  len : vs.length = ls.length
  own : ∀ (i : Nat) v l, vs[i]? = some v → ls[i]? = some l → w.ownsRow base 5 1 v l.length (u8s l)
  apart : ∀ (i j : Nat) u v x, i < j → vs[i]? = some u → vs[j]? = some v → u.ownBlock = some x → v.ownBlock ≠ some x

theorem own_of_kept {w w' : World} {base e size : Nat} {v : Value} {n : Nat} {xs : List Value} {S : List Nat} (h : w.ownsRow base e size v n xs) (k : Kept S w w') (hS : ∀ x, v.ownBlock = some x → x ∉ S) : w'.ownsRow base e size v n xs := by
  refine ⟨h.1, ?_⟩
  rcases h.2 with h | ⟨g, cap, cur, rfl, h2, h3, h4⟩
  · exact .inl h
  · exact .inr ⟨g, cap, cur, rfl, h2, (k.block g (Array.getElem?_eq_some_iff.1 h3).1 (hS g rfl)).trans h3, h4⟩
theorem own_lt {w : World} {base e size : Nat} {v : Value} {n : Nat} {xs : List Value} (h : w.ownsRow base e size v n xs) (x : Nat) (hx : v.ownBlock = some x) : x < w.heap.size := (h.lt x hx).2
theorem own_is8 {w : World} {base n : Nat} {v : Value} {xs : List Value} (h : w.ownsRow base 5 1 v n xs) (k : Nat) (hk : v.ownBlock = some k) (hn : Not8 w k) : False := by
  rcases h.2 with ⟨rfl, _⟩ | ⟨g, cap, cur, rfl, h2, h3, h4⟩
  · simp [Value.ownBlock] at hk
  · simp [Value.ownBlock] at hk
    subst hk
    exact hn _ _ h3

theorem Fam.nil (w : World) (base : Nat) : Fam w base [] [] := ⟨rfl, by simp, by simp⟩
theorem Fam.lt {w : World} {base : Nat} {vs : List Value} {ls : List (List UInt8)} (h : Fam w base vs ls) (i : Nat) (v : Value) (x : Nat) (hv : vs[i]? = some v) (hx : v.ownBlock = some x) : base ≤ x ∧ x < w.heap.size := by
  have hi : i < ls.length := by rw [← h.len]; exact (List.getElem?_eq_some_iff.1 hv).1
  exact (h.own i v ls[i] hv (List.getElem?_eq_getElem hi)).lt x hx
theorem Fam.kept {w w' : World} {base : Nat} {vs : List Value} {ls : List (List UInt8)} {S : List Nat} (h : Fam w base vs ls) (k : Kept S w w') (hS : ∀ x ∈ S, Not8 w x ∨ w.heap.size ≤ x ∨ x < base) : Fam w' base vs ls := by
  refine ⟨h.len, fun i v l hv hl => ?_, h.apart⟩
  have ho := h.own i v l hv hl
  refine own_of_kept ho k fun x hx hm => ?_
  rcases hS x hm with h1 | h1 | h1
  · exact own_is8 ho x hx h1
  · have := own_lt ho x hx; omega
  · have := own_ge ho x hx; omega
/-- one row more, made just now -/
theorem Fam.snoc {w w' : World} {base : Nat} {vs : List Value} {ls : List (List UInt8)} {S : List Nat} {v : Value} {l : List UInt8} {n : Nat} (h : Fam w base vs ls) (hb : base ≤ w.heap.size) (k : Kept S w w') (hS : ∀ x ∈ S, Not8 w x ∨ w.heap.size ≤ x ∨ x < base)
    (ho : w'.ownsRow w.heap.size 5 1 v n (u8s l)) : Fam w' base (vs ++ [v]) (ls ++ [l]) := by
  have hk := h.kept k hS
  have hn : n = l.length := by have := ho.1; rw [u8s_length] at this; omega
  subst hn
  refine ⟨by simp [h.len], fun i u m hu hm => ?_, fun i j u u' x hij hu hu' hx => ?_⟩
  · rw [List.getElem?_append] at hu hm
    by_cases hi : i < vs.length
    · rw [if_pos hi] at hu
      rw [if_pos (by rw [← h.len]; exact hi)] at hm
      exact hk.own i u m hu hm
    · rw [if_neg hi] at hu
      rw [if_neg (by rw [← h.len]; exact hi)] at hm
      rw [← h.len] at hm
      rcases hd : i - vs.length with _ | d
      · rw [hd] at hu hm
        simp at hu hm
        subst hu; subst hm
        refine ⟨ho.1, ?_⟩
        rcases ho.2 with h1 | ⟨g, cap, cur, h1, h2, h3⟩
        · exact .inl h1
        · exact .inr ⟨g, cap, cur, h1, Nat.le_trans hb h2, h3⟩
      · rw [hd] at hu
        simp at hu
  · rw [List.getElem?_append] at hu hu'
    by_cases hj : j < vs.length
    · rw [if_pos hj] at hu'
      rw [if_pos (by omega)] at hu
      exact h.apart i j u u' x hij hu hu' hx
    · rw [if_neg hj] at hu'
      rcases hd : j - vs.length with _ | d
      · rw [hd] at hu'
        simp at hu'
        subst hu'
        rw [if_pos (by omega)] at hu
        intro hy
        have h1 := (h.lt i u x hu hx).2
        have h2 := own_ge ho x hy
        omega
      · rw [hd] at hu'
        simp at hu'
/-- the whole in memory: a row of the slices -/
theorem Fam.bs {w : World} {base : Nat} {vs : List Value} {ls : List (List UInt8)} (h : Fam w base vs ls) (i : Nat) (v : Value) (l : List UInt8) (hv : vs[i]? = some v) (hl : ls[i]? = some l) : Bs w v l := Bs.ofOwn (h.own i v l hv hl)
end Go.Proofs.Ytebcmcmboomgfaa

/-
  OWN WORK. Marks: a family of rows, each written full of a mark of its own.
-/
namespace Go.Proofs.Ytebcmcmboomgfaa
open Go.RowKit
set_option linter.unusedVariables false

def mk (k : Nat) : UInt8 := UInt8.ofNat (k + 1)
theorem mk_int (k : Nat) : ((k : Int) + 1) % 256 = ((mk k).toNat : Int) := by
  unfold mk
  rw [UInt8.toNat_ofNat']
  omega
def rep (n k : Nat) : List UInt8 := List.replicate n (mk k)
theorem rep_length (n k : Nat) : (rep n k).length = n := by simp [rep]
theorem rep_get {n k i : Nat} (h : i < n) : (rep n k)[i]? = some (mk k) := by simp [rep, h]
theorem rep_snoc (n k : Nat) : rep n k ++ [mk k] = rep (n + 1) k := by unfold rep; rw [List.replicate_succ']
/-- the first i bytes written over -/
def part (l : List UInt8) (i k : Nat) : List UInt8 := List.replicate i (mk k) ++ l.drop i
theorem part_zero (l : List UInt8) (k : Nat) : part l 0 k = l := by simp [part]
theorem part_length (l : List UInt8) (i k : Nat) (h : i ≤ l.length) : (part l i k).length = l.length := by simp [part]; omega
theorem part_all (l : List UInt8) (k : Nat) : part l l.length k = rep l.length k := by simp [part, rep]
theorem part_succ (l : List UInt8) (i k : Nat) (h : i < l.length) : (part l i k).set i (mk k) = part l (i + 1) k := by
  unfold part
  rw [List.set_append_right _ _ (by simp), List.length_replicate, Nat.sub_self, List.drop_eq_getElem_cons h, List.set_cons_zero, List.replicate_succ', List.append_assoc]
  rfl
/-- the first k rows marked -/
def nn (ls : List (List UInt8)) (j : Nat) : Nat := (ls.getD j []).length
def midl (ls : List (List UInt8)) (k : Nat) : List (List UInt8) := (List.range ls.length).map fun j => if j < k then rep (nn ls j) j else ls.getD j []
theorem midl_length (ls : List (List UInt8)) (k : Nat) : (midl ls k).length = ls.length := by simp [midl]
theorem midl_get (ls : List (List UInt8)) (k j : Nat) (h : j < ls.length) : (midl ls k)[j]? = some (if j < k then rep (nn ls j) j else ls.getD j []) := by simp [midl, h]
theorem midl_zero (ls : List (List UInt8)) : midl ls 0 = ls := by
  apply List.ext_getElem? 
  intro j
  by_cases h : j < ls.length
  · rw [midl_get ls 0 j h]
    simp [List.getD, List.getElem?_eq_getElem h]
  · rw [List.getElem?_eq_none (by rw [midl_length]; omega), List.getElem?_eq_none (by omega)]
theorem midl_succ (ls : List (List UInt8)) (k : Nat) (h : k < ls.length) : (midl ls k).set k (rep (nn ls k) k) = midl ls (k + 1) := by
  apply List.ext_getElem?
  intro j
  by_cases hj : j < ls.length
  · rw [midl_get ls (k + 1) j hj, List.getElem?_set]
    by_cases e : k = j
    · subst e
      rw [if_pos rfl, if_pos (by rw [midl_length]; exact h), if_pos (by omega)]
    · rw [if_neg e, midl_get ls k j hj]
      by_cases hjk : j < k
      · rw [if_pos hjk, if_pos (by omega)]
      · rw [if_neg hjk, if_neg (by omega)]
  · rw [List.getElem?_eq_none (by rw [List.length_set, midl_length]; omega), List.getElem?_eq_none (by rw [midl_length]; omega)]

/-- one row of the family is written -/
theorem Fam.set {w w' : World} {base : Nat} {vs : List Value} {ls : List (List UInt8)} (h : Fam w base vs ls) (k : Nat) (v : Value) (l' : List UInt8) (hv : vs[k]? = some v) (kp : Kept v.ownBlock.toList w w') (ho : w'.ownsRow base 5 1 v l'.length (u8s l')) : Fam w' base vs (ls.set k l') := by
  refine ⟨by rw [List.length_set]; exact h.len, fun i u m hu hm => ?_, h.apart⟩
  rw [List.getElem?_set] at hm
  by_cases e : k = i
  · subst e
    rw [if_pos rfl] at hm
    split at hm
    · simp at hm
      subst hm
      rw [hv] at hu
      simp at hu
      subst hu
      exact ho
    · cases hm
  · rw [if_neg e] at hm
    refine own_of_kept (h.own i u m hu hm) kp fun x hx hmem => ?_
    have hvx : v.ownBlock = some x := by simpa using hmem
    rcases Nat.lt_or_ge i k with hik | hik
    · exact h.apart i k u v x hik hu hv hx hvx
    · exact h.apart k i v u x (by omega) hv hu hvx hx
/-- the blocks of a family -/
def blocks (vs : List Value) : List Nat := vs.filterMap Value.ownBlock
theorem mem_blocks {vs : List Value} {k x : Nat} {v : Value} (hv : vs[k]? = some v) (hx : v.ownBlock = some x) : x ∈ blocks vs := by
  unfold blocks
  rw [List.mem_filterMap]
  exact ⟨v, List.mem_of_getElem? hv, hx⟩
theorem blocks_mem {vs : List Value} {x : Nat} (h : x ∈ blocks vs) : ∃ (k : Nat) (v : Value), vs[k]? = some v ∧ v.ownBlock = some x := by
  unfold blocks at h
  rw [List.mem_filterMap] at h
  obtain ⟨v, hv, hx⟩ := h
  obtain ⟨k, hk⟩ := List.getElem?_of_mem hv
  exact ⟨k, v, hk, hx⟩
theorem Fam.not8 {w : World} {base : Nat} {vs : List Value} {ls : List (List UInt8)} (h : Fam w base vs ls) {x : Nat} (hx : x ∈ blocks vs) : ¬ Not8 w x ∧ base ≤ x ∧ x < w.heap.size := by
  obtain ⟨k, v, hv, ho⟩ := blocks_mem hx
  have hk : k < ls.length := by rw [← h.len]; exact (List.getElem?_eq_some_iff.1 hv).1
  have hw := h.own k v ls[k] hv (List.getElem?_eq_getElem hk)
  exact ⟨fun hn => own_is8 hw x ho hn, own_ge hw x ho, own_lt hw x ho⟩
/-- a byte of an owned row is set -/
theorem set_own {w : World} {base e b n cap : Nat} {l : List UInt8} (ow : w.ownsRow base e 1 (.slice (some ⟨b, 0, none⟩) n cap) n (u8s l)) (k : Nat) (y : UInt8) (z : Int) (hz : z = (y.toNat : Int)) :
    (w.setCell ⟨b, k, none⟩ (.int .u8 z)).ownsRow base e 1 (.slice (some ⟨b, 0, none⟩) n cap) n (u8s (l.set k y)) ∧ Kept [b] w (w.setCell ⟨b, k, none⟩ (.int .u8 z)) := by
  subst hz
  have h := ow.stored k (.int .u8 (y.toNat : Int))
  refine ⟨?_, Kept.ofGrown h.2 (by intro x hx _; simp at hx; simp [hx])⟩
  have e : (u8s l).set k (.int .u8 (y.toNat : Int)) = u8s (l.set k y) := by simp [u8s, List.map_set]
  rw [← e]
  exact h.1
end Go.Proofs.Ytebcmcmboomgfaa

/-
  OWN WORK. What lengthening a marked row by its mark does: the row stays as it was, its longer self holds the mark all through.
-/
namespace Go.Proofs.Ytebcmcmboomgfaa
open Go.RowKit
set_option linter.unusedVariables false

theorem mk_small (k : Nat) (h : k < 200) : (k : Int) + 1 = ((mk k).toNat : Int) := by
  unfold mk
  rw [UInt8.toNat_ofNat']
  omega
/-- a beginning of an owned row -/
theorem Bs.prefix {w : World} {base g n d m k : Nat} {v' : Value} (ho : w.ownsRow base 5 1 v' m (u8s (rep m k))) (hg : v'.ownBlock = some g) (h1 : n ≤ d) (h2 : d ≤ maxLen) (hm : n ≤ m) : Bs w (.slice (some ⟨g, 0, none⟩) n d) (rep n k) := by
  have := Bs.mk (w := w) (b := g) (o := 0) (c := d) (l := rep n k) (by rw [rep_length]; exact h1) h2 (fun i x hx => by
    have hi : i < n := by have := (List.getElem?_eq_some_iff.1 hx).1; rwa [rep_length] at this
    rw [rep_get hi] at hx
    simp at hx
    subst hx
    have := ho.cells hg i (.int .u8 ((Go.Proofs.Ytebcmcmboomgfaa.mk k).toNat : Int)) (by simp only [u8s, List.getElem?_map, rep_get (show i < m by omega)]; rfl)
    rwa [add_none rfl] at this)
  rwa [rep_length] at this
/-- one mark more behind l, a longer self of v -/
theorem mark_step {wr W w' : World} {base n m k lo : Nat} {v l v' : Value} (hv : ∃ p d, v = .slice p n d ∧ (p = none ∧ n = 0 ∨ ∃ g, p = some ⟨g, 0, none⟩ ∧ n ≤ d ∧ d ≤ maxLen))
    (hbs : Bs W v (rep n k)) (hnm : n ≤ m) (hlo : lo ≤ W.heap.size) (hl : l.ownBlock = v.ownBlock ∨ ∃ y, l.ownBlock = some y ∧ lo ≤ y)
    (hvlt : ∀ x, v.ownBlock = some x → x < lo)
    (ho : w'.ownsRow base 5 1 v' (m + 1) (u8s (rep m k ++ [mk k]))) (hg : W.grownBy w' l.ownBlock) (hat : v'.ownBlock = l.ownBlock ∨ (v'.ownBlock = some W.heap.size ∧ W.grownBy w' none)) :
    w'.ownsRow base 5 1 v' (m + 1) (u8s (rep (m + 1) k)) ∧ Bs w' v (rep n k) ∧ (v'.ownBlock = v.ownBlock ∨ ∃ y, v'.ownBlock = some y ∧ lo ≤ y) := by
  rw [rep_snoc] at ho
  refine ⟨ho, ?_, ?_⟩
  · rcases hat with hat | ⟨_, hgn⟩
    · rcases hl with hl | ⟨y, hy, hly⟩
      · obtain ⟨p, d, rfl, hp⟩ := hv
        rcases hp with ⟨rfl, rfl⟩ | ⟨g, rfl, h1, h2⟩
        · exact hbs.carry fun a x hx hb => by simp [Value.ownBlock] at hb
        · exact Bs.prefix ho (by rw [hat, hl]; rfl) h1 h2 (by omega)
      · refine hbs.keptOwn (S := [y]) (Kept.ofGrown hg (by intro x hx _; rw [hy] at hx; simp at hx; simp [hx])) fun x hx hm => ?_
        simp at hm
        subst hm
        have := hvlt x hx
        omega
    · exact hbs.kept (Kept.ofGrown hgn (by simp))
  · rcases hat with hat | ⟨hat, _⟩
    · rw [hat]; exact hl
    · exact .inr ⟨_, hat, hlo⟩

/-- 'long', as far as it has been made -/
structure Lng (M : Nat) (w2 wr : World) (base : Nat) (vs : List Value) (ls : List (List UInt8)) (k : Nat) (us : List Value) (long : Value) : Prop where
  ul : us.length = k
  lo : wr.ownsRow base 22 1 long k us
  lb : ∀ x, long.ownBlock = some x → w2.heap.size ≤ x
  uo : ∀ (j : Nat) u, us[j]? = some u → wr.ownsRow base 5 1 u (nn ls j + M) (u8s (rep (nn ls j + M) j))
  ub : ∀ (j : Nat) u v, us[j]? = some u → vs[j]? = some v → u.ownBlock = v.ownBlock ∨ ∃ y, u.ownBlock = some y ∧ w2.heap.size ≤ y
  vb : ∀ (j : Nat) v, vs[j]? = some v → Bs wr v (rep (nn ls j) j)
  vo : ∀ (j : Nat) v, k ≤ j → vs[j]? = some v → wr.ownsRow base 5 1 v (nn ls j) (u8s (rep (nn ls j) j))
  kp : Kept (blocks vs) w2 wr

theorem Lng.start {w2 : World} {M base N : Nat} {vs : List Value} {ls : List (List UInt8)} (F : Fam w2 base vs (midl ls N)) (hN : ls.length = N) : Lng M w2 w2 base vs ls 0 [] (.slice none 0 0) := by
  have hv : ∀ (j : Nat) v, vs[j]? = some v → w2.ownsRow base 5 1 v (nn ls j) (u8s (rep (nn ls j) j)) := fun j v hv => by
    have hj : j < ls.length := by
      have := (List.getElem?_eq_some_iff.1 hv).1
      rw [F.len, midl_length] at this
      exact this
    have hm := midl_get ls N j hj
    rw [if_pos (by omega)] at hm
    have := F.own j v _ hv hm
    rwa [rep_length] at this
  exact ⟨rfl, World.ownsRow_nil _ _ _ _, by simp [Value.ownBlock], by simp, by simp, fun j v h => Bs.ofOwn (hv j v h), fun j v _ h => hv j v h, Kept.refl _ _⟩

/-- row k has been lengthened (l, in wr), and stands behind 'long' (long', in w') -/
theorem Lng.snoc {w2 w3 wr W w' : World} {M base k : Nat} {vs : List Value} {ls : List (List UInt8)} {us : List Value} {long long' l v : Value} (h : Lng M w2 w3 base vs ls k us long)
    (hap : ∀ (i j : Nat) u v x, i < j → vs[i]? = some u → vs[j]? = some v → u.ownBlock = some x → v.ownBlock ≠ some x) (hvlt : ∀ (j : Nat) v x, vs[j]? = some v → v.ownBlock = some x → x < w2.heap.size)
    (hv : vs[k]? = some v) (kl : Kept v.ownBlock.toList w3 wr) (ol : wr.ownsRow base 5 1 l (nn ls k + M) (u8s (rep (nn ls k + M) k))) (bl : Bs wr v (rep (nn ls k) k)) (lv : l.ownBlock = v.ownBlock ∨ ∃ y, l.ownBlock = some y ∧ w2.heap.size ≤ y)
    (hsz : w2.heap.size ≤ w3.heap.size) (kW : Kept [] wr W) (ho : w'.ownsRow base 22 1 long' (k + 1) (us ++ [l])) (hoW : W.ownsRow base 22 1 long k us) (hg : W.grownBy w' long.ownBlock) (hat : long'.ownBlock = long.ownBlock ∨ (long'.ownBlock = some W.heap.size ∧ W.grownBy w' none)) :
    Lng M w2 w' base vs ls (k + 1) (us ++ [l]) long' := by
  have kL : Kept long.ownBlock.toList W w' := Kept.ofGrown hg (by intro x hx _; simp [hx])
  have hL8 : ∀ x ∈ long.ownBlock.toList, Not8 W x := fun x hx => own_not8 hoW (by decide) x (by simpa using hx)
  -- bytes rows are as they were behind the append to 'long'
  have own2 : ∀ {u : Value} {n : Nat} {xs : List Value}, wr.ownsRow base 5 1 u n xs → w'.ownsRow base 5 1 u n xs := fun ho => by
    have h1 := own_of_kept ho kW (by simp)
    exact own_of_kept h1 kL fun x hx hm => own_is8 h1 x hx (hL8 x hm)
  have bs2 : ∀ {u : Value} {m : List UInt8}, (∃ n xs, wr.ownsRow base 5 1 u n xs) ∨ u = v → Bs wr u m → Bs w' u m := fun hu hb => by
    refine (hb.kept kW).carry fun a x hx hb2 => kL.cell hx fun hm => ?_
    have hn := hL8 _ hm
    simp only [World.cell?] at hx
    have hbl : long.ownBlock = some a.block := by simpa using hm
    rcases hoW.2 with ⟨h0, _⟩ | ⟨gg, cap, cur, hh, _, hheap, _, _, hcs, htk⟩
    · rw [h0] at hbl; simp [Value.ownBlock] at hbl
    · rw [hh] at hbl
      have hga : gg = a.block := by simpa [Value.ownBlock] using hbl
      have hlt := own_lt hoW a.block (by rw [hh]; simpa [Value.ownBlock] using hga)
      rcases hu with ⟨n, xs, hou⟩ | rfl
      · exact own_is8 (own_of_kept hou kW (by simp)) a.block hb2 hn
      · have h1 := hvlt k _ a.block hv hb2
        have h2 := h.lb a.block (by rw [hh]; simpa [Value.ownBlock] using hga)
        omega
  have old : ∀ {u : Value} {n : Nat} {xs : List Value}, w3.ownsRow base 5 1 u n xs → (∀ x, u.ownBlock = some x → v.ownBlock ≠ some x) → wr.ownsRow base 5 1 u n xs := fun ho hne => own_of_kept ho kl fun x hx hm => hne x hx (by simpa using hm)
  refine ⟨by simp [h.ul], ho, ?_, ?_, ?_, ?_, ?_, ?_⟩
  · intro x hx
    rcases hat with hat | ⟨hat, _⟩
    · exact h.lb x (by rw [← hat]; exact hx)
    · rw [hat] at hx
      simp at hx
      have := kl.size
      have := kW.size
      omega
  · intro j u hu
    rw [List.getElem?_append] at hu
    by_cases hj : j < us.length
    · rw [if_pos hj] at hu
      refine own2 (old (h.uo j u hu) fun x hx hvx => ?_)
      have hjl : j < vs.length := by have := (List.getElem?_eq_some_iff.1 hv).1; have := h.ul; omega
      rcases h.ub j u vs[j] hu (List.getElem?_eq_getElem hjl) with e | ⟨y, hy, hly⟩
      · exact hap j k vs[j] v x (by have := h.ul; omega) (List.getElem?_eq_getElem hjl) hv (by rw [← e]; exact hx) hvx
      · rw [hx] at hy
        simp at hy
        have := hvlt k v x hv hvx
        omega
    · rw [if_neg hj] at hu
      rcases hd : j - us.length with _ | d'
      · rw [hd] at hu
        simp at hu
        subst hu
        have : j = k := by have := h.ul; omega
        subst this
        exact own2 ol
      · rw [hd] at hu
        simp at hu
  · intro j u v2 hu hv2
    rw [List.getElem?_append] at hu
    by_cases hj : j < us.length
    · rw [if_pos hj] at hu
      exact h.ub j u v2 hu hv2
    · rw [if_neg hj] at hu
      rcases hd : j - us.length with _ | d'
      · rw [hd] at hu
        simp at hu
        subst hu
        have : j = k := by have := h.ul; omega
        subst this
        rw [hv] at hv2
        simp at hv2
        subst hv2
        exact lv
      · rw [hd] at hu
        simp at hu
  · intro j v2 hv2
    by_cases hjk : j = k
    · subst hjk
      rw [hv] at hv2
      simp at hv2
      subst hv2
      exact bs2 (.inr rfl) bl
    · have hne : ∀ x, v2.ownBlock = some x → v.ownBlock ≠ some x := fun x hx hvx => by
        rcases Nat.lt_or_ge j k with hlt | hge
        · exact hap j k v2 v x hlt hv2 hv hx hvx
        · exact hap k j v v2 x (by omega) hv hv2 hvx hx
      have hb := (h.vb j v2 hv2).keptOwn kl fun x hx hm => hne x hx (by simpa using hm)
      refine (hb.kept kW).carry fun a x hx hb2 => kL.cell hx fun hm => ?_
      have hbl : long.ownBlock = some a.block := by simpa using hm
      have h1 := hvlt j v2 a.block hv2 hb2
      have h2 := h.lb a.block hbl
      omega
  · intro j v2 hkj hv2
    refine own2 (old (h.vo j v2 (by omega) hv2) fun x hx hvx => ?_)
    exact hap k j v v2 x (by omega) hv hv2 hvx hx
  · refine ((h.kp.trans kl ?_).then kW).trans kL ?_
    · intro x hx
      exact .inl (mem_blocks hv (by simpa using hx))
    · intro x hx
      exact .inr (h.lb x (by simpa using hx))
theorem weak_or {a b : Option Nat} {lo lo' : Nat} (h : a = b ∨ ∃ y, a = some y ∧ lo ≤ y) (hl : lo' ≤ lo) : a = b ∨ ∃ y, a = some y ∧ lo' ≤ y := by
  rcases h with e | ⟨y, hy, hly⟩
  · exact .inl e
  · exact .inr ⟨y, hy, Nat.le_trans hl hly⟩
theorem hideLng {M : Nat} {w2 wr : World} {base : Nat} {vs : List Value} {ls : List (List UInt8)} {k : Nat} {us : List Value} {long : Value} (h : Lng M w2 wr base vs ls k us long) : Hid (Lng M w2 wr base vs ls k us long) := h
theorem byte_cell (w : World) (e : TypeId) (z : Int) (y : UInt8) (hz : z = (y.toNat : Int)) : (w.alloc (.cells #[.int .u8 z] e)).cell? ⟨w.heap.size, 0, none⟩ = some (.int .u8 (y.toNat : Int)) := by
  subst hz
  have := World.news_of_block (heap_alloc_new w (.cells #[.int .u8 (y.toNat : Int)] e)) 0 _ rfl
  rwa [add_none rfl] at this
theorem hideAp {vs : List Value} (h : ∀ (i j : Nat) u v x, i < j → vs[i]? = some u → vs[j]? = some v → u.ownBlock = some x → v.ownBlock ≠ some x) : Hid (∀ (i j : Nat) u v x, i < j → vs[i]? = some u → vs[j]? = some v → u.ownBlock = some x → v.ownBlock ≠ some x) := h

end Go.Proofs.Ytebcmcmboomgfaa

/-
  OWN WORK. Rows of the call's own whose elements have several cells, told by their cells: also a front of one, with no spare.
-/
namespace Go.Proofs.Ytebcmcmboomgfaa
open Go.RowKit
set_option linter.unusedVariables false

/-- v: n elements of sz cells each, the cells cs, in a block of the call's own (at base or behind), from its beginning on -/
def Row (w : World) (base sz : Nat) (v : Value) (n : Nat) (cs : List Value) : Prop :=
  cs.length = n * sz ∧ (∀ u ∈ cs, u.oneCell' = true) ∧ ∃ p c, v = .slice p n c ∧ n ≤ c ∧ c ≤ maxLen ∧ ((p = none ∧ c = 0) ∨ ∃ g, p = some ⟨g, 0, none⟩ ∧ base ≤ g ∧ g < w.heap.size ∧
    (∀ (j : Nat) u, cs[j]? = some u → w.cell? ⟨g, j, none⟩ = some u) ∧ ∀ j, j < c * sz → (w.cell? ⟨g, j, none⟩).isSome = true ∧ w.frozen? ⟨g, j, none⟩ = false)
theorem Row.nil (w : World) (base sz : Nat) : Row w base sz (.slice none 0 0) 0 [] := ⟨by simp, by simp, none, 0, rfl, Nat.le_refl _, by simp [maxLen], .inl ⟨rfl, rfl⟩⟩
theorem frozen_of_block {w w' : World} {a : Addr} (h : w'.heap[a.block]? = w.heap[a.block]?) : w'.frozen? a = w.frozen? a := World.frozen?_of_block h
theorem Row.kept {w w' : World} {base sz : Nat} {v : Value} {n : Nat} {cs : List Value} {S : List Nat} (h : Row w base sz v n cs) (k : Kept S w w') (hS : ∀ x, v.ownBlock = some x → x ∉ S) : Row w' base sz v n cs := by
  obtain ⟨h1, h2, p, c, rfl, h3, h4, h5⟩ := h
  refine ⟨h1, h2, p, c, rfl, h3, h4, ?_⟩
  rcases h5 with h5 | ⟨g, rfl, h6, h7, h8, h9⟩
  · exact .inl h5
  · have e := k.block g h7 (hS g rfl)
    exact .inr ⟨g, rfl, h6, Nat.lt_of_lt_of_le h7 k.size, fun j u hj => (World.cell?_of_block (a := ⟨g, j, none⟩) e).trans (h8 j u hj), fun j hj => ⟨by rw [World.cell?_of_block (a := ⟨g, j, none⟩) e]; exact (h9 j hj).1, (frozen_of_block (a := ⟨g, j, none⟩) e).trans (h9 j hj).2⟩⟩
theorem Row.shape {w : World} {base sz : Nat} {v : Value} {n : Nat} {cs : List Value} (h : Row w base sz v n cs) : ∃ p c, v = .slice p n c ∧ n ≤ c ∧ c ≤ maxLen := by
  obtain ⟨-, -, p, c, rfl, h3, h4, -⟩ := h
  exact ⟨p, c, rfl, h3, h4⟩
theorem Row.pos {w : World} {base sz : Nat} {p : Option Addr} {n c : Nat} {cs : List Value} (h : Row w base sz (.slice p n c) n cs) (hn : 0 < n) :
    ∃ g, p = some ⟨g, 0, none⟩ ∧ base ≤ g ∧ g < w.heap.size ∧ (∀ (j : Nat) u, cs[j]? = some u → w.cell? ⟨g, j, none⟩ = some u) ∧ ∀ j, j < c * sz → (w.cell? ⟨g, j, none⟩).isSome = true ∧ w.frozen? ⟨g, j, none⟩ = false := by
  obtain ⟨h1, h2, p', c', e, h3, h4, h5⟩ := h
  cases e
  rcases h5 with ⟨-, h5⟩ | h5
  · omega
  · exact h5
theorem Row.lt {w : World} {base sz : Nat} {v : Value} {n : Nat} {cs : List Value} (h : Row w base sz v n cs) (x : Nat) (hx : v.ownBlock = some x) : base ≤ x ∧ x < w.heap.size := by
  obtain ⟨h1, h2, p, c, rfl, h3, h4, h5⟩ := h
  rcases h5 with ⟨rfl, -⟩ | ⟨g, rfl, h6, h7, -⟩
  · simp [Value.ownBlock] at hx
  · simp [Value.ownBlock] at hx
    subst hx
    exact ⟨h6, h7⟩
theorem Row.mono {w : World} {base base' sz : Nat} {v : Value} {n : Nat} {cs : List Value} (h : Row w base sz v n cs) (hb : base' ≤ base) : Row w base' sz v n cs := by
  obtain ⟨h1, h2, p, c, rfl, h3, h4, h5⟩ := h
  refine ⟨h1, h2, p, c, rfl, h3, h4, ?_⟩
  rcases h5 with h5 | ⟨g, rfl, h6, h7, h8⟩
  · exact .inl h5
  · exact .inr ⟨g, rfl, Nat.le_trans hb h6, h7, h8⟩
/-- a cell of one is set -/
theorem Row.set {w : World} {base sz g n c : Nat} {cs : List Value} (h : Row w base sz (.slice (some ⟨g, 0, none⟩) n c) n cs) (j : Nat) (hj : j < n * sz) (u : Value) (hu : u.oneCell' = true) :
    Row (w.setCell ⟨g, j, none⟩ u) base sz (.slice (some ⟨g, 0, none⟩) n c) n (cs.set j u) ∧ Kept [g] w (w.setCell ⟨g, j, none⟩ u) := by
  have hk : Kept [g] w (w.setCell ⟨g, j, none⟩ u) := (Kept.refl [g] w).setCell (.inl (by simp)) u
  obtain ⟨h1, h2, p', c', e, h3, h4, h5⟩ := h
  cases e
  refine ⟨⟨by rw [List.length_set]; exact h1, fun x hx => ?_, _, _, rfl, h3, h4, ?_⟩, hk⟩
  · rcases List.mem_or_eq_of_mem_set hx with hx | hx
    · exact h2 x hx
    · rw [hx]; exact hu
  · rcases h5 with ⟨h5, -⟩ | ⟨g', e, h6, h7, h8, h9⟩
    · cases h5
    · cases e
      obtain ⟨old, hold⟩ : ∃ old, cs[j]? = some old := ⟨_, List.getElem?_eq_getElem (by omega)⟩
      have hc := h8 j old hold
      refine .inr ⟨g, rfl, h6, Nat.lt_of_lt_of_le h7 hk.size, fun k x hx => ?_, fun k hk' => ⟨?_, by rw [World.frozen?_setCell]; exact (h9 k hk').2⟩⟩
      · rw [List.getElem?_set] at hx
        by_cases e : j = k
        · subst e
          rw [if_pos rfl, if_pos (by omega)] at hx
          cases hx
          exact World.cell?_setCell_same _ _ _ hc
        · rw [if_neg e] at hx
          rw [World.cell?_setCell_other _ _ _ _ (by first | (simp; done) | (simp; omega))]
          exact h8 k x hx
      · by_cases e : j = k
        · subst e
          rw [World.cell?_setCell_same _ _ _ hc]; rfl
        · rw [World.cell?_setCell_other _ _ _ _ (by first | (simp; done) | (simp; omega))]
          exact (h9 k hk').1
/-- a front of one, with no spare -/
theorem Row.front {w : World} {base sz : Nat} {p : Option Addr} {n c : Nat} {cs : List Value} (h : Row w base sz (.slice p n c) n cs) (i : Nat) (hi : i ≤ n) (hn : 0 < n) : Row w base sz (.slice p i i) i (cs.take (i * sz)) := by
  obtain ⟨g, rfl, h6, h7, h8, h9⟩ := h.pos hn
  obtain ⟨h1, h2, p', c', e, h3, h4, h5⟩ := h
  cases e
  have hm : i * sz ≤ n * sz := Nat.mul_le_mul_right _ hi
  have hm2 : i * sz ≤ c * sz := Nat.mul_le_mul_right _ (by omega)
  refine ⟨by rw [List.length_take]; omega, fun u hu => h2 u (List.mem_of_mem_take hu), _, i, rfl, Nat.le_refl _, by omega, .inr ⟨g, rfl, h6, h7, fun j u hj => ?_, fun j hj => h9 j (by omega)⟩⟩
  rw [List.getElem?_take] at hj
  split at hj
  · exact h8 j u hj
  · cases hj
theorem kept_setCells (g : Nat) : ∀ (vs : List Value) (o : Nat) (w : World), Kept [g] w (w.setCells g o vs)
  | [], _, w => Kept.refl _ _
  | v :: r, o, w => ((Kept.refl [g] w).setCell (p := ⟨g, o, none⟩) (.inl (by simp)) v).trans (kept_setCells g r (o + 1) _) (by intro x hx; exact .inl hx)
/-- 'append(l, x...)' -/
theorem run_append_row {P : Program} (w : World) (base : Nat) (t ty e : TypeId) (i : TypeInfo) (z : Value) (sz bytes : Nat) (ht : P.underlying t = some (.slice e)) (hi : P.info? e = some i) (hz : i.zero = some z) (hsize : i.size = sz) (hby : i.bytes = bytes) (hzs : z.cells.size = sz)
    (v : Value) (n : Nat) (cs : List Value) (h : Row w base sz v n cs) (x : Value) (m : Nat) (news : List Value) (hs : Src P sz t x m news w) (h63 : n + m ≤ 9223372036854775807) (hmx : n + m ≤ maxLen) (hbytes : (n + m) * bytes ≤ 140737488355328) (hbase : base ≤ w.heap.size) :
    ∃ v' w', (Builtin.append_ #[t, t] ty #[v, x]).run P w = .ok v' w' ∧ Row w' base sz v' (n + m) (cs ++ news) ∧ Kept v.ownBlock.toList w w' ∧ (v'.ownBlock = v.ownBlock ∨ v'.ownBlock = some w.heap.size) := by
  subst hsize
  subst hby
  have hnl := hs.newsLen
  have hall : ∀ u ∈ cs ++ news, u.oneCell' = true := by
    intro u hu
    rcases List.mem_append.1 hu with hu | hu
    · exact h.2.1 u hu
    · exact hs.one u hu
  have hlen : (cs ++ news).length = (n + m) * i.size := by rw [List.length_append, h.1, hnl, Nat.add_mul]
  obtain ⟨p, c, rfl, h3, h4⟩ := h.shape
  by_cases hfit : n + m ≤ c
  · cases p with
    | none =>
      obtain ⟨h1, h2, p', c', e', -, -, h5⟩ := id h
      cases e'
      rcases h5 with ⟨-, rfl⟩ | ⟨g, e, -⟩
      · obtain rfl : n = 0 := by omega
        obtain rfl : m = 0 := by omega
        obtain rfl : news = [] := List.eq_nil_of_length_eq_zero (by simpa using hnl)
        exact ⟨_, _, run_append_nothing (P := P) w t t ty e i ht hi none 0 0 (Nat.le_refl _) x hs, by simpa using h, Kept.refl _ _, .inl rfl⟩
      · cases e
    | some a =>
      obtain ⟨h1, h2, p', c', e', -, -, h5⟩ := id h
      cases e'
      rcases h5 with ⟨e, -⟩ | ⟨g, e, h6, h7, h8, h9⟩
      · cases e
      · cases e
        have hm : n * i.size + m * i.size ≤ c * i.size := by rw [← Nat.add_mul]; exact Nat.mul_le_mul_right _ hfit
        have hthere : ∀ j, j < news.length → (w.cell? ⟨g, 0 + n * i.size + j, none⟩).isSome = true := fun j hj => (h9 _ (by omega)).1
        have hrun := run_append_room_src (P := P) w t t ty e i ht hi g 0 n c x m news hs hfit hthere (fun j hj => (h9 _ (by omega)).2)
        have hk := kept_setCells g news (0 + n * i.size) w
        refine ⟨_, _, hrun, ⟨hlen, hall, _, _, rfl, hfit, h4, .inr ⟨g, rfl, h6, Nat.lt_of_lt_of_le h7 hk.size, fun j u hj => ?_, fun j hj => ⟨?_, by rw [World.frozen?_setCells]; exact (h9 j hj).2⟩⟩⟩, by simpa [Value.ownBlock] using hk, .inl rfl⟩
        · by_cases hjc : j < cs.length
          · rw [List.getElem?_append_left hjc] at hj
            rw [World.cell?_setCells_out g news _ w _ (fun _ _ => .inl (by simp; omega))]
            exact h8 j u hj
          · rw [List.getElem?_append_right (by omega)] at hj
            obtain ⟨hlt, rfl⟩ := List.getElem?_eq_some_iff.1 hj
            have := World.cell?_setCells_in g news (0 + n * i.size) w hthere (j - cs.length) hlt
            rw [show 0 + n * i.size + (j - cs.length) = j by omega] at this
            exact this
        · by_cases hjin : 0 + n * i.size ≤ j ∧ j < 0 + n * i.size + news.length
          · have := World.cell?_setCells_in g news (0 + n * i.size) w hthere (j - (0 + n * i.size)) (by omega)
            rw [show 0 + n * i.size + (j - (0 + n * i.size)) = j by omega] at this
            rw [this]; rfl
          · rw [World.cell?_setCells_out g news _ w _ (fun _ _ => by simp; omega)]
            exact (h9 j hj).1
  · have hold : (Builtin.firstCells i.size n (.slice p n c)).run P w.drew = .ok cs.toArray w.drew := by
      obtain ⟨h1, h2, p', c', e', -, -, h5⟩ := id h
      cases e'
      rcases h5 with ⟨rfl, rfl⟩ | ⟨g, rfl, h6, h7, h8, h9⟩
      · obtain rfl : n = 0 := by omega
        obtain rfl : cs = [] := List.eq_nil_of_length_eq_zero (by simpa using h1)
        exact run_firstCells_none w.drew i.size 0 0 0
      · exact run_firstCells_some w.drew i.size n ⟨g, 0, none⟩ n c cs h1 (fun j u hj => by rw [add_none rfl]; simpa using h8 j u hj)
    have hg : c < n + m := by omega
    have hrun := run_append_grow_src (P := P) w t t ty e i z ht hi hz p n c cs hold x m news hs hg (by omega) (growslice_fits hg hbytes)
    have hge := grownCap_ge w (n + m) c e
    have hcm := grownCap_le_maxLen w (n + m) c e hmx
    have hsz : ((cs ++ news).toArray ++ Builtin.zeroCells z.cells (grownCap w (n + m) c e - (n + m))).size = grownCap w (n + m) c e * i.size := by
      rw [Array.size_append, List.size_toArray, hlen, size_zeroCells, hzs, ← Nat.add_mul]
      congr 1
      omega
    have hk : Kept [] w (w.drew.alloc (.cells ((cs ++ news).toArray ++ Builtin.zeroCells z.cells (grownCap w (n + m) c e - (n + m))) e)) := ((Kept.refl [] w).drew).alloc _
    refine ⟨_, _, hrun, ⟨hlen, hall, _, _, rfl, hge, hcm, .inr ⟨w.heap.size, rfl, hbase, by simp, fun j u hj => ?_, fun j hj => ⟨?_, World.frozen?_alloc_new w.drew _ _ j⟩⟩⟩, hk.mono (by simp), .inr rfl⟩
    · have e1 : (w.drew.alloc (.cells ((cs ++ news).toArray ++ Builtin.zeroCells z.cells (grownCap w (n + m) c e - (n + m))) e)).cell? ⟨w.heap.size, j, none⟩ = _ := World.cell?_alloc_new w.drew _ _ j
      have hjl := (List.getElem?_eq_some_iff.1 hj).1
      rw [e1, Array.getElem?_append_left (by simpa using hjl), List.getElem?_toArray, hj]
    · have e1 : (w.drew.alloc (.cells ((cs ++ news).toArray ++ Builtin.zeroCells z.cells (grownCap w (n + m) c e - (n + m))) e)).cell? ⟨w.heap.size, j, none⟩ = _ := World.cell?_alloc_new w.drew _ _ j
      rw [e1, Array.getElem?_eq_getElem (by rw [hsz]; exact hj)]
      rfl
theorem info_parts3 {P : Program} {e : TypeId} {z : Value} {sz by' : Nat} (h : (P.info? e).map (fun i => (i.zero, i.size, i.bytes)) = some (some z, sz, by')) : ∃ i, P.info? e = some i ∧ i.zero = some z ∧ i.size = sz ∧ i.bytes = by' := by
  obtain ⟨i, hi, h'⟩ := Option.map_eq_some_iff.1 h
  simp only [Prod.mk.injEq] at h'
  exact ⟨i, hi, h'.1, h'.2.1, h'.2.2⟩
/-- what is cut off a row behind its k-th element is a source -/
theorem Row.rest {P : Program} {w w' : World} {base sz g n c : Nat} {cs : List Value} {t e : TypeId} (ht : P.underlying t = some (.slice e)) (h : Row w base sz (.slice (some ⟨g, 0, none⟩) n c) n cs) (hc : ∀ (j : Nat) u, cs[j]? = some u → w'.cell? ⟨g, j, none⟩ = some u) (k : Nat) (hk : k ≤ n) (sa : Option Addr)
    (hsa : sa = if c = k then some ⟨g, 0, none⟩ else Option.map (fun x : Addr => x.add (k * sz)) (some ⟨g, 0, none⟩)) : Src P sz t (.slice sa (n - k) (c - k)) (n - k) (cs.drop (k * sz)) w' := by
  obtain ⟨h1, h2, p', c', e', h3, h4, h5⟩ := h
  cases e'
  have hl : (cs.drop (k * sz)).length = (n - k) * sz := by rw [List.length_drop, h1, Nat.sub_mul]
  have hone : ∀ u ∈ cs.drop (k * sz), u.oneCell' = true := fun u hu => h2 u (List.mem_of_mem_drop hu)
  by_cases e : c = k
  · rw [if_pos e] at hsa
    subst hsa
    have h0 : cs.drop (k * sz) = [] := List.eq_nil_of_length_eq_zero (by rw [hl, show n - k = 0 by omega]; simp)
    exact Src.ofSlice w' ht _ _ _ _ hl (fun j u hj => by rw [h0] at hj; simp at hj) hone
  · rw [if_neg e] at hsa
    subst hsa
    refine Src.ofSlice w' ht _ _ _ _ hl (fun j u hj => ?_) hone
    rw [Go.Proofs.Ytebcmcmboomgfaa.add_add, add_none (a := ⟨g, 0, none⟩) rfl]
    rw [List.getElem?_drop] at hj
    simpa using hc _ u hj
/-- the same in a walk, and at a step of a region that draws its order -/
theorem wpList_append_row {P : Program} {w : World} {ops : Array Oper} {rest : List Oper} {o : Oper} {a : Act} {Q : Exit → Act → World → Prop} (hgd : o.guard = none) (s x : Operand) (t : TypeId)
    (ho : o.op = .call { callee := .builtin .append, args := #[s, x], argTypes := #[t, t] }) (base : Nat) (e : TypeId) (i : TypeInfo) (z : Value) (sz bytes : Nat) (ht : P.underlying t = some (.slice e)) (hi : P.info? e = some i) (hz : i.zero = some z) (hsize : i.size = sz) (hby : i.bytes = bytes) (hzs : z.cells.size = sz)
    (v : Value) (n : Nat) (cs : List Value) (hv : a.eval s = v) (h : Row w base sz v n cs) (xv : Value) (m : Nat) (news : List Value) (hx : a.eval x = xv) (hs : Src P sz t xv m news w) (h63 : n + m ≤ 9223372036854775807) (hmx : n + m ≤ maxLen) (hbytes : (n + m) * bytes ≤ 140737488355328) (hbase : base ≤ w.heap.size)
    (hgo : ∀ v' w', Row w' base sz v' (n + m) (cs ++ news) → Kept v.ownBlock.toList w w' → (v'.ownBlock = v.ownBlock ∨ v'.ownBlock = some w.heap.size) → wpList P ops Q rest (a.put o.dst v') w') : wpList P ops Q (o :: rest) a w := by
  refine wpList_plain hgd fun K hK => ?_
  obtain ⟨v', w', hr, k1, k2, k3⟩ := run_append_row (P := P) w base t o.type e i z sz bytes ht hi hz hsize hby hzs v n cs h xv m news hs h63 hmx hbytes hbase
  unfold Oper.wp execOp
  simp only [ho, resolve, invoke, builtin, Sem.run_bind, Sem.run_pure, Result.andThen_ok, List.map_toArray, List.map_cons, List.map_nil, hv, hx, hr]
  exact hK _ _ (hgo v' w' k1 k2 k3)
theorem step_append_row {P : Program} {w : World} {ops : Array Oper} {o : Oper} {a : Act} {K : Act → World → Prop} {Q : Exit → Act → World → Prop} {E : Prop} (hgd : o.guard = none) (s x : Operand) (t : TypeId)
    (ho : o.op = .call { callee := .builtin .append, args := #[s, x], argTypes := #[t, t] }) (base : Nat) (e : TypeId) (i : TypeInfo) (z : Value) (sz bytes : Nat) (ht : P.underlying t = some (.slice e)) (hi : P.info? e = some i) (hz : i.zero = some z) (hsize : i.size = sz) (hby : i.bytes = bytes) (hzs : z.cells.size = sz)
    (v : Value) (n : Nat) (cs : List Value) (hv : a.eval s = v) (h : Row w base sz v n cs) (xv : Value) (m : Nat) (news : List Value) (hx : a.eval x = xv) (hs : Src P sz t xv m news w) (h63 : n + m ≤ 9223372036854775807) (hmx : n + m ≤ maxLen) (hbytes : (n + m) * bytes ≤ 140737488355328) (hbase : base ≤ w.heap.size)
    (hgo : ∀ v' w', Row w' base sz v' (n + m) (cs ++ news) → Kept v.ownBlock.toList w w' → (v'.ownBlock = v.ownBlock ∨ v'.ownBlock = some w.heap.size) → K (a.put o.dst v') w') :
    if Region.wanted o (yielded ops a.tmps) = true then Oper.wp P o a w K Q else E := by
  have hw : Region.wanted o (yielded ops a.tmps) = true := by simp [Region.wanted, hgd]
  rw [if_pos hw]
  obtain ⟨v', w', hr, k1, k2, k3⟩ := run_append_row (P := P) w base t o.type e i z sz bytes ht hi hz hsize hby hzs v n cs h xv m news hs h63 hmx hbytes hbase
  unfold Oper.wp execOp
  simp only [ho, resolve, invoke, builtin, Sem.run_bind, Sem.run_pure, Result.andThen_ok, List.map_toArray, List.map_cons, List.map_nil, hv, hx, hr]
  exact hgo v' w' k1 k2 k3
/-- 'l[k:]' and 'l[:k:k]', of elements of several cells -/
theorem run_cut_from_sz {P : Program} (w : World) (t e : TypeId) (sz : Nat) (hu : P.underlying t = some (.slice e)) (hsz : (P.info? e).map (·.size) = some sz) (p : Option Addr) (n c k : Nat) (hk : k ≤ n) :
    (Instr.slice t (.slice p n c) (some (.int .i64 (k : Int))) none none).run P w = .ok (.slice (if c = k then p else p.map (·.add (k * sz))) (n - k) (c - k)) w := by
  obtain ⟨i, hi, hs⟩ := Option.map_eq_some_iff.1 hsz
  simp [Instr.slice, run_underlying hu, Instr.sliceBounds, run_sliceBound, sizeOf, typeInfo, hi, hs, (by omega : (k : Int) ≤ (n : Int))]
theorem run_cut_tight {P : Program} (w : World) (t e : TypeId) (sz : Nat) (hu : P.underlying t = some (.slice e)) (hsz : (P.info? e).map (·.size) = some sz) (p : Option Addr) (n c k : Nat) (hk : k ≤ c) :
    (Instr.slice t (.slice p n c) none (some (.int .i64 (k : Int))) (some (.int .i64 (k : Int)))).run P w = .ok (.slice p k k) w := by
  obtain ⟨i, hi, hs⟩ := Option.map_eq_some_iff.1 hsz
  simp [Instr.slice, run_underlying hu, Instr.sliceBounds, run_sliceBound, sizeOf, typeInfo, hi, (by omega : (k : Int) ≤ (c : Int))]
  intro _
  cases p with
  | none => rfl
  | some a =>
    obtain ⟨b, o, s⟩ := a
    cases s <;> simp [Addr.add]
end Go.Proofs.Ytebcmcmboomgfaa

/-
  OWN WORK. A region that draws its order and ends with a store into a cell that it read: the reads may be taken first, and the store need keep nothing.
-/
namespace Go.Proofs.Ytebcmcmboomgfaa
open Go.RowKit
set_option linter.unusedVariables false

section
variable {P : Program} {ops : Array Oper} {Q : Exit → Act → World → Prop} {md : Region.Mode} {S : World → Prop} {z : Nat}

/-- whatever order is picked: S holds behind every operation but number z -/
def wpAnyZ (P : Program) (md : Region.Mode) (ops : Array Oper) (Q : Exit → Act → World → Prop) (S : World → Prop) (z : Nat) : Nat → Array Bool → Act → World → Prop
  | 0, listed, a, w => Region.ready md ops listed = [] ∧ Q .normal a w
  | n + 1, listed, a, w =>
    (Region.ready md ops listed = [] → Q .normal a w) ∧
      ∀ i ∈ Region.ready md ops listed, wpOp P ops Q i (fun a' w' => (i ≠ z → S w') ∧ wpAnyZ P md ops Q S z n (listed.setIfInBounds i true) a' w') a w
theorem wpAnyZ_any : ∀ (n : Nat) (listed : Array Bool) (a : Act) (w : World), wpAnyZ P md ops Q S z n listed a w → wpAny P md ops Q n listed a w
  | 0, _, _, _, h => h
  | n + 1, _, _, _, h => ⟨h.1, fun i hi => wpOp_mono (fun a' w' h' => wpAnyZ_any n _ a' w' h'.2) (h.2 i hi)⟩
/-- number z waits for number i -/
def waits (md : Region.Mode) (ops : Array Oper) (z i : Nat) : Bool := match ops[z]? with
  | some o => o.after.any fun e => Region.binds md e && e.on == i
  | none => true
theorem waits_ready {i : Nat} {listed : Array Bool} (h : waits md ops z i = true) (hi : listed.getD i false = false) : z ∉ Region.ready md ops listed := fun hm => by
  obtain ⟨-, o, ho, hall⟩ := mem_ready.1 hm
  unfold waits at h
  rw [ho] at h
  obtain ⟨k, hk, he⟩ := Array.any_eq_true.1 h
  simp at he
  have := hall (o.after[k]) (Array.getElem_mem hk) he.1
  rw [he.2, hi] at this
  cases this
theorem wpAnyZ_first {i : Nat} {oi : Oper} {v : Value} (hi : ops[i]? = some oi) (hsel : ∀ (j : Nat) (o : Oper) cs b, ops[j]? = some o → o.op ≠ .select cs b)
    (hQ : ∀ c a w, Q (.panic c) (a.put oi.dst v) w → Q (.panic c) a w) (hz : waits md ops z i = true) :
    ∀ (n : Nat) (listed : Array Bool) (a : Act) (w : World),
      (∀ j oj, ops[j]? = some oj → j ≠ i → listed.getD j true = false → (∀ e ∈ oj.after, Region.binds md e = true → e.on ≠ i) → oi.apart ops oj = true) →
      i ∈ Region.ready md ops listed → YieldsIf P ops S oi v a → S w →
      wpAnyZ P md ops Q S z n (listed.setIfInBounds i true) (a.put oi.dst v) w → wpAnyZ P md ops Q S z (n + 1) listed a w := by
  intro n
  induction n with
  | zero =>
    intro listed a w _ hr hy hS H
    refine ⟨fun h => (by rw [h] at hr; cases hr), fun j hj => ?_⟩
    by_cases e : j = i
    · subst e; exact hy.wpOp hi hS ⟨fun _ => hS, H⟩
    · have := ready_mono hj e
      rw [H.1] at this
      cases this
  | succ n ih =>
    intro listed a w hfree hr hy hS H
    have hun := (mem_ready.1 hr).1
    have hunf : listed.getD i false = false := by
      rcases Nat.lt_or_ge i listed.size with c | c
      · simp [c] at hun ⊢; exact hun
      · simp [c]
    refine ⟨fun h => (by rw [h] at hr; cases hr), fun j hj => ?_⟩
    by_cases e : j = i
    · subst e; exact hy.wpOp hi hS ⟨fun _ => hS, H⟩
    · have hjz : j ≠ z := fun c => waits_ready hz hunf (c ▸ hj)
      obtain ⟨hju, oj, hoj, hall⟩ := mem_ready.1 hj
      have hno : ∀ e ∈ oj.after, Region.binds md e = true → e.on ≠ i := fun e he hb c => by
        have := hall e he hb
        rw [c, hunf] at this
        cases this
      have h2 := wpOp_putIf hoj (hfree j oj hoj e hju hno) (fun cs b => hsel i oi cs b hi) (fun cs b => hsel j oj cs b hoj) hQ hy (H.2 j (ready_mono hj e))
      have hfree2 : ∀ k ok, ops[k]? = some ok → k ≠ i → (listed.setIfInBounds j true).getD k true = false → (∀ e ∈ ok.after, Region.binds md e = true → e.on ≠ i) → oi.apart ops ok = true := fun k ok hk hki hkj hnk => by
        by_cases c : j = k
        · subst c; exact hfree j ok hk hki hju hnk
        · exact hfree k ok hk hki (by rwa [getD_set_ne true c] at hkj) hnk
      refine wpOp_mono (fun a' w' h3 => ⟨h3.2.1, ih (listed.setIfInBounds j true) a' w' hfree2 (ready_mono hr (Ne.symm e)) h3.1 (h3.2.1 hjz) ?_⟩) h2
      rw [Array.setIfInBounds_comm _ _ e]
      exact h3.2.2
/-- take number i first -/
theorem wpAnyZ_take (i : Nat) {oi : Oper} {v : Value} {n : Nat} {listed : Array Bool} {a : Act} {w : World} (hi : ops[i]? = some oi)
    (hs : Region.noSelect ops = true) (hz : waits md ops z i = true) (hf : Region.free md ops listed i = true) (hr : (Region.ready md ops listed).contains i = true)
    (hQ : ∀ c a w, Q (.panic c) (a.put oi.dst v) w → Q (.panic c) a w) (hw : Region.wanted oi (yielded ops a.tmps) = true) (hy : ∀ w, S w → (execOp a.eval oi).run P w = .ok (.value v) w) (hS : S w)
    (h : wpAnyZ P md ops Q S z n (listed.setIfInBounds i true) (a.put oi.dst v) w) : wpAnyZ P md ops Q S z (n + 1) listed a w :=
  wpAnyZ_first hi (Region.noSelect_spec hs) hQ hz n listed a w (Region.free_spec hi hf) (by simpa using hr) (.inl ⟨hw, hy⟩) hS h
/-- only number i may come up -/
theorem wpAnyZ_one (i : Nat) {oi : Oper} {n : Nat} {listed : Array Bool} {a : Act} {w : World} (hi : ops[i]? = some oi) (hr : Region.ready md ops listed = [i])
    (h : ∀ K : Act → World → Prop, (∀ a' w', (i ≠ z → S w') → wpAnyZ P md ops Q S z n (listed.setIfInBounds i true) a' w' → K a' w') → if Region.wanted oi (yielded ops a.tmps) = true then Oper.wp P oi a w K Q else K (a.put oi.dst undef) w) : wpAnyZ P md ops Q S z (n + 1) listed a w := by
  refine ⟨fun c => absurd (hr.symm.trans c) (by simp), fun j hj => ?_⟩
  rw [hr] at hj
  simp at hj
  subst hj
  exact wpOp_step hi fun K hK => h K fun a' w' h1 h2 => hK a' w' ⟨h1, h2⟩
theorem wpAnyZ_done {listed : Array Bool} {a : Act} {w : World} (hr : Region.ready md ops listed = []) (h : Q .normal a w) : ∀ n, wpAnyZ P md ops Q S z n listed a w
  | 0 => ⟨hr, h⟩
  | _ + 1 => ⟨fun _ => h, by rw [hr]; simp⟩
theorem wp_region_late (S : World → Prop) (z : Nat) {id : Nat} {a : Act} {w : World} (hm : P.follows .mixedOrders = true)
    (h : wpAnyZ P .any ops Q S z ops.size (Array.replicate ops.size false) a w.drew) : (Code.region id ops true).wp P Q a w :=
  wp_region_any hm (wpAnyZ_any _ _ _ _ h)
end
end Go.Proofs.Ytebcmcmboomgfaa

/-
  OWN WORK. Records (layer 9): how they lie in memory.
-/
namespace Go.Proofs.Ytebcmcmboomgfaa
open Go.RowKit
set_option linter.unusedVariables false

theorem hideH {p : Prop} (h : p) : Hid p := h
theorem wrap_i64_of {x : Int} (h1 : -9223372036854775808 ≤ x) (h2 : x < 9223372036854775808) : IntKind.i64.wrap x = x := by rw [IntKind.wrap_i64]; omega
/-- block g holds just these cells -/
def Blk (w : World) (g : Nat) (t : TypeId) (cs : List Value) : Prop := w.heap[g]? = some (.cells cs.toArray t (0, 0))
theorem Blk.new (w : World) (t : TypeId) (cs : List Value) : Blk (w.alloc (.cells cs.toArray t)) w.heap.size t cs := heap_alloc_new w _
theorem Blk.lt {w : World} {g : Nat} {t : TypeId} {cs : List Value} (h : Blk w g t cs) : g < w.heap.size := (Array.getElem?_eq_some_iff.1 h).1
theorem Blk.cell {w : World} {g : Nat} {t : TypeId} {cs : List Value} (h : Blk w g t cs) {j : Nat} {v : Value} (hj : cs[j]? = some v) : w.cell? ⟨g, j, none⟩ = some v := by
  have h' : w.heap[g]? = some (.cells cs.toArray t (0, 0)) := h
  simp [World.cell?, h', hj]
theorem Blk.free {w : World} {g : Nat} {t : TypeId} {cs : List Value} (h : Blk w g t cs) (j : Nat) : w.frozen? ⟨g, j, none⟩ = false := by
  have h' : w.heap[g]? = some (.cells cs.toArray t (0, 0)) := h
  simp [World.frozen?, h']
theorem Blk.kept {w w' : World} {g : Nat} {t : TypeId} {cs : List Value} {S : List Nat} (h : Blk w g t cs) (k : Kept S w w') (hS : g ∉ S) : Blk w' g t cs := (k.block g h.lt hS).trans h
theorem Blk.set {w : World} {g : Nat} {t : TypeId} {cs : List Value} (h : Blk w g t cs) (j : Nat) (v : Value) : Blk (w.setCell ⟨g, j, none⟩ v) g t (cs.set j v) ∧ Kept [g] w (w.setCell ⟨g, j, none⟩ v) := by
  have h' : w.heap[g]? = some (.cells cs.toArray t (0, 0)) := h
  refine ⟨?_, (Kept.refl [g] w).setCell (.inl (by simp)) v⟩
  simp [Blk, World.setCell, Array.getElem?_modify, h', List.setIfInBounds_toArray]
/-- the worlds that keep what lies in w2 -/
def Calm (w2 : World) : Type := { w' : World // Kept [] w2 w' }
theorem calmNe (w2 : World) : Nonempty (Calm w2) := ⟨⟨w2, Kept.refl _ _⟩⟩
def Calm.at {w2 : World} (s : Calm w2) : World := s.1
theorem Calm.kept {w2 : World} (s : Calm w2) : Kept [] w2 s.at := s.2
theorem Calm.call {P : Program} {f : FuncId} {args : Array Value} {w2 : World} {v : Value} (c : ∀ w, Calls P f args w fun e w' => e = .returned v ∧ Kept [] w w') (s : Calm w2) : Calls P f args s.at fun e w'' => e = .returned v ∧ ∃ s' : Calm w2, w'' = s'.at :=
  (c s.at).mono fun e w'' h => ⟨h.1, ⟨w'', s.kept.then h.2⟩, rfl⟩
/-- a region that only reads, and whose callees turn nothing that was there -/
theorem wp_region_calm {P : Program} {id : Nat} {Q : Exit → Act → World → Prop} {a : Act} {w w2 : World} {l : List Oper} (k : Kept [] w2 w) (hm : P.follows .mixedOrders = true) (hB : Region.lexB .any l.toArray = true)
    (h : wpQuiet P l.toArray (fun w' => ∃ s : Calm w2, w' = s.at) (fun a' => ∀ w', (∃ s : Calm w2, w' = s.at) → Q .normal a' w') l a) : (Code.region id l.toArray true).wp P Q a w :=
  wp_region_quiet (C := fun w' => ∃ s : Calm w2, w' = s.at) hm hB ⟨⟨_, k.drew⟩, rfl⟩ (by simpa using h)
/-- v: n elements of sz cells each, the cells cs -/
def Cs (w : World) (sz : Nat) (v : Value) (n : Nat) (cs : List Value) : Prop :=
  cs.length = n * sz ∧ (∀ u ∈ cs, u.oneCell' = true) ∧ ∃ p c, v = .slice p n c ∧ n ≤ c ∧ c ≤ maxLen ∧ (p = none → c = 0) ∧ ∀ a, p = some a → ∀ (j : Nat) u, cs[j]? = some u → w.cell? (a.add j) = some u
theorem Cs.kept {w w' : World} {sz : Nat} {v : Value} {n : Nat} {cs : List Value} (h : Cs w sz v n cs) (k : Kept [] w w') : Cs w' sz v n cs := by
  obtain ⟨h1, h2, p, c, e, h3, h4, h5, h6⟩ := h
  exact ⟨h1, h2, p, c, e, h3, h4, h5, fun a ha j u hu => k.cell (h6 a ha j u hu) (by simp)⟩
theorem Row.cs {w : World} {base sz : Nat} {v : Value} {n : Nat} {cs : List Value} (h : Row w base sz v n cs) : Cs w sz v n cs := by
  obtain ⟨h1, h2, p, c, e, h3, h4, h5⟩ := h
  refine ⟨h1, h2, p, c, e, h3, h4, fun e => ?_, fun a ha j u hu => ?_⟩
  · rcases h5 with ⟨-, h5⟩ | ⟨g, e2, -⟩
    · exact h5
    · rw [e] at e2; cases e2
  · rcases h5 with ⟨e2, -⟩ | ⟨g, e2, -, -, h8, -⟩
    · rw [e2] at ha; cases ha
    · rw [e2] at ha; cases ha
      rw [add_none rfl]
      simpa using h8 j u hu
/-- where the cells lie -/
theorem Cs.pos {w : World} {sz : Nat} {v : Value} {n : Nat} {cs : List Value} (h : Cs w sz v n cs) (hn : 0 < n) (hz : 0 < sz) : ∃ b o c, v = .slice (some ⟨b, o, none⟩) n c ∧ ∀ (j : Nat) u, cs[j]? = some u → w.cell? ⟨b, o + j, none⟩ = some u := by
  obtain ⟨h1, h2, p, c, rfl, h3, h4, h5, h6⟩ := h
  cases p with
  | none => have := h5 rfl; omega
  | some a =>
    have hpos : 0 < cs.length := by rw [h1]; exact Nat.mul_pos hn hz
    have hs := spot_of_cell (h6 a rfl 0 cs[0] (List.getElem?_eq_getElem hpos))
    have hs' : a.spot = none := by
      unfold Addr.add at hs
      split at hs <;> simp_all
    obtain ⟨b, o, s⟩ := a
    simp only at hs'
    subst hs'
    refine ⟨b, o, c, rfl, fun j u hu => ?_⟩
    have := h6 _ rfl j u hu
    rwa [add_none rfl] at this
def rcells : List RowR → List Value
  | [] => []
  | x :: r => .int .i64 x.birth :: .int .i64 x.id :: .int .i64 x.state :: .int .i64 x.last :: .int .i64 x.next :: rcells r
def dcells : List RecR → List Value
  | [] => []
  | x :: r => .int .i64 x.page :: .int .i64 x.lsn :: dcells r
theorem rcells_length : ∀ (l : List RowR), (rcells l).length = l.length * 5
  | [] => rfl
  | x :: r => by simp [rcells, rcells_length r]; omega
theorem dcells_length : ∀ (l : List RecR), (dcells l).length = l.length * 2
  | [] => rfl
  | x :: r => by simp [dcells, dcells_length r]; omega
theorem rcells_at : ∀ {l : List RowR} {i : Nat} {x : RowR}, l[i]? = some x → (rcells l)[i * 5]? = some (.int .i64 x.birth) ∧ (rcells l)[i * 5 + 1]? = some (.int .i64 x.id) ∧ (rcells l)[i * 5 + 2]? = some (.int .i64 x.state) ∧ (rcells l)[i * 5 + 3]? = some (.int .i64 x.last) ∧ (rcells l)[i * 5 + 4]? = some (.int .i64 x.next)
  | [], i, x, h => by simp at h
  | y :: r, 0, x, h => by
    simp at h
    subst h
    exact ⟨rfl, rfl, rfl, rfl, rfl⟩
  | y :: r, i + 1, x, h => by
    have := rcells_at (l := r) (i := i) (x := x) (by simpa using h)
    rw [show (i + 1) * 5 = i * 5 + 5 by omega]
    exact this
theorem dcells_at : ∀ {l : List RecR} {i : Nat} {x : RecR}, l[i]? = some x → (dcells l)[i * 2]? = some (.int .i64 x.page) ∧ (dcells l)[i * 2 + 1]? = some (.int .i64 x.lsn)
  | [], i, x, h => by simp at h
  | y :: r, 0, x, h => by
    simp at h
    subst h
    exact ⟨rfl, rfl⟩
  | y :: r, i + 1, x, h => by
    have := dcells_at (l := r) (i := i) (x := x) (by simpa using h)
    rw [show (i + 1) * 2 = i * 2 + 2 by omega]
    exact this
theorem rcells_append (a b : List RowR) : rcells (a ++ b) = rcells a ++ rcells b := by
  induction a with
  | nil => rfl
  | cons x r ih => simp [rcells, ih]
theorem dcells_append (a b : List RecR) : dcells (a ++ b) = dcells a ++ dcells b := by
  induction a with
  | nil => rfl
  | cons x r ih => simp [dcells, ih]
theorem rcells_one (l : List RowR) : ∀ u ∈ rcells l, u.oneCell' = true := by
  induction l with
  | nil => simp [rcells]
  | cons x r ih =>
    intro u hu
    simp only [rcells, List.mem_cons] at hu
    rcases hu with rfl | rfl | rfl | rfl | rfl | hu
    · rfl
    · rfl
    · rfl
    · rfl
    · rfl
    · exact ih u hu
theorem dcells_one (l : List RecR) : ∀ u ∈ dcells l, u.oneCell' = true := by
  induction l with
  | nil => simp [dcells]
  | cons x r ih =>
    intro u hu
    simp only [dcells, List.mem_cons] at hu
    rcases hu with rfl | rfl | hu
    · rfl
    · rfl
    · exact ih u hu
/-- the values of a record's lists -/
structure RV where
  vb : Value
  va : Value
  vr : Value
  vd : Value
def Rcd.agg (r : Rcd) (V : RV) : Value := .agg #[.int .i64 r.kind, .int .i64 r.birth, .int .i64 r.prev, .int .i64 r.id, .int .i64 r.page, .int .i64 r.frm, V.vb, V.va, .int .i64 r.next, V.vr, V.vd]
/-- a record that is read -/
structure SeeR (w : World) (V : RV) (r : Rcd) : Prop where
  before : Bs w V.vb r.before
  after : Bs w V.va r.after
  rows : Cs w 5 V.vr r.rows.length (rcells r.rows)
  dirty : Cs w 2 V.vd r.dirty.length (dcells r.dirty)
theorem SeeR.kept {w w' : World} {V : RV} {r : Rcd} (h : SeeR w V r) (k : Kept [] w w') : SeeR w' V r := ⟨h.before.kept k, h.after.kept k, h.rows.kept k, h.dirty.kept k⟩
theorem SeeR.shapes {w : World} {V : RV} {r : Rcd} (h : SeeR w V r) : ∃ pb cb pa ca pr cr pd cd, V = ⟨.slice pb r.before.length cb, .slice pa r.after.length ca, .slice pr r.rows.length cr, .slice pd r.dirty.length cd⟩ := by
  obtain ⟨pb, cb, e1, -⟩ := h.before
  obtain ⟨pa, ca, e2, -⟩ := h.after
  obtain ⟨-, -, pr, cr, e3, -⟩ := h.rows
  obtain ⟨-, -, pd, cd, e4, -⟩ := h.dirty
  obtain ⟨vb, va, vr, vd⟩ := V
  simp only at e1 e2 e3 e4
  subst e1 e2 e3 e4
  exact ⟨pb, cb, pa, ca, pr, cr, pd, cd, rfl⟩
end Go.Proofs.Ytebcmcmboomgfaa

/-
  OWN WORK. The document's records (tidemarkref09): its small functions.
-/
namespace Go.Proofs.Ytebcmcmboomgfaa
open Go.RowKit
set_option linter.unusedVariables false
set_option linter.unusedSimpArgs false

open Classical in
noncomputable def bl (p : Prop) : Bool := decide p
theorem bl_t {p : Prop} (h : p) : bl p = true := by unfold bl; simpa using h
theorem bl_f {p : Prop} (h : ¬ p) : bl p = false := by unfold bl; simpa using h
theorem bl_d {p : Prop} [d : Decidable p] : bl p = decide p := by
  by_cases h : p
  · rw [bl_t h]; simpa using h
  · rw [bl_f h]; simpa using h
theorem rIsLsn (n : Int) (w : World) : Calls Try.prog 60 #[.int .i64 n] w fun e w' => e = .returned (.bool (bl (lsnOk n))) ∧ w' = w := by
  by_cases h1 : 1 ≤ n
  · have hq : bl (lsnOk n) = decide (n ≤ 1152921504606846976) := by unfold lsnOk; rw [bl_d]; simp [h1]
    rw [hq]
    clear hq
    go_enter Try.func60, Try.ntmps60
    go_wp2
    go_ret
    exact ⟨by simp, rfl⟩
  · have hq : bl (lsnOk n) = false := bl_f (fun h => h1 h.1)
    rw [hq]
    clear hq
    go_enter Try.func60, Try.ntmps60
    go_wp2
    go_ret
    exact ⟨by simp, rfl⟩
theorem rIsNext (n : Int) (w : World) : Calls Try.prog 62 #[.int .i64 n] w fun e w' => e = .returned (.bool (bl (nextOk n))) ∧ w' = w := by
  by_cases h1 : 0 ≤ n
  · have hq : bl (nextOk n) = decide (n ≤ 1152921504606846976) := by unfold nextOk; rw [bl_d]; simp [h1]
    rw [hq]
    clear hq
    go_enter Try.func62, Try.ntmps62
    go_wp2
    go_ret
    exact ⟨by simp, rfl⟩
  · have hq : bl (nextOk n) = false := bl_f (fun h => h1 h.1)
    rw [hq]
    clear hq
    go_enter Try.func62, Try.ntmps62
    go_wp2
    go_ret
    exact ⟨by simp, rfl⟩
theorem putN_step (n : Nat) : ∀ (k v : Nat), putN k v ++ putN (n + 1) (v / 256 ^ k) = putN (k + 1) v ++ putN n (v / 256 ^ (k + 1))
  | 0, v => by simp [putN]
  | k + 1, v => by
    have := putN_step n k (v / 256)
    simp only [putN, List.cons_append] at this ⊢
    rw [show v / 256 ^ (k + 1) = v / 256 / 256 ^ k by rw [Nat.pow_succ', Nat.div_div_eq_div_mul], show v / 256 ^ (k + 1 + 1) = v / 256 / 256 ^ (k + 1) by rw [Nat.pow_succ' (n := k + 1), Nat.div_div_eq_div_mul]]
    rw [← this]
theorem putN_next (k v : Nat) : putN (k + 1) v = putN k v ++ [UInt8.ofNat (v / 256 ^ k % 256)] := by
  have := putN_step 0 k v
  simp only [putN, List.append_nil] at this
  exact this.symm
theorem put_byte (x : Nat) : IntKind.u8.wrap ((x : Int) % 256) = ((UInt8.ofNat (x % 256)).toNat : Int) := by
  rw [UInt8.toNat_ofNat']
  unfold IntKind.wrap
  simp [IntKind.signed, IntKind.bits]
set_option maxHeartbeats 3200000 in
theorem rPut (u : Value) (b : List UInt8) (v n base : Nat) (w : World) (hu : w.ownsRow base 5 1 u b.length (u8s b)) (hv : v ≤ topLsn) (hn : n ≤ 8) (hcap : b.length + n ≤ 140737488355328) (hb : base ≤ w.heap.size) :
    Calls Try.prog 40 #[u, .int .i64 (v : Int), .int .i64 (n : Int)] w fun e w' => ∃ u', e = .returned u' ∧ w'.ownsRow base 5 1 u' (b.length + n) (u8s (b ++ putN n v)) ∧ Kept u.ownBlock.toList w w' ∧ (∀ x, u'.ownBlock = some x → u.ownBlock = some x ∨ w.heap.size ≤ x) := by
  obtain ⟨p0, c0, rfl⟩ := own_shape2 hu
  have HB := @hideH _ hb
  have HV := @hideH _ hv
  have HN := @hideH _ hn
  have HC := @hideH _ hcap
  have HU := @hideH _ hu
  clear hb hv hn hcap hu
  go_enter Try.func40, Try.ntmps40
  go_wp2
  go_loopw [0, 1, 7] (fun l x i wr => ∃ k : Nat, k ≤ n ∧ i = .int .i64 k ∧ x = .int .i64 ((v / 256 ^ k : Nat) : Int) ∧ Hid (wr.ownsRow base 5 1 l (b.length + k) (u8s (b ++ putN k v)) ∧ Kept (Value.slice p0 b.length c0).ownBlock.toList w wr ∧ ∀ y, l.ownBlock = some y → (Value.slice p0 b.length c0).ownBlock = some y ∨ w.heap.size ≤ y)) (fun _ _ i _ => n - (intOf i).toNat)
  case atStart => exact ⟨0, Nat.zero_le _, rfl, by simp, by simpa [putN] using HU.out, Kept.refl _ _, fun y hy => .inl hy⟩
  case round =>
    clear HU
    obtain ⟨k, hk, rfl, rfl, hh⟩ := hrel
    by_cases hkn : k < n
    · have hkn' : (k : Int) < (n : Int) := by omega
      have wk : IntKind.i64.wrap ((k : Int) + 1) = (k : Int) + 1 := wrap_i64_of (by omega) (by have := HN.out; omega)
      obtain ⟨x, hx⟩ : ∃ x, x = v / 256 ^ k := ⟨_, rfl⟩
      have hxl : x ≤ topLsn := by rw [hx]; exact Nat.le_trans (Nat.div_le_self _ _) HV.out
      have hx2 : v / 256 ^ (k + 1) = x / 256 := by rw [hx, Nat.pow_succ, Nat.div_div_eq_div_mul]
      rw [← hx]
      have hy := putN_next k v
      rw [← hx] at hy
      obtain ⟨p, c, el⟩ := own_shape2 hh.out.1
      subst el
      obtain ⟨m, hm⟩ : ∃ m, m = x % 256 := ⟨_, rfl⟩
      have hmr : (x : Int).tmod 256 = (m : Int) := by rw [Int.tmod_eq_emod_of_nonneg (by omega), hm]; omega
      have hmq : (x : Int).tdiv 256 = ((x / 256 : Nat) : Int) := by rw [Int.tdiv_eq_ediv_of_nonneg (by omega)]; omega
      have wm : IntKind.i64.wrap (m : Int) = (m : Int) := wrap_i64_of (by omega) (by omega)
      have wq : IntKind.i64.wrap ((x / 256 : Nat) : Int) = ((x / 256 : Nat) : Int) := wrap_i64_of (by omega) (by unfold topLsn at hxl; omega)
      have wb : IntKind.u8.wrap (m : Int) = ((UInt8.ofNat m).toNat : Int) := by rw [hm, ← put_byte]; congr 1
      have HM := @hideH _ (And.intro hm (And.intro hxl (And.intro hx2 (And.intro hy hx))))
      have ha := @hideH _ (hh.out.1.alloc (.cells #[.int .u8 ((UInt8.ofNat m).toNat : Int)] 5))
      have bc := byte_cell wr 5 _ (UInt8.ofNat m) rfl
      clear hx hxl hx2 hy hm
      go_wp2_with (at_builtin; refine wpList_append_byte rfl (.tmp 13) (.tmp 17) 22 rfl base 5 Try.underlying22 (by kernel_rfl) _ _ _ (by rfl) ha.out ⟨wr.heap.size, 0, none⟩ 1 (UInt8.ofNat m) (by rfl) bc (by have e1 := HC.out; omega) (by have e1 := HB.out; have e2 := hh.out.2.1.size; simp; omega) ?_; intro v2 w2 o2 g2 at2; have k2 : Kept (Value.slice p0 b.length c0).ownBlock.toList w w2 := (hh.out.2.1.alloc _).grown g2 (fun y hy => (hh.out.2.2 y hy).elim (fun e => .inl (by simp [e])) .inr); have REL := @hideH _ (And.intro (show w2.ownsRow base 5 1 v2 (b.length + (k + 1)) (u8s (b ++ putN (k + 1) v)) by rw [HM.out.2.2.2.1, ← List.append_assoc, ← HM.out.1]; exact o2) (And.intro k2 (show ∀ y, v2.ownBlock = some y → (Value.slice p0 b.length c0).ownBlock = some y ∨ w.heap.size ≤ y from fun y hy => by rcases at2 with e | e; (exact hh.out.2.2 y (by rw [← e]; exact hy)); (have e2 := hh.out.2.1.size; rw [e.1] at hy; simp at hy; right; omega)))); clear o2 g2 at2 k2)
      clear ha bc hh
      go_roundw
      case rel => exact ⟨k + 1, by omega, by go_num, by rw [HM.out.2.2.1]; exact congrArg (Value.int .i64) (by have e9 := HM.out.2.1; unfold topLsn at e9; unfold wrap64; omega), REL⟩
      case measure => simp [intOf]; omega
    · have hkn' : ¬ (k : Int) < (n : Int) := by omega
      obtain rfl : k = n := by omega
      go_wp2
      go_ret
      exact ⟨_, rfl, hh.out⟩
theorem rUnranged (V : RV) (r : Rcd) (w : World) (h : SeeR w V r) : Calls Try.prog 63 #[r.agg V] w fun e w' => e = .returned (.bool (bl (r.page = 0 ∧ r.frm = 0 ∧ r.after = []))) ∧ Kept [] w w' := by
  obtain ⟨pb, cb, pa, ca, pr, cr, pd, cd, rfl⟩ := h.shapes
  obtain ⟨kind, birth, prev, id, page, frm, before, after, next, rows, dirty⟩ := r
  clear h
  unfold Rcd.agg
  dsimp only
  by_cases h1 : page = 0
  · by_cases h2 : frm = 0
    · have hq : bl (page = 0 ∧ frm = 0 ∧ after = []) = ((after.length : Int) == 0) := by rw [bl_d]; cases after <;> simp [h1, h2]; omega
      rw [hq]
      clear hq
      subst h1 h2
      go_enter Try.func63, Try.ntmps63
      go_wp2
      go_ret
      exact ⟨by simp, (Kept.refl [] w).alloc _⟩
    · have hq : bl (page = 0 ∧ frm = 0 ∧ after = []) = false := bl_f fun h => h2 h.2.1
      have h2b : (frm == 0) = false := by simp [h2]
      rw [hq]
      clear hq
      subst h1
      go_enter Try.func63, Try.ntmps63
      go_wp2
      go_ret
      exact ⟨by simp [h2], (Kept.refl [] w).alloc _⟩
  · have hq : bl (page = 0 ∧ frm = 0 ∧ after = []) = false := bl_f fun h => h1 h.1
    have h1b : (page == 0) = false := by simp [h1]
    rw [hq]
    clear hq
    go_enter Try.func63, Try.ntmps63
    go_wp2
    go_ret
    exact ⟨by simp [h1], (Kept.refl [] w).alloc _⟩
end Go.Proofs.Ytebcmcmboomgfaa

/-
  OWN WORK (by mkrec.py). The document's records (tidemarkref09): row, ranged.
-/
namespace Go.Proofs.Ytebcmcmboomgfaa
open Go.RowKit
set_option linter.unusedVariables false
set_option linter.unusedSimpArgs false

def after_len (n : Nat) : Prop := n ≤ maxLen
set_option maxHeartbeats 1600000 in
theorem rRow (x : RowR) (w : World) : Calls Try.prog 78 #[.agg #[.int .i64 x.birth, .int .i64 x.id, .int .i64 x.state, .int .i64 x.last, .int .i64 x.next]] w fun e w' => e = .returned (.bool (bl (rowOk x))) ∧ Kept [] w w' := by
  obtain ⟨birth, id, state, last, next⟩ := x
  dsimp only
  have hl1 := fun w => rIsLsn birth w
  have hl2 := fun w => rIsLsn last w
  have hl3 := fun w => rIsNext next w
  have F : ∀ {P : Prop}, (rowOk ⟨birth, id, state, last, next⟩ → P) → ¬ P → bl (rowOk ⟨birth, id, state, last, next⟩) = false := fun h1 h2 => bl_f fun h => h2 (h1 h)
  by_cases h1 : lsnOk birth
  · rw [bl_t h1] at hl1
    by_cases h2 : 1 ≤ id
    · by_cases h3 : id ≤ 64
      · by_cases h4 : state = 1
        · subst h4
          by_cases h5 : lsnOk last
          · rw [bl_t h5] at hl2
            by_cases h6 : nextOk next
            · rw [bl_t h6] at hl3
              rw [bl_t (show rowOk _ from ⟨h1, ⟨h2, h3⟩, .inl rfl, h5, h6⟩)]
              clear F h1 h5 h6
              go_enter Try.func78, Try.ntmps78
              go_wp2_with fail
              refine (hl1 _).mono ?_
              rintro e w1 ⟨rfl, rfl⟩
              go_wp2_with fail
              refine (hl2 _).mono ?_
              rintro e w2 ⟨rfl, rfl⟩
              go_wp2_with fail
              refine (hl3 _).mono ?_
              rintro e w3 ⟨rfl, rfl⟩
              go_wp2
              go_ret
              exact ⟨by simp, (Kept.refl [] _).alloc _⟩
            · rw [F (fun h => h.2.2.2.2) h6]
              rw [bl_f h6] at hl3
              clear F h1 h5 h6
              go_enter Try.func78, Try.ntmps78
              go_wp2_with fail
              refine (hl1 _).mono ?_
              rintro e w1 ⟨rfl, rfl⟩
              go_wp2_with fail
              refine (hl2 _).mono ?_
              rintro e w2 ⟨rfl, rfl⟩
              go_wp2_with fail
              refine (hl3 _).mono ?_
              rintro e w3 ⟨rfl, rfl⟩
              go_wp2
              go_ret
              exact ⟨by simp, (Kept.refl [] _).alloc _⟩
          · rw [F (fun h => h.2.2.2.1) h5]
            rw [bl_f h5] at hl2
            clear F h1 h5
            go_enter Try.func78, Try.ntmps78
            go_wp2_with fail
            refine (hl1 _).mono ?_
            rintro e w1 ⟨rfl, rfl⟩
            go_wp2_with fail
            refine (hl2 _).mono ?_
            rintro e w2 ⟨rfl, rfl⟩
            go_wp2
            go_ret
            exact ⟨by simp, (Kept.refl [] _).alloc _⟩
        · by_cases h4' : state = 2
          · subst h4'
            by_cases h5 : lsnOk last
            · rw [bl_t h5] at hl2
              by_cases h6 : nextOk next
              · rw [bl_t h6] at hl3
                rw [bl_t (show rowOk _ from ⟨h1, ⟨h2, h3⟩, .inr rfl, h5, h6⟩)]
                clear F h1 h5 h6
                go_enter Try.func78, Try.ntmps78
                go_wp2_with fail
                refine (hl1 _).mono ?_
                rintro e w1 ⟨rfl, rfl⟩
                go_wp2_with fail
                refine (hl2 _).mono ?_
                rintro e w2 ⟨rfl, rfl⟩
                go_wp2_with fail
                refine (hl3 _).mono ?_
                rintro e w3 ⟨rfl, rfl⟩
                go_wp2
                go_ret
                exact ⟨by simp, (Kept.refl [] _).alloc _⟩
              · rw [F (fun h => h.2.2.2.2) h6]
                rw [bl_f h6] at hl3
                clear F h1 h5 h6
                go_enter Try.func78, Try.ntmps78
                go_wp2_with fail
                refine (hl1 _).mono ?_
                rintro e w1 ⟨rfl, rfl⟩
                go_wp2_with fail
                refine (hl2 _).mono ?_
                rintro e w2 ⟨rfl, rfl⟩
                go_wp2_with fail
                refine (hl3 _).mono ?_
                rintro e w3 ⟨rfl, rfl⟩
                go_wp2
                go_ret
                exact ⟨by simp, (Kept.refl [] _).alloc _⟩
            · rw [F (fun h => h.2.2.2.1) h5]
              rw [bl_f h5] at hl2
              clear F h1 h5
              go_enter Try.func78, Try.ntmps78
              go_wp2_with fail
              refine (hl1 _).mono ?_
              rintro e w1 ⟨rfl, rfl⟩
              go_wp2_with fail
              refine (hl2 _).mono ?_
              rintro e w2 ⟨rfl, rfl⟩
              go_wp2
              go_ret
              exact ⟨by simp, (Kept.refl [] _).alloc _⟩
          · rw [F (fun h => h.2.2.1) (fun h => by rcases h with h | h; exact h4 h; exact h4' h)]
            have e1 : (state == 1) = false := by simp [h4]
            have e2 : (state == 2) = false := by simp [h4']
            clear F h1
            go_enter Try.func78, Try.ntmps78
            go_wp2_with fail
            refine (hl1 _).mono ?_
            rintro e w1 ⟨rfl, rfl⟩
            go_wp2
            go_ret
            exact ⟨by simp, (Kept.refl [] _).alloc _⟩
      · rw [F (fun h => h.2.1.2) h3]
        clear F h1
        go_enter Try.func78, Try.ntmps78
        go_wp2_with fail
        refine (hl1 _).mono ?_
        rintro e w1 ⟨rfl, rfl⟩
        go_wp2
        go_ret
        exact ⟨by simp, (Kept.refl [] _).alloc _⟩
    · rw [F (fun h => h.2.1.1) h2]
      clear F h1
      go_enter Try.func78, Try.ntmps78
      go_wp2_with fail
      refine (hl1 _).mono ?_
      rintro e w1 ⟨rfl, rfl⟩
      go_wp2
      go_ret
      exact ⟨by simp, (Kept.refl [] _).alloc _⟩
  · rw [F (fun h => h.1) h1]
    rw [bl_f h1] at hl1
    clear F h1
    go_enter Try.func78, Try.ntmps78
    go_wp2_with fail
    refine (hl1 _).mono ?_
    rintro e w1 ⟨rfl, rfl⟩
    go_wp2
    go_ret
    exact ⟨by simp, (Kept.refl [] _).alloc _⟩
set_option maxHeartbeats 1600000 in
theorem rRanged (V : RV) (r : Rcd) (w : World) (h : SeeR w V r) : Calls Try.prog 64 #[r.agg V] w fun e w' => e = .returned (.bool (bl (rangedOk r))) ∧ Kept [] w w' := by
  obtain ⟨pb, cb, pa, ca, pr, cr, pd, cd, rfl⟩ := h.shapes
  have hal : after_len r.after.length := (by obtain ⟨_, _, e, h1, h2, _⟩ := h.after; cases e; exact Nat.le_trans h1 h2)
  obtain ⟨kind, birth, prev, id, page, frm, before, after, next, rows, dirty⟩ := r
  clear h
  unfold Rcd.agg
  dsimp only at hal ⊢
  obtain ⟨n, hn⟩ : ∃ n, n = after.length := ⟨_, rfl⟩
  have R : rangedOk ⟨kind, birth, prev, id, page, frm, before, after, next, rows, dirty⟩ ↔ ((0 ≤ page ∧ page < 16) ∧ (1 ≤ n ∧ n ≤ 128) ∧ 16 ≤ frm ∧ frm ≤ 144 - (n : Int)) := by rw [hn]; exact Iff.rfl
  have wn : IntKind.i64.wrap (144 - (n : Int)) = 144 - (n : Int) := wrap_i64_of (by unfold after_len maxLen at hal; omega) (by omega)
  rw [← hn]
  have HN := @hideH _ (And.intro hn hal)
  clear hn hal
  have F : ∀ {P : Prop}, (rangedOk ⟨kind, birth, prev, id, page, frm, before, after, next, rows, dirty⟩ → P) → ¬ P → bl (rangedOk ⟨kind, birth, prev, id, page, frm, before, after, next, rows, dirty⟩) = false := fun h1 h2 => bl_f fun h => h2 (h1 h)
  by_cases h1 : 0 ≤ page
  · by_cases h2 : page < 16
    · by_cases h3 : 1 ≤ n
      · by_cases h4 : n ≤ 128
        · by_cases h5 : 16 ≤ frm
          · by_cases h6 : frm ≤ 144 - (n : Int)
            · rw [bl_t (R.2 ⟨⟨h1, h2⟩, ⟨h3, h4⟩, h5, h6⟩)]
              clear F R
              have h3' : (1 : Int) ≤ (n : Int) := by omega
              have h4' : (n : Int) ≤ 128 := by omega
              go_enter Try.func64, Try.ntmps64
              go_wp2
              go_ret
              exact ⟨by simp, (Kept.refl [] _).alloc _⟩
            · rw [F (fun h => (R.1 h).2.2.2) h6]
              clear F R
              have h3' : (1 : Int) ≤ (n : Int) := by omega
              have h4' : (n : Int) ≤ 128 := by omega
              go_enter Try.func64, Try.ntmps64
              go_wp2
              go_ret
              exact ⟨by simp, (Kept.refl [] _).alloc _⟩
          · rw [F (fun h => (R.1 h).2.2.1) h5]
            clear F R
            have h3' : (1 : Int) ≤ (n : Int) := by omega
            have h4' : (n : Int) ≤ 128 := by omega
            go_enter Try.func64, Try.ntmps64
            go_wp2
            go_ret
            exact ⟨by simp, (Kept.refl [] _).alloc _⟩
        · rw [F (fun h => (R.1 h).2.1.2) h4]
          clear F R
          have h3' : (1 : Int) ≤ (n : Int) := by omega
          have h4' : ¬ (n : Int) ≤ 128 := by omega
          go_enter Try.func64, Try.ntmps64
          go_wp2
          go_ret
          exact ⟨by simp, (Kept.refl [] _).alloc _⟩
      · rw [F (fun h => (R.1 h).2.1.1) h3]
        clear F R
        have h3' : ¬ (1 : Int) ≤ (n : Int) := by omega
        go_enter Try.func64, Try.ntmps64
        go_wp2
        go_ret
        exact ⟨by simp, (Kept.refl [] _).alloc _⟩
    · rw [F (fun h => (R.1 h).1.2) h2]
      clear F R
      go_enter Try.func64, Try.ntmps64
      go_wp2
      go_ret
      exact ⟨by simp, (Kept.refl [] _).alloc _⟩
  · rw [F (fun h => (R.1 h).1.1) h1]
    clear F R
    go_enter Try.func64, Try.ntmps64
    go_wp2
    go_ret
    exact ⟨by simp, (Kept.refl [] _).alloc _⟩
end Go.Proofs.Ytebcmcmboomgfaa

