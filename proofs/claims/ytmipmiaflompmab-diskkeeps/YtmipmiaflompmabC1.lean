import Derived.WalkKit
import Derived.WalkSpells
import Derived.WalkLawsBesides
import Derived.Laws.CopyOwn
import Derived.Laws.AppendOwnNone
import Derived.Laws.BytesArg
import Derived.Deep.AppendLies
import Derived.Test.YtmipmiaflompmabRows
import Derived.ProofKit
import Derived.OpenShut
import Derived.JoinedCond
import Derived.SizedLaws
import Derived.Deep.Matrix
import Derived.Laws.Bits64
import Derived.Deep.Upon
import Derived.Deep.QuietTactic
import Derived.BigQuiet
import Derived.Handy
import Derived.Deep.DeepCutAuto
import Derived.Deep.RegionHeld3
import Derived.Deep.RegionLaw
/-
  OWN WORK. Words for byte slices in memory, whatever the program: 'Bs w v l' (the value v is a slice of the bytes l in w), 'Kept S w w'' (what was there is as it was, but for the blocks of S).
-/
namespace Go.Proofs.Ytmipmiaflompmab
open Go.RowKit
set_option linter.unusedVariables false

/-- the cells that hold these bytes -/
def u8s (l : List UInt8) : List Value := l.map fun x => Value.int .u8 (x.toNat : Int)
theorem u8s_length (l : List UInt8) : (u8s l).length = l.length := by simp [u8s]
theorem u8s_append (a b : List UInt8) : u8s (a ++ b) = u8s a ++ u8s b := by simp [u8s]
theorem u8s_one (l : List UInt8) (u : Value) : u ∈ u8s l → u.oneCell' = true := by
  intro h
  obtain ⟨x, _, rfl⟩ := List.mem_map.1 h
  rfl
theorem u8s_at {l : List UInt8} {j : Nat} {u : Value} (h : (u8s l)[j]? = some u) : ∃ x, l[j]? = some x ∧ u = .int .u8 (x.toNat : Int) := by
  simp only [u8s, List.getElem?_map, Option.map_eq_some_iff] at h
  obtain ⟨x, hx, rfl⟩ := h
  exact ⟨x, hx, rfl⟩

structure Kept (S : List Nat) (w w' : World) : Prop where
  os : w'.os = w.os
  tape : w'.tape = w.tape
  output : w'.output = w.output
  size : w.heap.size ≤ w'.heap.size
  block : ∀ k, k < w.heap.size → k ∉ S → w'.heap[k]? = w.heap[k]?

theorem Kept.refl (S : List Nat) (w : World) : Kept S w w := ⟨rfl, rfl, rfl, Nat.le_refl _, fun _ _ _ => rfl⟩
theorem Kept.trans {S T : List Nat} {a b c : World} (h : Kept S a b) (k : Kept T b c) (hT : ∀ x ∈ T, x ∈ S ∨ a.heap.size ≤ x) : Kept S a c :=
  ⟨k.os.trans h.os, k.tape.trans h.tape, k.output.trans h.output, Nat.le_trans h.size k.size, fun x hx hn =>
    (k.block x (Nat.lt_of_lt_of_le hx h.size) (fun hm => by rcases hT x hm with h' | h'; exact hn h'; omega)).trans (h.block x hx hn)⟩
theorem Kept.then {S : List Nat} {a b c : World} (h : Kept S a b) (k : Kept [] b c) : Kept S a c := h.trans k (by simp)
theorem Kept.mono {S T : List Nat} {a b : World} (h : Kept S a b) (hT : ∀ x ∈ S, x ∈ T) : Kept T a b :=
  ⟨h.os, h.tape, h.output, h.size, fun x hx hn => h.block x hx fun hm => hn (hT x hm)⟩
theorem Kept.alloc {S : List Nat} {a w : World} (h : Kept S a w) (o : Obj) : Kept S a (w.alloc o) :=
  h.trans (T := []) ⟨rfl, rfl, rfl, by simp, fun x hx _ => Below.heap_alloc w o x hx⟩ (by simp)
theorem Kept.drew {S : List Nat} {a w : World} (h : Kept S a w) : Kept S a w.drew := ⟨h.os, h.tape, h.output, h.size, h.block⟩
theorem Kept.below {w w' : World} (h : Kept [] w w') : Below w.heap.size w w' := ⟨h.os, h.tape, h.output, h.size, fun x hx => h.block x hx (by simp)⟩
theorem Kept.ofBelow {w w' : World} (h : Below w.heap.size w w') : Kept [] w w' := ⟨h.os, h.tape, h.output, h.size, fun x hx _ => h.block x hx⟩
theorem Kept.ofGrown {w w' : World} {r : Option Nat} {S : List Nat} (h : w.grownBy w' r) (hr : ∀ k, r = some k → k < w.heap.size → k ∈ S) : Kept S w w' :=
  ⟨h.os, h.tape, h.output, h.size, fun x hx hn => h.block x hx fun e => hn (hr x e.symm hx)⟩
/-- a row of the call's own grew -/
theorem Kept.grown {S : List Nat} {a w w' : World} {r : Option Nat} (h : Kept S a w) (hg : w.grownBy w' r) (hr : ∀ k, r = some k → k ∈ S ∨ a.heap.size ≤ k) : Kept S a w' :=
  h.trans (T := r.toList) (Kept.ofGrown hg (by intro k e _; subst e; simp)) (by intro x hx; exact hr x (by simpa using hx))
theorem Kept.setCell {S : List Nat} {a w : World} (h : Kept S a w) {p : Addr} (hp : p.block ∈ S ∨ a.heap.size ≤ p.block) (u : Value) : Kept S a (w.setCell p u) :=
  h.trans (T := [p.block]) ⟨rfl, rfl, rfl, by simp, fun x hx hn => Below.heap_setCell w p u x (by simpa using hn)⟩ (by intro x hx; simp at hx; subst hx; exact hp)

theorem lt_of_cell {w : World} {a : Addr} {v : Value} (h : w.cell? a = some v) : a.block < w.heap.size := by
  rcases Nat.lt_or_ge a.block w.heap.size with hl | hl
  · exact hl
  · simp [World.cell?, Array.getElem?_eq_none hl] at h
theorem spot_of_cell {w : World} {a : Addr} {v : Value} (h : w.cell? a = some v) : a.spot = none := by
  unfold World.cell? at h
  split at h
  · split at h
    · cases h
    · rename_i hs; simpa using hs
  · cases h
theorem Kept.cell {S : List Nat} {w w' : World} (h : Kept S w w') {a : Addr} {v : Value} (hc : w.cell? a = some v) (hn : a.block ∉ S) : w'.cell? a = some v := by
  rw [World.cell?_of_block (h.block a.block (lt_of_cell hc) hn)]; exact hc
theorem add_block (a : Addr) (i : Nat) : (a.add i).block = a.block := by unfold Addr.add; split <;> rfl
theorem add_none {a : Addr} (h : a.spot = none) (i : Nat) : a.add i = ⟨a.block, a.off + i, none⟩ := by
  obtain ⟨b, o, s⟩ := a
  simp only at h; subst h
  unfold Addr.add; split <;> simp_all

theorem add_add (a : Addr) (k i : Nat) : (a.add k).add i = a.add (k + i) := by
  obtain ⟨b, o, s⟩ := a
  by_cases hk : k = 0
  · subst hk; simp [Addr.add]
  · by_cases hi : i = 0
    · subst hi; simp [Addr.add]
    · simp [Addr.add, hk, hi, Nat.add_assoc]

/-- THE VALUE v IS A SLICE OF THE BYTES l IN w. -/
def Bs (w : World) (v : Value) (l : List UInt8) : Prop :=
  ∃ (p : Option Addr) (c : Nat), v = .slice p l.length c ∧ l.length ≤ c ∧ c ≤ maxLen ∧ (p = none → c = 0) ∧
    ∀ a, p = some a → ∀ (i : Nat) x, l[i]? = some x → w.cell? (a.add i) = some (.int .u8 (x.toNat : Int))

/-- of one byte or more: where it lies -/
theorem Bs.pos {w : World} {v : Value} {l : List UInt8} (h : Bs w v l) (hl : 0 < l.length) :
    ∃ b o c, v = .slice (some ⟨b, o, none⟩) l.length c ∧ l.length ≤ c ∧ c ≤ maxLen ∧ b < w.heap.size ∧ ∀ (i : Nat) x, l[i]? = some x → w.cell? ⟨b, o + i, none⟩ = some (.int .u8 (x.toNat : Int)) := by
  obtain ⟨p, c, rfl, h1, h2, h3, h4⟩ := h
  cases p with
  | none => have := h3 rfl; omega
  | some a =>
    have hc := h4 a rfl 0 l[0] (List.getElem?_eq_getElem hl)
    have hs := spot_of_cell hc
    have hs' : a.spot = none := by
      unfold Addr.add at hs
      split at hs <;> simp_all
    have hb := lt_of_cell hc
    rw [add_block] at hb
    refine ⟨a.block, a.off, c, by obtain ⟨b, o, s⟩ := a; simp_all, h1, h2, hb, fun i x hx => ?_⟩
    rw [← add_none hs' i]
    exact h4 a rfl i x hx

theorem Bs.nil (w : World) : Bs w (.slice none 0 0) [] := ⟨none, 0, rfl, Nat.le_refl _, by simp [maxLen], fun _ => rfl, fun a h => (by cases h)⟩
theorem Bs.mk {w : World} {b o c : Nat} {l : List UInt8} (h1 : l.length ≤ c) (h2 : c ≤ maxLen) (h : ∀ (i : Nat) x, l[i]? = some x → w.cell? ⟨b, o + i, none⟩ = some (.int .u8 (x.toNat : Int))) : Bs w (.slice (some ⟨b, o, none⟩) l.length c) l :=
  ⟨_, c, rfl, h1, h2, fun e => (by cases e), fun a e i x hx => (by cases e; rw [add_none rfl]; exact h i x hx)⟩
/-- carried to a world in which its cells are as they were -/
theorem Bs.carry {w w' : World} {v : Value} {l : List UInt8} (h : Bs w v l) (hc : ∀ (a : Addr) (x : UInt8), w.cell? a = some (.int .u8 (x.toNat : Int)) → v.ownBlock = some a.block → w'.cell? a = some (.int .u8 (x.toNat : Int))) : Bs w' v l := by
  obtain ⟨p, c, rfl, h1, h2, h3, h4⟩ := h
  exact ⟨p, c, rfl, h1, h2, h3, fun a e i x hx => hc _ x (h4 a e i x hx) (by subst e; simp [Value.ownBlock, add_block])⟩
theorem Bs.kept {w w' : World} {v : Value} {l : List UInt8} (h : Bs w v l) (k : Kept [] w w') : Bs w' v l := h.carry fun a x hx _ => k.cell hx (by simp)
/-- block k holds one slice and nothing else: a box that no byte lies in -/
def Box (w : World) (k : Nat) : Prop := ∃ p n c t m, w.heap[k]? = some (.cells #[.slice p n c] t m)
theorem Bs.keptBox {w w' : World} {v : Value} {l : List UInt8} {S : List Nat} (h : Bs w v l) (k : Kept S w w') (hS : ∀ x ∈ S, Box w x ∨ w.heap.size ≤ x) : Bs w' v l := h.carry fun a x hx _ => k.cell hx fun hm => by
  rcases hS _ hm with ⟨p, n, c, t, m, hb⟩ | hb
  · simp only [World.cell?, hb] at hx
    split at hx
    · cases hx
    · rcases ha : a.off with _ | j
      · simp [ha] at hx
      · simp [ha] at hx
  · have := lt_of_cell hx; omega
/-- behind 'kept but for v's own elder rows': its own block is not among those let go -/
theorem Bs.keptOwn {w w' : World} {v : Value} {l : List UInt8} {S : List Nat} (h : Bs w v l) (k : Kept S w w') (hS : ∀ x, v.ownBlock = some x → x ∉ S) : Bs w' v l := h.carry fun a x hx ho => k.cell hx (hS _ ho)

/-- an owned row of bytes is a slice of them -/
theorem Bs.ofOwn {w : World} {base e : Nat} {v : Value} {n : Nat} {l : List UInt8} (h : w.ownsRow base e 1 v n (u8s l)) : Bs w v l := by
  have hn : n = l.length := by have := h.1; rw [u8s_length] at this; omega
  subst hn
  rcases h.2 with ⟨rfl, h0⟩ | ⟨g, cap, cur, rfl, _, hg, h1, h2, h3, h4⟩
  · have : l = [] := List.eq_nil_of_length_eq_zero h0
    subst this
    exact Bs.nil w
  · refine Bs.mk h1 h2 fun i x hx => ?_
    have hc := h.cells (g := g) rfl i (.int .u8 (x.toNat : Int)) (by simp [u8s, hx])
    rw [add_none rfl] at hc
    exact hc
theorem own_ge {w : World} {base e size : Nat} {v : Value} {n : Nat} {xs : List Value} (h : w.ownsRow base e size v n xs) (k : Nat) (hk : v.ownBlock = some k) : base ≤ k := (h.lt k hk).1

/-- 'string(b)' -/
theorem Bs.convert {P : Program} {w : World} {v : Value} {l : List UInt8} (h : Bs w v l) {src dst e : TypeId} (hs : P.underlying src = some (.slice e)) (he : P.underlying e = some (.int .u8)) (hd : P.underlying dst = some .string) :
    (convert src dst v).run P w = .ok (.string ⟨l.toArray⟩) w := by
  obtain ⟨p, c, rfl, h1, h2, h3, h4⟩ := h
  cases p with
  | none =>
    have hc := h3 rfl
    have : l = [] := List.eq_nil_of_length_eq_zero (by omega)
    subst this
    rw [run_convert_bytes_nil w src e hs he _ _ dst hd]
    rfl
  | some a =>
    have hl : (loadCells a l.length).run P w = .ok ((l.map fun x => (x.toNat : Int)).map (Value.int .u8)).toArray w := by
      have := run_loadCells_list (P := P) w a ((l.map fun x => (x.toNat : Int)).map (Value.int .u8)) (fun j v hj => by
        simp only [List.getElem?_map, Option.map_eq_some_iff] at hj
        obtain ⟨_, ⟨x, hx, rfl⟩, rfl⟩ := hj
        exact h4 a rfl j x hx)
      simpa using this
    rw [run_convert_bytes_string w src dst e _ _ c hs he hd, run_bytesToString w _ _ c _ hl, foldl_push_bytes]
    simp [ByteArray.empty, ByteArray.emptyWithCapacity, List.map_map]
    congr 1
    rw [show (List.map ((fun n => UInt8.ofNat n.toNat) ∘ fun x : UInt8 => (x.toNat : Int)) l) = l from by
      conv => rhs; rw [← List.map_id l]
      exact List.map_congr_left (fun x _ => by simp)]
    rfl

/-- 'b[:k]' and 'b[k:]' -/
theorem Bs.cut {P : Program} {w : World} {p : Option Addr} {c : Nat} {l : List UInt8} (h : Bs w (.slice p l.length c) l) {k : Nat} (hk : k ≤ l.length) :
    Bs w (.slice p k c) (l.take k) ∧ Bs w (.slice (if c = k then p else p.map (·.add k)) (l.length - k) (c - k)) (l.drop k) := by
  obtain ⟨p', c', e, h1, h2, h3, h4⟩ := h
  cases e
  refine ⟨⟨p, c, by simp [Nat.min_eq_left hk], by simp; omega, h2, h3, fun a e i x hx => h4 a e i x ?_⟩, ⟨(if c = k then p else p.map (·.add k)), c - k, by rw [List.length_drop], by simp; omega, by omega, ?_, ?_⟩⟩
  · rw [List.getElem?_take] at hx; split at hx
    · exact hx
    · cases hx
  · intro e
    by_cases hc : c = k
    · omega
    · rw [if_neg hc] at e
      have := h3 (by simpa using e)
      omega
  · intro a e i x hx
    have hi : i < l.length - k := by simpa using (List.getElem?_eq_some_iff.1 hx).1
    by_cases hc : c = k
    · omega
    · rw [if_neg hc] at e
      obtain ⟨a', rfl, rfl⟩ := Option.map_eq_some_iff.1 e
      rw [List.getElem?_drop] at hx
      have := h4 a' rfl (k + i) x hx
      have e2 : (a'.add k).add i = a'.add (k + i) := add_add a' k i
      rw [e2]; exact this

/-- an index into a constant text, where its run is known -/
theorem wpList_index_str {P : Program} {w : World} {ops : Array Oper} {rest : List Oper} {o : Oper} {a : Act} {Q : Exit → Act → World → Prop} (hgd : o.guard = none) (t : TypeId) (S : ByteArray) (x : Operand)
    (ho : o.op = .index t (.const (.string S)) x) (k : IntKind) (i : Int) (n : Int) (hx : a.eval x = .int k i) (hr : ∀ w, (Instr.index t (.string S) (.int k i)).run P w = .ok (.int .u8 n) w)
    (h : wpList P ops Q rest (a.put o.dst (.int .u8 n)) w) : wpList P ops Q (o :: rest) a w := by
  refine wpList_plain hgd fun K hK => ?_
  unfold Oper.wp
  have e : a.eval (.const (.string S)) = .string S := rfl
  simp [execOp, ho, hx, hr, e, Result.andThen]
  exact hK _ _ h
end Go.Proofs.Ytmipmiaflompmab

/-
  OWN WORK. append, copy, make and the cuts of byte slices as laws for the walk, whatever the program.
-/
namespace Go.Proofs.Ytmipmiaflompmab
open Go.RowKit
set_option linter.unusedVariables false

/-- 'append(out, b...)': out the call's own row of bytes, b any slice of bytes (nil too). -/
theorem wpList_append_bs {P : Program} {w : World} {ops : Array Oper} {rest : List Oper} {o : Oper} {a : Act} {Q : Exit → Act → World → Prop} (hgd : o.guard = none) (s x : Operand) (t : TypeId)
    (ho : o.op = .call { callee := .builtin .append, args := #[s, x], argTypes := #[t, t] }) (base : Nat) (e : TypeId) (hu : P.underlying t = some (.slice e))
    (hinf : (P.info? e).map (fun i => (i.zero, i.size, i.bytes)) = some (some (.int .u8 0), 1, 1))
    (v : Value) (n : Nat) (xs : List Value) (hs : a.eval s = v) (hown : w.ownsRow base e 1 v n xs) (sv : Value) (l : List UInt8) (hx : a.eval x = sv) (hb : Bs w sv l)
    (hroom : n + l.length ≤ 140737488355328) (hbase : base ≤ w.heap.size)
    (h : ∀ v' w', w'.ownsRow base e 1 v' (n + l.length) (xs ++ u8s l) → w.grownBy w' v.ownBlock → (v'.ownBlock = v.ownBlock ∨ v'.ownBlock = some w.heap.size) → wpList P ops Q rest (a.put o.dst v') w') :
    wpList P ops Q (o :: rest) a w := by
  obtain ⟨i, hi, hz, hsz, hby⟩ := info_parts hinf
  obtain ⟨p, c, rfl, h1, h2, h3, h4⟩ := hb
  cases p with
  | none =>
    have hc := h3 rfl
    subst hc
    obtain rfl : l = [] := List.eq_nil_of_length_eq_zero (by omega)
    refine wpList_append_own_none hgd s x t ho base e i 1 hu hi v n xs hs hown hx ?_
    exact h v w (by simpa [u8s] using hown) (World.grownBy.refl _ _) (.inl rfl)
  | some ad =>
    refine wpList_plain hgd fun K hK => ?_
    obtain ⟨v', w', hr, k1, k2, _, k4⟩ := run_append_own_at (P := P) w base t o.type e i (.int .u8 0) 1 1 hu hi hz hsz hby rfl (by decide) v n xs hown ad l.length c (u8s l) (by simp [u8s])
      (fun j u hj => by obtain ⟨y, hy, rfl⟩ := u8s_at hj; exact h4 ad rfl j y hy) (u8s_one l) (by unfold maxLen; omega) (by omega) hbase
    unfold Oper.wp execOp
    simp only [ho, resolve, invoke, builtin, Sem.run_bind, Sem.run_pure, Result.andThen_ok, List.map_toArray, List.map_cons, List.map_nil, hs, hx, hr]
    exact hK _ _ (h v' w' k1 k2 k4)

/-- the same at a step of a region that draws its order -/
theorem step_append_bs {P : Program} {w : World} {ops : Array Oper} {o : Oper} {a : Act} {K : Act → World → Prop} {Q : Exit → Act → World → Prop} {E : Prop} (hgd : o.guard = none) (s x : Operand) (t : TypeId)
    (ho : o.op = .call { callee := .builtin .append, args := #[s, x], argTypes := #[t, t] }) (base : Nat) (e : TypeId) (hu : P.underlying t = some (.slice e))
    (hinf : (P.info? e).map (fun i => (i.zero, i.size, i.bytes)) = some (some (.int .u8 0), 1, 1))
    (v : Value) (n : Nat) (xs : List Value) (hs : a.eval s = v) (hown : w.ownsRow base e 1 v n xs) (sv : Value) (l : List UInt8) (hx : a.eval x = sv) (hb : Bs w sv l)
    (hroom : n + l.length ≤ 140737488355328) (hbase : base ≤ w.heap.size)
    (h : ∀ v' w', w'.ownsRow base e 1 v' (n + l.length) (xs ++ u8s l) → w.grownBy w' v.ownBlock → (v'.ownBlock = v.ownBlock ∨ v'.ownBlock = some w.heap.size) → K (a.put o.dst v') w') :
    if Region.wanted o (yielded ops a.tmps) = true then Oper.wp P o a w K Q else E := by
  have hw : Region.wanted o (yielded ops a.tmps) = true := by simp [Region.wanted, hgd]
  rw [if_pos hw]
  obtain ⟨i, hi, hz, hsz, hby⟩ := info_parts hinf
  obtain ⟨p, c, rfl, h1, h2, h3, h4⟩ := hb
  cases p with
  | none =>
    have hc := h3 rfl
    subst hc
    obtain rfl : l = [] := List.eq_nil_of_length_eq_zero (by omega)
    have hrun := run_append_owned_none (P := P) (w := w) base t o.type e i 1 hu hi v n xs hown
    have hx' : a.eval x = .slice none 0 0 := hx
    unfold Oper.wp execOp
    simp only [ho, resolve, invoke, builtin, Sem.run_bind, Sem.run_pure, Result.andThen_ok, List.map_toArray, List.map_cons, List.map_nil, hs, hx', hrun]
    exact h v w (by simpa [u8s] using hown) (World.grownBy.refl _ _) (.inl rfl)
  | some ad =>
    obtain ⟨v', w', hr, k1, k2, _, k4⟩ := run_append_own_at (P := P) w base t o.type e i (.int .u8 0) 1 1 hu hi hz hsz hby rfl (by decide) v n xs hown ad l.length c (u8s l) (by simp [u8s])
      (fun j u hj => by obtain ⟨y, hy, rfl⟩ := u8s_at hj; exact h4 ad rfl j y hy) (u8s_one l) (by unfold maxLen; omega) (by omega) hbase
    unfold Oper.wp execOp
    simp only [ho, resolve, invoke, builtin, Sem.run_bind, Sem.run_pure, Result.andThen_ok, List.map_toArray, List.map_cons, List.map_nil, hs, hx, hr]
    exact h v' w' k1 k2 k4
/-- 'copy(out, b)': out the call's own row, as long as b. -/
theorem wpList_copy_bs {P : Program} {w : World} {ops : Array Oper} {rest : List Oper} {o : Oper} {a : Act} {Q : Exit → Act → World → Prop} (hgd : o.guard = none) (d s : Operand) (t : TypeId)
    (ho : o.op = .call { callee := .builtin .copy, args := #[d, s], argTypes := #[t, t] }) (base : Nat) (e : TypeId) (hu : P.underlying t = some (.slice e))
    (hsz : (P.info? e).map (·.size) = some 1)
    (v : Value) (n : Nat) (xs : List Value) (hd : a.eval d = v) (hown : w.ownsRow base e 1 v n xs) (sv : Value) (l : List UInt8) (hx : a.eval s = sv) (hb : Bs w sv l) (hn : l.length = n)
    (h : ∀ w', w'.ownsRow base e 1 v n (u8s l) → w.grownBy w' v.ownBlock → wpList P ops Q rest (a.put o.dst (goInt n)) w') : wpList P ops Q (o :: rest) a w := by
  subst hn
  obtain ⟨p, c, rfl, h1, h2, h3, h4⟩ := hb
  by_cases h0 : l.length = 0
  · obtain rfl : l = [] := List.eq_nil_of_length_eq_zero h0
    have hxs : xs = [] := List.eq_nil_of_length_eq_zero (by simpa using hown.1)
    subst hxs
    obtain ⟨dp, dc, rfl⟩ : ∃ dp dc, v = .slice dp 0 dc := by
      rcases hown.2 with ⟨rfl, _⟩ | ⟨g, cap, cur, rfl, _⟩
      · exact ⟨_, _, rfl⟩
      · exact ⟨_, _, rfl⟩
    refine wpList_copy_nothing hgd d s t t ho e hu hsz dp p 0 dc 0 c hd hx rfl ?_
    exact h w hown (World.grownBy.refl _ _)
  · cases p with
    | none => have := h3 rfl; omega
    | some ad =>
      rcases hown.2 with ⟨rfl, hz⟩ | ⟨g, cap, cur, rfl, hbg, hg, hnc, hcm, hcs, htk⟩
      · omega
      · refine wpList_copy_own hgd d s t t ho e hu hsz g 0 l.length cap ad l.length c hd hx cur e hg (u8s l) (by simp [u8s]) (fun j u hj => by obtain ⟨y, hy, rfl⟩ := u8s_at hj; exact h4 ad rfl j y hy) (by rw [u8s_length]; omega) (u8s_one l) ?_
        rw [u8s_length]
        have hgl : g < w.heap.size := (Array.getElem?_eq_some_iff.1 hg).1
        refine h _ ⟨by simp [u8s], .inr ⟨g, cap, _, rfl, hbg, setRow_heap w g cur _ e (0, 0) hg, hnc, hcm, ?_, ?_⟩⟩ ⟨rfl, rfl, rfl, by simp [World.setRow], fun k hk hne => setRow_other w g k _ (by intro e2; subst e2; exact hne rfl)⟩
        · simp [u8s_length]; omega
        · simp
          rw [List.take_append_of_le_length (by rw [u8s_length]; omega)]
          exact List.take_of_length_le (by rw [u8s_length]; omega)

/-- 'make([]byte, n, c)' -/
theorem run_make_bs {P : Program} (w : World) (t e : TypeId) (hu : P.underlying t = some (.slice e)) (hinf : (P.info? e).map (fun i => (i.zero, i.size, i.bytes)) = some (some (.int .u8 0), 1, 1))
    (n c : Nat) (hnc : n ≤ c) (hc : c ≤ 281474976710656) :
    (Instr.makeSlice t (.int .i64 (n : Int)) (.int .i64 (c : Int))).run P w = .ok (.slice (some ⟨w.heap.size, 0, none⟩) n c) (w.alloc (.cells (madeCells #[.int .u8 0] c) e)) := by
  obtain ⟨i, hi, hz, hsz, hby⟩ := info_parts hinf
  have h := run_make (P := P) w t e i (.int .u8 0) hu hi hz .i64 .i64 (n : Int) (c : Int) (by omega) (by omega) (by rw [hby]; omega) (by omega)
  rw [h, hsz]
  simp [Value.cells]
theorem own_made (w : World) (e base n c : Nat) (hb : base ≤ w.heap.size) (hnc : n ≤ c) (hc : c ≤ maxLen) :
    (w.alloc (.cells (madeCells #[.int .u8 0] c) e)).ownsRow base e 1 (.slice (some ⟨w.heap.size, 0, none⟩) n c) n (u8s (List.replicate n 0)) := by
  refine ⟨by simp [u8s], .inr ⟨w.heap.size, c, _, rfl, hb, heap_alloc_new w _, hnc, hc, by simp [size_madeCells], ?_⟩⟩
  rw [toList_madeCells_one]
  simp [u8s, Nat.min_eq_left hnc]
/-- one byte in a block of its own, as 'append(out, x)' lays it -/
theorem Bs.one (w : World) (e : TypeId) (n : Int) (y : UInt8) (hn : n = (y.toNat : Int)) : Bs (w.alloc (.cells #[.int .u8 n] e)) (.slice (some ⟨w.heap.size, 0, none⟩) 1 1) [y] := by
  subst hn
  exact Bs.mk (l := [y]) (by simp) (by simp [maxLen]) fun i x hx => by
    rcases i with _ | i
    · simp at hx; subst hx
      have := World.news_of_block (heap_alloc_new w (.cells #[.int .u8 (y.toNat : Int)] e)) 0 (.int .u8 (y.toNat : Int)) (by simp)
      rwa [add_none rfl] at this
    · simp at hx
/-- a literal's bytes in a block of their own -/
theorem Bs.lit (w : World) (e : TypeId) (l : List UInt8) (cs : Array Value) (hcs : cs = (u8s l).toArray) (hl : l.length ≤ maxLen) : Bs (w.alloc (.cells cs e)) (.slice (some ⟨w.heap.size, 0, none⟩) l.length l.length) l := by
  subst hcs
  exact Bs.mk (Nat.le_refl _) hl fun i x hx => by
    have := World.news_of_block (heap_alloc_new w (.cells (u8s l).toArray e)) i (.int .u8 (x.toNat : Int)) (by simp [u8s, hx])
    rwa [add_none rfl] at this
theorem Bs.litAt (w : World) (e : TypeId) (l : List UInt8) (cs : Array Value) (hcs : cs = (u8s l).toArray) (hl : l.length ≤ maxLen) (H : Nat) (hH : w.heap.size = H) : Bs (w.alloc (.cells cs e)) (.slice (some ⟨H, 0, none⟩) l.length l.length) l := by
  subst hH
  exact Bs.lit w e l cs hcs hl
theorem own_of_lit (w : World) (e base : Nat) (l : List UInt8) (hb : base ≤ w.heap.size) (hl : l.length ≤ maxLen) : (w.alloc (.cells (u8s l).toArray e)).ownsRow base e 1 (.slice (some ⟨w.heap.size, 0, none⟩) l.length l.length) l.length (u8s l) :=
  ⟨by simp [u8s], .inr ⟨w.heap.size, l.length, _, rfl, hb, heap_alloc_new w _, Nat.le_refl _, hl, by simp [u8s], by simp only [Nat.mul_one]; exact List.take_of_length_le (by simp [u8s])⟩⟩
end Go.Proofs.Ytmipmiaflompmab

/-
  OWN WORK. The cuts 'b[:k]', 'b[k:]' of a slice of bytes, run; a reader's box.
-/
namespace Go.Proofs.Ytmipmiaflompmab
open Go.RowKit
set_option linter.unusedVariables false

theorem run_cut_to {P : Program} (w : World) (t e : TypeId) (hu : P.underlying t = some (.slice e)) (hsz : (P.info? e).map (·.size) = some 1) (p : Option Addr) (n c k : Nat) (hk : k ≤ c) :
    (Instr.slice t (.slice p n c) none (some (.int .i64 (k : Int))) none).run P w = .ok (.slice p k c) w := by
  obtain ⟨i, hi, hs⟩ := Option.map_eq_some_iff.1 hsz
  have e0 : Option.map (fun x : Addr => x.add 0) p = p := by cases p <;> simp [Addr.add]
  simp [Instr.slice, run_underlying hu, Instr.sliceBounds, run_sliceBound, sizeOf, typeInfo, hi, e0, (by omega : (k : Int) ≤ (c : Int))]
theorem run_cut_from {P : Program} (w : World) (t e : TypeId) (hu : P.underlying t = some (.slice e)) (hsz : (P.info? e).map (·.size) = some 1) (p : Option Addr) (n c k : Nat) (hk : k ≤ n) :
    (Instr.slice t (.slice p n c) (some (.int .i64 (k : Int))) none none).run P w = .ok (.slice (if c = k then p else p.map (·.add k)) (n - k) (c - k)) w := by
  obtain ⟨i, hi, hs⟩ := Option.map_eq_some_iff.1 hsz
  simp [Instr.slice, run_underlying hu, Instr.sliceBounds, run_sliceBound, sizeOf, typeInfo, hi, hs, (by omega : (k : Int) ≤ (n : Int))]

theorem run_cut_mid {P : Program} (w : World) (t e : TypeId) (hu : P.underlying t = some (.slice e)) (hsz : (P.info? e).map (·.size) = some 1) (p : Option Addr) (n c k m : Nat) (hm : k + m ≤ c) :
    (Instr.slice t (.slice p n c) (some (.int .i64 (k : Int))) (some (.int .i64 ((k : Int) + (m : Int)))) none).run P w = .ok (.slice (if c = k then p else p.map (·.add k)) m (c - k)) w := by
  obtain ⟨i, hi, hs⟩ := Option.map_eq_some_iff.1 hsz
  have e1 : ((k : Int) + (m : Int)).toNat = k + m := by omega
  simp [Instr.slice, run_underlying hu, Instr.sliceBounds, run_sliceBound, sizeOf, typeInfo, hi, hs, e1, (by omega : (k : Int) + (m : Int) ≤ (c : Int)), (by omega : 0 ≤ (k : Int) + (m : Int))]
  rw [run_sliceBound (P := P) w .i64 (k : Int) (k + m) .sliceB (by omega) (by omega)]
  simp [Result.andThen]
theorem Bs.heap {w w' : World} {v : Value} {l : List UInt8} (hw : w'.heap = w.heap) (h : Bs w v l) : Bs w' v l := h.carry fun a x hx _ => by rw [World.cell?_of_block (w := w) (by rw [hw])]; exact hx
/-- 'b[k:k+m]' -/
theorem Bs.mid {P : Program} (t e : TypeId) (hu : P.underlying t = some (.slice e)) (hsz : (P.info? e).map (·.size) = some 1) {w : World} {p : Option Addr} {n c : Nat} {l : List UInt8} (h : Bs w (.slice p n c) l) (k m : Nat) (hk : k + m ≤ n) :
    ∃ p2, (∀ u, (Instr.slice t (.slice p n c) (some (.int .i64 (k : Int))) (some (.int .i64 ((k : Int) + (m : Int)))) none).run P u = .ok (.slice p2 m (c - k)) u) ∧ Bs w (.slice p2 m (c - k)) ((l.drop k).take m) := by
  obtain ⟨p', c', e', h1, h2, -⟩ := id h
  cases e'
  have hc := (h.cut (P := P) (k := k) (by omega)).2
  have hd := (Bs.cut (P := P) (c := c - k) (l := l.drop k) (by simpa using hc) (k := m) (by simp; omega)).1
  exact ⟨_, fun u => run_cut_mid u t e hu hsz p _ c k m (by omega), hd⟩
/-- both cuts of a slice of bytes, with what they hold -/
theorem Bs.cuts {P : Program} (t e : TypeId) (hu : P.underlying t = some (.slice e)) (hsz : (P.info? e).map (·.size) = some 1) {w : World} {p : Option Addr} {n c : Nat} {l : List UInt8} (h : Bs w (.slice p n c) l) (k : Nat) (hk : k ≤ n) :
    ∃ p2, (∀ u, (Instr.slice t (.slice p n c) none (some (.int .i64 (k : Int))) none).run P u = .ok (.slice p k c) u) ∧
      (∀ u, (Instr.slice t (.slice p n c) (some (.int .i64 (k : Int))) none none).run P u = .ok (.slice p2 (n - k) (c - k)) u) ∧ Bs w (.slice p k c) (l.take k) ∧ Bs w (.slice p2 (n - k) (c - k)) (l.drop k) := by
  obtain ⟨p', c', e', h1, h2, -⟩ := id h
  cases e'
  have hc := h.cut (P := P) hk
  exact ⟨_, fun u => run_cut_to u t e hu hsz p _ c k (by omega), fun u => run_cut_from u t e hu hsz p _ c k hk, hc.1, hc.2⟩

/-- A READER: block g holds one slice, of the bytes l that are left. -/
def Rd (t : TypeId) (w : World) (g : Nat) (l : List UInt8) : Prop :=
  ∃ p n c, w.heap[g]? = some (.cells #[.slice p n c] t (0, 0)) ∧ Bs w (.slice p n c) l
theorem Rd.box {t : TypeId} {w : World} {g : Nat} {l : List UInt8} (h : Rd t w g l) : Box w g := by
  obtain ⟨p, n, c, h1, _⟩ := h
  exact ⟨p, n, c, t, _, h1⟩
theorem Rd.lt {t : TypeId} {w : World} {g : Nat} {l : List UInt8} (h : Rd t w g l) : g < w.heap.size := by
  obtain ⟨p, n, c, h1, _⟩ := h
  exact (Array.getElem?_eq_some_iff.1 h1).1
/-- a reader is as it was where neither it nor a byte was touched -/
theorem Rd.kept {t : TypeId} {w w' : World} {g : Nat} {l : List UInt8} {S : List Nat} (h : Rd t w g l) (k : Kept S w w') (hS : ∀ x ∈ S, x ≠ g ∧ (Box w x ∨ w.heap.size ≤ x)) : Rd t w' g l := by
  have hl := h.lt
  obtain ⟨p, n, c, h1, h2⟩ := h
  exact ⟨p, n, c, (k.block g hl (fun hm => (hS g hm).1 rfl)).trans h1, h2.keptBox k fun x hx => (hS x hx).2⟩
theorem Box.kept {w w' : World} {x : Nat} {S : List Nat} (h : Box w x) (k : Kept S w w') (hn : x ∉ S) : Box w' x := by
  obtain ⟨p, n, c, t, m, hb⟩ := h
  exact ⟨p, n, c, t, m, (k.block x (Array.getElem?_eq_some_iff.1 hb).1 hn).trans hb⟩
theorem Rd.fresh {t : TypeId} {w : World} {p : Option Addr} {n c : Nat} {l : List UInt8} (h : Bs w (.slice p n c) l) : Rd t (w.alloc (.cells #[.slice p n c] t)) w.heap.size l :=
  ⟨p, n, c, heap_alloc_new w _, h.kept ((Kept.refl [] w).alloc _)⟩
theorem Rd.cell {t : TypeId} {w : World} {g : Nat} {p : Option Addr} {n c : Nat} (h : w.heap[g]? = some (.cells #[.slice p n c] t (0, 0))) : w.cell? ⟨g, 0, none⟩ = some (.slice p n c) ∧ w.frozen? ⟨g, 0, none⟩ = false :=
  ⟨cell_of_one h, free_of_one h⟩
/-- the reader's box is written: the new slice in it -/
theorem Rd.set {t : TypeId} {w : World} {g : Nat} {p p' : Option Addr} {n c n' c' : Nat} {l' : List UInt8} (h : w.heap[g]? = some (.cells #[.slice p n c] t (0, 0))) (hb : Bs w (.slice p' n' c') l') :
    Rd t (w.setCell ⟨g, 0, none⟩ (.slice p' n' c')) g l' ∧ Kept [g] w (w.setCell ⟨g, 0, none⟩ (.slice p' n' c')) := by
  have hk : Kept [g] w (w.setCell ⟨g, 0, none⟩ (.slice p' n' c')) := (Kept.refl [g] w).setCell (.inl (by simp)) _
  refine ⟨⟨p', n', c', one_setCell h, hb.keptBox hk fun x hx => .inl ?_⟩, hk⟩
  simp at hx; subst hx
  exact ⟨p, n, c, t, _, h⟩
theorem own_mono {w : World} {b b' e size : Nat} {v : Value} {n : Nat} {xs : List Value} (h : w.ownsRow b e size v n xs) (hb : b' ≤ b) : w.ownsRow b' e size v n xs := by
  refine ⟨h.1, ?_⟩
  rcases h.2 with h | ⟨g, cap, cur, h1, h2, h3⟩
  · exact .inl h
  · exact .inr ⟨g, cap, cur, h1, Nat.le_trans hb h2, h3⟩
end Go.Proofs.Ytmipmiaflompmab

/-
  OWN WORK. A slice of slices of bytes; rows of the call's own.
-/
namespace Go.Proofs.Ytmipmiaflompmab
open Go.RowKit
set_option linter.unusedVariables false

theorem Kept.drewN' {S : List Nat} {a w : World} (h : Kept S a w) (n : Nat) : Kept S a (w.drewN n) := ⟨h.os, h.tape, h.output, h.size, h.block⟩
/-- THE VALUE v IS A SLICE OF SLICES OF THESE BYTES IN w. -/
def Bss (w : World) (v : Value) (ls : List (List UInt8)) : Prop :=
  ∃ (p : Option Addr) (c : Nat), v = .slice p ls.length c ∧ ls.length ≤ c ∧ c ≤ maxLen ∧ (p = none → c = 0) ∧
    ∀ a, p = some a → ∀ (i : Nat) l, ls[i]? = some l → ∃ q d, w.cell? (a.add i) = some (.slice q l.length d) ∧ Bs w (.slice q l.length d) l
theorem Bss.pos {w : World} {v : Value} {ls : List (List UInt8)} (h : Bss w v ls) (hl : 0 < ls.length) :
    ∃ b o c, v = .slice (some ⟨b, o, none⟩) ls.length c ∧ ls.length ≤ c ∧ c ≤ maxLen ∧ b < w.heap.size ∧
      ∀ (i : Nat) l, ls[i]? = some l → ∃ q d, w.cell? ⟨b, o + i, none⟩ = some (.slice q l.length d) ∧ Bs w (.slice q l.length d) l := by
  obtain ⟨p, c, rfl, h1, h2, h3, h4⟩ := h
  cases p with
  | none => have := h3 rfl; omega
  | some a =>
    obtain ⟨q, d, hc, _⟩ := h4 a rfl 0 ls[0] (List.getElem?_eq_getElem hl)
    have hs := spot_of_cell hc
    have hs' : a.spot = none := by
      unfold Addr.add at hs
      split at hs <;> simp_all
    have hb := lt_of_cell hc
    rw [add_block] at hb
    refine ⟨a.block, a.off, c, by obtain ⟨b, o, s⟩ := a; simp_all, h1, h2, hb, fun i x hx => ?_⟩
    rw [← add_none hs' i]
    exact h4 a rfl i x hx
theorem Bss.kept {w w' : World} {v : Value} {ls : List (List UInt8)} (h : Bss w v ls) (k : Kept [] w w') : Bss w' v ls := by
  obtain ⟨p, c, rfl, h1, h2, h3, h4⟩ := h
  refine ⟨p, c, rfl, h1, h2, h3, fun a e i l hl => ?_⟩
  obtain ⟨q, d, hc, hb⟩ := h4 a e i l hl
  exact ⟨q, d, k.cell hc (by simp), hb.kept k⟩
/-- a literal's slices in a block of their own -/
theorem Bss.lit (w : World) (e : TypeId) (vs : List Value) (ls : List (List UInt8)) (hl : vs.length = ls.length) (hm : ls.length ≤ maxLen) (hB : ∀ (i : Nat) v l, vs[i]? = some v → ls[i]? = some l → Bs w v l) (H : Nat) (hH : w.heap.size = H) :
    Bss (w.alloc (.cells vs.toArray e)) (.slice (some ⟨H, 0, none⟩) ls.length ls.length) ls := by
  subst hH
  refine ⟨_, ls.length, rfl, Nat.le_refl _, hm, fun e => (by cases e), fun a ha i l hi => ?_⟩
  cases ha
  have hv : i < vs.length := by rw [hl]; exact (List.getElem?_eq_some_iff.1 hi).1
  have hb := hB i vs[i] l (List.getElem?_eq_getElem hv) hi
  obtain ⟨q, d, hq, -⟩ := id hb
  refine ⟨q, d, ?_, ?_⟩
  · have := World.news_of_block (heap_alloc_new w (.cells vs.toArray e)) i vs[i] (by simp)
    rw [← hq]
    exact this
  · rw [← hq]
    exact hb.kept ((Kept.refl [] w).alloc _)
/-- the rows one behind the other -/
def flat (ls : List (List UInt8)) : List UInt8 := ls.flatten
theorem flat_nil : flat [] = [] := rfl
theorem flat_take (ls : List (List UInt8)) (k : Nat) (l : List UInt8) (h : ls[k]? = some l) : flat (ls.take (k + 1)) = flat (ls.take k) ++ l := by
  obtain ⟨hk, rfl⟩ := List.getElem?_eq_some_iff.1 h
  unfold flat
  rw [List.take_succ_eq_append_getElem hk, List.flatten_append]
  simp
theorem flat_le (ls : List (List UInt8)) (k : Nat) : (flat (ls.take k)).length ≤ (flat ls).length := by
  unfold flat
  have : ls.flatten = (ls.take k).flatten ++ (ls.drop k).flatten := by rw [← List.flatten_append, List.take_append_drop]
  rw [this, List.length_append]; omega

theorem own_shape2 {w : World} {base e size : Nat} {v : Value} {n : Nat} {xs : List Value} (h : w.ownsRow base e size v n xs) : ∃ p c, v = .slice p n c := by
  rcases h.2 with ⟨rfl, rfl⟩ | ⟨g, cap, cur, rfl, _⟩
  · exact ⟨_, _, rfl⟩
  · exact ⟨_, _, rfl⟩
theorem Bss.lit1 (w : World) (e : TypeId) (a : Value) (la : List UInt8) (ha : Bs w a la) (H : Nat) (hH : w.heap.size = H) : Bss (w.alloc (.cells #[a] e)) (.slice (some ⟨H, 0, none⟩) 1 1) [la] :=
  Bss.lit w e [a] [la] rfl (by simp [maxLen]) (by
    intro i v l h1 h2
    match i, h1, h2 with
    | 0, h1, h2 => simp at h1 h2; subst h1; subst h2; exact ha
    | i + 1, h1, h2 => simp at h1) H hH
theorem Bss.lit2 (w : World) (e : TypeId) (a b : Value) (la lb : List UInt8) (ha : Bs w a la) (hb : Bs w b lb) (H : Nat) (hH : w.heap.size = H) : Bss (w.alloc (.cells #[a, b] e)) (.slice (some ⟨H, 0, none⟩) 2 2) [la, lb] :=
  Bss.lit w e [a, b] [la, lb] rfl (by simp [maxLen]) (by
    intro i v l h1 h2
    match i, h1, h2 with
    | 0, h1, h2 => simp at h1 h2; subst h1; subst h2; exact ha
    | 1, h1, h2 => simp at h1 h2; subst h1; subst h2; exact hb
    | i + 2, h1, h2 => simp at h1) H hH
theorem Bss.lit3 (w : World) (e : TypeId) (a b c : Value) (la lb lc : List UInt8) (ha : Bs w a la) (hb : Bs w b lb) (hc : Bs w c lc) (H : Nat) (hH : w.heap.size = H) : Bss (w.alloc (.cells #[a, b, c] e)) (.slice (some ⟨H, 0, none⟩) 3 3) [la, lb, lc] :=
  Bss.lit w e [a, b, c] [la, lb, lc] rfl (by simp [maxLen]) (by
    intro i v l h1 h2
    match i, h1, h2 with
    | 0, h1, h2 => simp at h1 h2; subst h1; subst h2; exact ha
    | 1, h1, h2 => simp at h1 h2; subst h1; subst h2; exact hb
    | 2, h1, h2 => simp at h1 h2; subst h1; subst h2; exact hc
    | i + 3, h1, h2 => simp at h1) H hH
/-- rows made behind a literal's block -/
theorem own_late {w w' : World} {o : Obj} {e n : Nat} {v : Value} {xs : List Value} (h : w'.ownsRow (w.alloc o).heap.size e 1 v n xs) : w'.ownsRow w.heap.size e 1 v n xs := by
  refine ⟨h.1, ?_⟩
  rcases h.2 with h1 | ⟨g, cap, cur, h1, h2, h3⟩
  · exact .inl h1
  · exact .inr ⟨g, cap, cur, h1, Nat.le_trans (by simp) h2, h3⟩

end Go.Proofs.Ytmipmiaflompmab

/-
  OWN WORK. What a reading of an argument says in the words of 'Bs' and 'Bss', and what the bound gives of it.
-/
namespace Go.Proofs.Ytmipmiaflompmab
open Go.ChangeShapes Go.WideShapes Go.ChangeAt Go.RowKit Go.Deep
set_option linter.unusedVariables false

theorem own : ownKnob Try.prog.godebug = none := by kernel_rfl
theorem laidOut : laidOutB Try.prog = true := by kernel_rfl

theorem bulk_one {H : Type} (d : DataW H) : 1 ≤ Rows.uptoBulk d := by
  cases d with
  | lit l => cases l <;> simp [Rows.uptoBulk]
  | nil => simp [Rows.uptoBulk]
  | ptr d => simp [Rows.uptoBulk]
  | slice elems spare => simp [Rows.uptoBulk]
  | agg parts => simp [Rows.uptoBulk]
  | iface t d => simp [Rows.uptoBulk]
  | map entries => simp [Rows.uptoBulk]
  | held h => simp [Rows.uptoBulk]
theorem bulk_length {H : Type} (l : List (DataW H)) : l.length ≤ Rows.uptoBulkAll l := by
  induction l with
  | nil => simp [Rows.uptoBulkAll]
  | cons x r ih => have := bulk_one x; simp only [Rows.uptoBulkAll, List.length_cons]; omega
theorem bulk_append {H : Type} (l r : List (DataW H)) : Rows.uptoBulkAll (l ++ r) = Rows.uptoBulkAll l + Rows.uptoBulkAll r := by
  induction l with
  | nil => simp [Rows.uptoBulkAll]
  | cons x l ih => simp only [List.cons_append, Rows.uptoBulkAll, ih]; omega

/-- the bytes that these numbers are -/
def bytesOfInts (zs : List Int) : List UInt8 := zs.map fun n => UInt8.ofNat n.toNat
theorem bytes_length (zs : List Int) : (bytesOfInts zs).length = zs.length := by simp [bytesOfInts]
theorem byte_wf {n : Int} (h : (Lit.int .u8 n).wf = true) : ((UInt8.ofNat n.toNat).toNat : Int) = n := by
  have hx : 0 ≤ n ∧ n ≤ 255 := by simpa [Lit.wf, IntKind.min, IntKind.max, IntKind.signed, IntKind.bits] using h
  rw [UInt8.toNat_ofNat']
  omega
theorem bs_cells {w : World} {ao : Option Addr} {len cap : Nat} {zs : List Int} (hl : len ≤ cap) (hm : cap ≤ maxLen) (hz : zs.length = cap) (hn : ao = none → cap = 0)
    (hc : ∀ a, ao = some a → ∀ i, i < cap → w.cell? (a.add i) = some (.int .u8 (zs.getD i 0))) (hw : ∀ n ∈ zs, (Lit.int .u8 n).wf = true) : Bs w (.slice ao len cap) (bytesOfInts (zs.take len)) := by
  have hlen : (bytesOfInts (zs.take len)).length = len := by rw [bytes_length, List.length_take]; omega
  refine ⟨ao, cap, by rw [hlen], by omega, hm, hn, fun a ha i x hx => ?_⟩
  have hi : i < len := by rw [← hlen]; exact (List.getElem?_eq_some_iff.1 hx).1
  rw [hc a ha i (by omega)]
  have e : x = UInt8.ofNat (zs.getD i 0).toNat := by
    simp only [bytesOfInts, List.getElem?_map, List.getElem?_take, hi, if_true] at hx
    obtain ⟨y, hy, rfl⟩ := Option.map_eq_some_iff.1 hx
    simp [List.getD, hy]
  rw [e, byte_wf (hw _ ?_)]
  rw [List.getD, List.getElem?_eq_getElem (by omega)]
  exact List.getElem_mem _

theorem bs_open {H : Type} {enc : TypeId × Value → H} {W : World} {t e : TypeId} {ao : Option Addr} {len cap : Nat} {d : DataW H} {p : List MemPlace} (ht : Try.prog.underlying t = some (.slice e)) (he : Try.prog.underlying e = some (.int .u8)) (hc : Try.prog.cellsOf e = 1)
    (h : DataW.Trod enc Try.prog W 0 (fun _ => true) true t (.slice ao len cap) d p) : ∃ l : List UInt8, l.length = len ∧ Bs W (.slice ao len cap) l ∧ l.length + 1 ≤ Rows.uptoBulk d ∧ (d = .nil ∧ len = 0 ∨ ∃ el sp, d = .slice el sp ∧ el.length = len) := by
  obtain ⟨fuel, hf⟩ := h
  rcases open_ints ht he hc hf with ⟨hcs, hx⟩ | ⟨x, n, c, zs, hcs, _, hl, hm, hz, hx, hcell, hwz⟩
  · simp [Value.cells] at hcs
    obtain ⟨rfl, rfl, rfl⟩ := hcs
    obtain ⟨rfl, rfl⟩ := Prod.mk.inj hx
    exact ⟨[], rfl, Bs.nil W, by simp [Rows.uptoBulk], .inl ⟨rfl, rfl⟩⟩
  · simp [Value.cells] at hcs
    obtain ⟨rfl, rfl, rfl⟩ := hcs
    obtain ⟨rfl, rfl⟩ := Prod.mk.inj hx
    have hz' : zs.length = cap := by simpa using hz
    have hlen : (bytesOfInts (zs.take len)).length = len := by rw [bytes_length, List.length_take]; omega
    refine ⟨bytesOfInts (zs.take len), hlen, bs_cells hl hm hz' (fun e => by cases e) (fun a ha i hi => by cases ha; exact hcell i (by omega)) hwz, ?_, .inr ⟨_, _, rfl, by simp [lits]; omega⟩⟩
    rw [hlen]
    have h1 := bulk_length (lits (H := H) .u8 (zs.take len))
    simp only [Rows.uptoBulk]
    simp only [lits, List.length_map, List.length_take] at h1 ⊢
    omega

/-- the form's own reach, of a slice of bytes -/
theorem sized_len {H : Type} {ts : List TypeId} {ds : List (DataW H)} {j : Nat} {t e : TypeId} {d : DataW H} {len : Nat} (hsz : (DataW.weightsEach Try.prog ts ds).all (· ≤ reachBytes) = true) (ht : ts[j]? = some t) (hd : ds[j]? = some d)
    (hu : Try.prog.underlying t = some (.slice e)) (hb : Try.prog.bytesOf e = 1) (h : d = .nil ∧ len = 0 ∨ ∃ el sp, d = .slice el sp ∧ el.length = len) : len ≤ 140737488351232 := by
  rcases h with ⟨_, rfl⟩ | ⟨el, sp, rfl, rfl⟩
  · omega
  · have := sized_slice hsz ht hd hu
    rw [hb] at this
    simp only [reachBytes] at this
    omega

theorem bss_open {H : Type} {enc : TypeId × Value → H} {W : World} {t e q : TypeId} {ao : Option Addr} {len cap : Nat} {d : DataW H} {p : List MemPlace} (ht : Try.prog.underlying t = some (.slice e)) (he : Try.prog.underlying e = some (.slice q)) (hq : Try.prog.underlying q = some (.int .u8))
    (ce : Try.prog.cellsOf e = 1) (cq : Try.prog.cellsOf q = 1) (h : DataW.Trod enc Try.prog W 0 (fun _ => true) true t (.slice ao len cap) d p) : ∃ ls : List (List UInt8), Bss W (.slice ao len cap) ls ∧ (flat ls).length + ls.length + 1 ≤ Rows.uptoBulk d := by
  obtain ⟨fuel, hf⟩ := h
  rcases open_int_rows ht he hq ce cq hf with ⟨hcs, hx⟩ | ⟨a, n, c, A, L, C, Z, hcs, _, hl, hm, hx, hr⟩
  · simp [Value.cells] at hcs
    obtain ⟨rfl, rfl, rfl⟩ := hcs
    obtain ⟨rfl, rfl⟩ := Prod.mk.inj hx
    exact ⟨[], ⟨none, 0, rfl, Nat.le_refl _, by simp [maxLen], fun _ => rfl, fun a e => (by cases e)⟩, by simp [Rows.uptoBulk, flat]⟩
  · simp [Value.cells] at hcs
    obtain ⟨rfl, rfl, rfl⟩ := hcs
    obtain ⟨rfl, rfl⟩ := Prod.mk.inj hx
    have hlr : ∀ r, r < cap → (bytesOfInts ((Z r).take (L r))).length = L r := fun r h => by
      obtain ⟨_, h1, _, h3, _⟩ := hr r h
      rw [bytes_length, List.length_take]; omega
    refine ⟨(List.range len).map fun r => bytesOfInts ((Z r).take (L r)), ⟨some a, cap, by simp, by simpa using hl, hm, fun e => (by cases e), fun a' e i l hi => ?_⟩, ?_⟩
    · cases e
      simp only [List.getElem?_map] at hi
      obtain ⟨r, hr1, rfl⟩ := Option.map_eq_some_iff.1 hi
      obtain ⟨hr2, rfl⟩ := List.getElem?_eq_some_iff.1 hr1
      have hr3 : i < len := by simpa using hr2
      simp only [List.getElem_range]
      obtain ⟨k1, k2, k3, k4, k5, k6, k7⟩ := hr i (by omega)
      rw [hlr i (by omega)]
      exact ⟨A i, C i, k1, bs_cells k2 k3 k4 k6 (fun a' ha j hj => (k7 a' ha).2 j hj) k5⟩
    · have key : ∀ (m : Nat), m ≤ len → (flat ((List.range m).map fun r => bytesOfInts ((Z r).take (L r)))).length + m ≤ Rows.uptoBulkAll ((List.range m).map fun r => intRow (H := H) .u8 (A r) (L r) (Z r)) := by
        intro m
        induction m with
        | zero => intro _; simp [flat, Rows.uptoBulkAll]
        | succ m ih =>
          intro hm'
          have := ih (by omega)
          rw [List.range_succ, List.map_append, List.map_append, bulk_append]
          have e1 : (flat (((List.range m).map fun r => bytesOfInts ((Z r).take (L r))) ++ [m].map fun r => bytesOfInts ((Z r).take (L r)))).length = (flat ((List.range m).map fun r => bytesOfInts ((Z r).take (L r)))).length + L m := by
            unfold flat
            rw [List.flatten_append, List.length_append]
            simp only [List.map_cons, List.map_nil, List.flatten_cons, List.flatten_nil, List.append_nil]
            rw [hlr m (by omega)]
          rw [e1]
          have e2 : L m + 1 ≤ Rows.uptoBulkAll ([m].map fun r => intRow (H := H) .u8 (A r) (L r) (Z r)) := by
            obtain ⟨k1, k2, k3, k4, k5, k6, k7⟩ := hr m (by omega)
            simp only [List.map_cons, List.map_nil, Rows.uptoBulkAll]
            cases ha : A m with
            | none => have := k6 ha; simp [intRow, Rows.uptoBulk]; omega
            | some y =>
              have h1 := bulk_length (lits (H := H) .u8 ((Z m).take (L m)))
              simp only [intRow, Rows.uptoBulk]
              simp only [lits, List.length_map, List.length_take] at h1 ⊢
              omega
          omega
      have := key len (Nat.le_refl _)
      simp only [Rows.uptoBulk, List.length_map, List.length_range]
      omega
end Go.Proofs.Ytmipmiaflompmab

/-
  OWN WORK. copy into a part of an owned row; a byte list laid over another.
-/
namespace Go.Proofs.Ytmipmiaflompmab
open Go.RowKit
set_option linter.unusedVariables false

/-- r laid over L from the place off on -/
def over (L : List UInt8) (off : Nat) (r : List UInt8) : List UInt8 := L.take off ++ (r ++ L.drop (off + r.length))
theorem over_length (L : List UInt8) (off : Nat) (r : List UInt8) (h : off + r.length ≤ L.length) : (over L off r).length = L.length := by simp [over]; omega
theorem over_nil (L : List UInt8) (off : Nat) : over L off [] = L := by simp [over]
theorem over_at (L : List UInt8) (off : Nat) (r : List UInt8) (h : off + r.length ≤ L.length) (i : Nat) : (over L off r)[i]? = if off ≤ i ∧ i < off + r.length then r[i - off]? else L[i]? := by
  unfold over
  by_cases h1 : i < off
  · rw [List.getElem?_append_left (by simp; omega), List.getElem?_take, if_pos h1, if_neg (by omega)]
  · rw [List.getElem?_append_right (by simp; omega)]
    have e : (L.take off).length = off := by simp; omega
    rw [e]
    by_cases h2 : i < off + r.length
    · rw [List.getElem?_append_left (by omega), if_pos ⟨by omega, h2⟩]
    · rw [List.getElem?_append_right (by omega), List.getElem?_drop, if_neg (by omega)]
      congr 1; omega
/-- 'copy(out[off:..], b)': out the call's own row; what is cut is at least as long as b. -/
theorem wpList_copy_part {P : Program} {w : World} {ops : Array Oper} {rest : List Oper} {o : Oper} {a : Act} {Q : Exit → Act → World → Prop} (hgd : o.guard = none) (d s : Operand) (t : TypeId)
    (ho : o.op = .call { callee := .builtin .copy, args := #[d, s], argTypes := #[t, t] }) (base : Nat) (e : TypeId) (hu : P.underlying t = some (.slice e))
    (hsz : (P.info? e).map (·.size) = some 1)
    (v : Value) (n : Nat) (L : List UInt8) (hown : w.ownsRow base e 1 v n (u8s L)) (off : Nat) (dp : Option Addr) (dLen dCap : Nat) (hd : a.eval d = .slice dp dLen dCap)
    (hdp : 0 < dLen → ∃ g, v.ownBlock = some g ∧ dp = some ⟨g, off, none⟩) (sv : Value) (r : List UInt8) (hx : a.eval s = sv) (hb : Bs w sv r) (hr : r.length ≤ dLen) (hfit : off + dLen ≤ n)
    (h : ∀ w', w'.ownsRow base e 1 v n (u8s (over L off r)) → w.grownBy w' v.ownBlock → wpList P ops Q rest (a.put o.dst (goInt r.length)) w') : wpList P ops Q (o :: rest) a w := by
  obtain ⟨p, c, rfl, h1, h2, h3, h4⟩ := hb
  by_cases h0 : r.length = 0
  · obtain rfl : r = [] := List.eq_nil_of_length_eq_zero h0
    refine wpList_copy_nothing hgd d s t t ho e hu hsz dp p dLen dCap 0 c hd hx (by simp) ?_
    exact h w (by rw [over_nil]; exact hown) (World.grownBy.refl _ _)
  · obtain ⟨g, hgv, rfl⟩ := hdp (by omega)
    cases p with
    | none => have := h3 rfl; omega
    | some ad =>
      have hn : n = L.length := by have := hown.1; rw [u8s_length] at this; omega
      subst hn
      rcases hown.2 with ⟨rfl, hz⟩ | ⟨g', cap, cur, rfl, hbg, hg, hnc, hcm, hcs, htk⟩
      · simp [Value.ownBlock] at hgv
      · have e1 : g' = g := by simpa [Value.ownBlock] using hgv
        subst e1
        refine wpList_copy_own hgd d s t t ho e hu hsz g' off dLen dCap ad r.length c hd hx cur e hg (u8s r) (by rw [u8s_length]; simp [Nat.min_def]; omega) (fun j u hj => by obtain ⟨y, hy, rfl⟩ := u8s_at hj; exact h4 ad rfl j y hy) (by rw [u8s_length]; omega) (u8s_one r) ?_
        rw [u8s_length]
        have hgl : g' < w.heap.size := (Array.getElem?_eq_some_iff.1 hg).1
        refine h _ ⟨by rw [u8s_length, over_length _ _ _ (by omega)]; omega, .inr ⟨g', cap, _, rfl, hbg, setRow_heap w g' cur _ e (0, 0) hg, hnc, hcm, ?_, ?_⟩⟩ ⟨rfl, rfl, rfl, by simp [World.setRow], fun k hk hne => setRow_other w g' k _ (by intro e2; subst e2; exact hne rfl)⟩
        · simp [u8s_length]; omega
        · simp only [Nat.mul_one] at htk ⊢
          have hT : cur.toList.take L.length = u8s L := htk
          have hsz' : cur.toList.length = cap := by simp [hcs]
          apply List.ext_getElem?
          intro j
          have hcur : ∀ j, j < L.length → cur.toList[j]? = (u8s L)[j]? := fun j hj => by rw [← hT, List.getElem?_take, if_pos hj]
          by_cases hj : j < L.length
          · rw [List.getElem?_take, if_pos hj]
            have e3 : (u8s (over L off r))[j]? = if off ≤ j ∧ j < off + r.length then (u8s r)[j - off]? else (u8s L)[j]? := by
              simp only [u8s, List.getElem?_map, over_at L off r (by omega) j]
              split <;> rfl
            rw [e3]
            by_cases c1 : j < off
            · rw [List.getElem?_append_left (by simp; omega), List.getElem?_take, if_pos c1, if_neg (by omega), hcur j hj]
            · rw [List.getElem?_append_right (by simp; omega)]
              have e4 : (cur.toList.take off).length = off := by simp; omega
              rw [e4]
              by_cases c2 : j < off + r.length
              · rw [List.getElem?_append_left (by rw [u8s_length]; omega), if_pos ⟨by omega, c2⟩]
              · rw [List.getElem?_append_right (by rw [u8s_length]; omega), List.getElem?_drop, if_neg (by omega), u8s_length, ← hcur j hj]
                congr 1; omega
          · rw [List.getElem?_eq_none (by simp; omega), List.getElem?_eq_none (by rw [u8s_length, over_length _ _ _ (by omega)]; omega)]
end Go.Proofs.Ytmipmiaflompmab

/-
  OWN WORK. Plain arithmetic: numbers as bytes, the lowest first.
-/
namespace Go.Proofs.Ytmipmiaflompmab
set_option linter.unusedVariables false

/-- the number that these bytes are -/
def low : List UInt8 → Nat
  | [] => 0
  | x :: r => x.toNat + 256 * low r
/-- n bytes of a number, the lowest first -/
def lay (n v : Nat) : List UInt8 := (List.range n).map fun i => UInt8.ofNat (v / 256 ^ i)

theorem low_lt (l : List UInt8) : low l < 256 ^ l.length := by
  induction l with
  | nil => simp [low]
  | cons x r ih =>
    have := x.toNat_lt
    simp only [low, List.length_cons, Nat.pow_succ]
    omega
theorem low_append (a b : List UInt8) : low (a ++ b) = low a + 256 ^ a.length * low b := by
  induction a with
  | nil => simp [low]
  | cons x r ih =>
    simp only [List.cons_append, low, ih, List.length_cons, Nat.pow_succ, Nat.mul_add]
    rw [Nat.mul_comm (256 ^ r.length) 256, Nat.mul_assoc]
    omega
theorem low_take (l : List UInt8) (k : Nat) (h : k < l.length) : low (l.take (k + 1)) = low (l.take k) + l[k].toNat * 256 ^ k := by
  rw [List.take_succ_eq_append_getElem h, low_append]
  have : (l.take k).length = k := by simp; omega
  rw [this]
  simp [low, Nat.mul_comm]
theorem low_take_lt (l : List UInt8) (k : Nat) (h : k ≤ l.length) : low (l.take k) < 256 ^ k := by
  have := low_lt (l.take k)
  rwa [show (l.take k).length = k by simp; omega] at this
theorem pow256 (k : Nat) : 256 ^ k = 2 ^ (8 * k) := by rw [Nat.pow_mul]
theorem low_lt64 (l : List UInt8) (h : l.length ≤ 8) : low l < 18446744073709551616 := by
  have h1 := low_lt l
  have h2 : 256 ^ l.length ≤ 256 ^ 8 := Nat.pow_le_pow_right (by omega) h
  have h3 : 256 ^ 8 = 18446744073709551616 := by decide
  omega

theorem bits_or_u64_nat (a b : Nat) (ha : a < 18446744073709551616) (hb : b < 18446744073709551616) :
    bits .or .u64 (a : Int) (b : Int) = ((a ||| b : Nat) : Int) := by
  have hx : a ||| b < 2 ^ 64 := Nat.or_lt_two_pow (by omega) (by omega)
  have h1 : (BitVec.ofInt 64 (a : Int)).toNat = a := by
    rw [BitVec.ofInt_natCast, BitVec.toNat_ofNat]; exact Nat.mod_eq_of_lt (by omega)
  have h2 : (BitVec.ofInt 64 (b : Int)).toNat = b := by
    rw [BitVec.ofInt_natCast, BitVec.toNat_ofNat]; exact Nat.mod_eq_of_lt (by omega)
  show IntKind.u64.wrap ((BitVec.ofInt 64 (a : Int) ||| BitVec.ofInt 64 (b : Int)).toNat : Int) = _
  rw [BitVec.toNat_or, h1, h2, IntKind.wrap_u64]
  omega
theorem bits_and_u64_nat (a b : Nat) (ha : a < 18446744073709551616) (hb : b < 18446744073709551616) :
    bits .and .u64 (a : Int) (b : Int) = ((a &&& b : Nat) : Int) := by
  have hx : a &&& b < 2 ^ 64 := Nat.and_lt_two_pow _ (by omega)
  have h1 : (BitVec.ofInt 64 (a : Int)).toNat = a := by
    rw [BitVec.ofInt_natCast, BitVec.toNat_ofNat]; exact Nat.mod_eq_of_lt (by omega)
  have h2 : (BitVec.ofInt 64 (b : Int)).toNat = b := by
    rw [BitVec.ofInt_natCast, BitVec.toNat_ofNat]; exact Nat.mod_eq_of_lt (by omega)
  show IntKind.u64.wrap ((BitVec.ofInt 64 (a : Int) &&& BitVec.ofInt 64 (b : Int)).toNat : Int) = _
  rw [BitVec.toNat_and, h1, h2, IntKind.wrap_u64]
  omega

/-- one byte more, from above: 'v |= uint64(x) << (8 * i)' -/
theorem or_byte (a k : Nat) (x : UInt8) (h : a < 256 ^ k) (hk : k < 8) :
    bits .or .u64 (a : Int) (IntKind.u64.wrap (IntKind.u64.wrap (x.toNat : Int) * 2 ^ (8 * k))) = ((a + x.toNat * 256 ^ k : Nat) : Int) := by
  have hx := x.toNat_lt
  have h1 : IntKind.u64.wrap (x.toNat : Int) = (x.toNat : Int) := by rw [IntKind.wrap_u64]; omega
  have hp : 256 ^ (k + 1) ≤ 256 ^ 8 := Nat.pow_le_pow_right (by omega) (by omega)
  have h8 : 256 ^ 8 = 18446744073709551616 := by decide
  have hpk : 0 < 256 ^ k := Nat.pow_pos (by omega)
  have hm : x.toNat * 256 ^ k ≤ 255 * 256 ^ k := Nat.mul_le_mul_right _ (by omega)
  have hs : 256 ^ (k + 1) = 256 ^ k * 256 := Nat.pow_succ ..
  have h2 : IntKind.u64.wrap ((x.toNat : Int) * 2 ^ (8 * k)) = ((x.toNat * 256 ^ k : Nat) : Int) := by
    have e : ((x.toNat : Int) * 2 ^ (8 * k)) = ((x.toNat * 256 ^ k : Nat) : Int) := by rw [pow256]; simp
    rw [e, IntKind.wrap_u64]
    omega
  rw [h1, h2, bits_or_u64_nat _ _ (by omega) (by omega)]
  have := Nat.two_pow_add_eq_or_of_lt (i := 8 * k) (b := a) (by rw [← pow256]; exact h) x.toNat
  rw [Nat.or_comm, Nat.mul_comm, pow256, ← this, Nat.add_comm]
theorem low_or (l : List UInt8) (k : Nat) (h : k < l.length) (h8 : l.length ≤ 8) :
    bits .or .u64 (low (l.take k) : Int) (IntKind.u64.wrap (IntKind.u64.wrap (l[k].toNat : Int) * 2 ^ (8 * k))) = (low (l.take (k + 1)) : Int) := by
  rw [or_byte _ _ _ (low_take_lt l k (by omega)) (by omega), low_take l k h]

theorem lay_length (n v : Nat) : (lay n v).length = n := by simp [lay]
theorem lay_succ (n v : Nat) : lay (n + 1) v = lay n v ++ [UInt8.ofNat (v / 256 ^ n)] := by simp [lay, List.range_succ]
theorem lay_zero (v : Nat) : lay 0 v = [] := rfl
theorem low_lay (n v : Nat) : low (lay n v) = v % 256 ^ n := by
  induction n with
  | zero => simp [lay, low, Nat.mod_one]
  | succ n ih =>
    rw [lay_succ, low_append, ih, lay_length]
    simp only [low, Nat.mul_zero, Nat.add_zero, UInt8.toNat_ofNat']
    have e : v % 256 ^ (n + 1) = v % 256 ^ n + 256 ^ n * (v / 256 ^ n % 256) := by rw [Nat.pow_succ, Nat.mod_mul]
    rw [e]
theorem lay_cons (n v : Nat) : lay (n + 1) v = UInt8.ofNat v :: lay n (v / 256) := by
  simp only [lay, List.range_succ_eq_map, List.map_cons, List.map_map]
  simp only [Nat.pow_zero, Nat.div_one]
  congr 1
  apply List.map_congr_left
  intro i _
  simp only [Function.comp]
  rw [Nat.div_div_eq_div_mul, Nat.pow_succ, Nat.mul_comm]
theorem byte_of (x k : Nat) : (x : Int) / 2 ^ (8 * k) % 256 = ((UInt8.ofNat (x / 256 ^ k)).toNat : Int) := by
  rw [UInt8.toNat_ofNat', pow256]
  have : ((2 : Int) ^ (8 * k)) = ((2 ^ (8 * k) : Nat) : Int) := by simp
  rw [this]
  generalize 2 ^ (8 * k) = m
  rw [← Int.natCast_ediv]
  show ((x / m : Nat) : Int) % ((256 : Nat) : Int) = _
  rw [← Int.natCast_emod]
theorem wrap_u8 {x : Nat} (h : x < 256 ^ 1) : IntKind.u8.wrap (x : Int) = (x : Int) := by
  simp only [IntKind.wrap, IntKind.bits, IntKind.signed]
  have : 256 ^ 1 = 256 := by decide
  simp
  omega
theorem wrap_u16 {x : Nat} (h : x < 256 ^ 2) : IntKind.u16.wrap (x : Int) = (x : Int) := by
  simp only [IntKind.wrap, IntKind.bits, IntKind.signed]
  have : 256 ^ 2 = 65536 := by decide
  simp
  omega
theorem wrap_u32 {x : Nat} (h : x < 256 ^ 4) : IntKind.u32.wrap (x : Int) = (x : Int) := by
  simp only [IntKind.wrap, IntKind.bits, IntKind.signed]
  have : 256 ^ 4 = 4294967296 := by decide
  simp
  omega
theorem byte_mod (z : Nat) : (z : Int) % 256 = ((UInt8.ofNat z).toNat : Int) := by
  rw [UInt8.toNat_ofNat']
  omega
theorem low_drop (l : List UInt8) (j : Nat) (h : j < l.length) : low (l.drop j) = l[j].toNat + 256 * low (l.drop (j + 1)) := by
  rw [List.drop_eq_getElem_cons h, low]
theorem get_step (z : Nat) (x : UInt8) (h : x.toNat + 256 * z < 18446744073709551616) :
    IntKind.u64.wrap (IntKind.u64.wrap ((z : Int) * 256) + IntKind.u64.wrap (x.toNat : Int)) = ((x.toNat + 256 * z : Nat) : Int) := by
  rw [IntKind.wrap_u64, IntKind.wrap_u64, IntKind.wrap_u64]
  omega
theorem div_step (z : Nat) (h : z < 18446744073709551616) : IntKind.u64.wrap ((z : Int) / 256) = ((z / 256 : Nat) : Int) := by
  rw [IntKind.wrap_u64]
  omega
theorem get_bound (l : List UInt8) (n j : Nat) (hl : n ≤ l.length) (hj : j < n) (h8 : n ≤ 8) : low ((l.take n).drop j) = l[j].toNat + 256 * low ((l.take n).drop (j + 1)) ∧ low ((l.take n).drop j) < 18446744073709551616 := by
  have hlen : (l.take n).length = n := by simp; omega
  refine ⟨?_, low_lt64 _ (by simp; omega)⟩
  rw [low_drop _ j (by omega)]
  simp
/-- 'v & (1<<(8*width) - 1)' -/
theorem and_mask (x n : Nat) (hx : x < 18446744073709551616) (h8 : n ≤ 8) : bits .and .u64 (x : Int) ((256 ^ n - 1 : Nat) : Int) = ((x % 256 ^ n : Nat) : Int) := by
  have h2 : 256 ^ n ≤ 256 ^ 8 := Nat.pow_le_pow_right (by omega) h8
  have h3 : 256 ^ 8 = 18446744073709551616 := by decide
  have h4 : 0 < 256 ^ n := Nat.pow_pos (by decide)
  rw [bits_and_u64_nat _ _ hx (by omega), pow256, Nat.and_two_pow_sub_one_eq_mod]
theorem low_lay_lt (n m : Nat) (h : m < 256 ^ n) : low (lay n m) = m := by rw [low_lay, Nat.mod_eq_of_lt h]
theorem low_lay_take (n m : Nat) (h : m < 256 ^ n) : low ((lay n m).take n) = m := by
  rw [List.take_of_length_le (by rw [lay_length]; omega)]
  exact low_lay_lt n m h
theorem take_left {α : Type} (a b : List α) : (a ++ b).take a.length = a := by simp
theorem drop_left {α : Type} (a b : List α) : (a ++ b).drop a.length = b := by simp
end Go.Proofs.Ytmipmiaflompmab

/-
  OWN WORK. A disk, in plain words: what lasts (rows: the pages, the pair, the masters), the loose writes, the log.
-/
namespace Go.Proofs.Ytmipmiaflompmab
set_option linter.unusedVariables false

structure DS where
  np : Nat
  ns : Nat
  lm : Nat
  rows : List (List UInt8)
  loose : List (Nat × List UInt8)
  log : List UInt8
  lasted : Nat
  acts : Int
  stop : Int
  dead : Bool
def pgB (ns : Nat) : Nat := 24 + 16 * ns
/-- how many bytes the place k has: a page, the pair, a master -/
def sizeK (np ns k : Nat) : Nat := if k = 0 then 16 + pgB ns else if k ≤ np then pgB ns else 40
theorem sizeK_le (np ns k : Nat) (h : ns ≤ 8) : sizeK np ns k ≤ 168 := by
  unfold sizeK pgB
  split
  · omega
  · split <;> omega
theorem sizeK_pos (np ns k : Nat) : 0 < sizeK np ns k := by
  unfold sizeK pgB
  split
  · omega
  · split <;> omega
structure DS.Ok (d : DS) : Prop where
  np : 1 ≤ d.np ∧ d.np ≤ 16
  ns : 1 ≤ d.ns ∧ d.ns ≤ 8
  lm : 1024 ≤ d.lm ∧ d.lm ≤ 65536
  len : d.rows.length = d.np + 3
  row : ∀ (k : Nat) r, d.rows[k]? = some r → r.length = sizeK d.np d.ns k
  loose : ∀ x ∈ d.loose, x.1 < d.np + 3 ∧ x.2.length = sizeK d.np d.ns x.1
  log : d.log.length ≤ d.lm
  lasted : d.lasted ≤ d.log.length
  stop : 0 ≤ d.stop
  acts : IntKind.i64.wrap d.acts = d.acts
  stopw : IntKind.i64.wrap d.stop = d.stop
/-- the first n bytes of b over the row k -/
def layR (rows : List (List UInt8)) (k : Nat) (b : List UInt8) (n : Nat) : List (List UInt8) := rows.set k (over (rows.getD k []) 0 (b.take n))
def laid (rows : List (List UInt8)) (xs : List (Nat × List UInt8)) : List (List UInt8) := xs.foldl (fun r x => layR r x.1 x.2 x.2.length) rows
theorem layR_length (rows : List (List UInt8)) (k : Nat) (b : List UInt8) (n : Nat) : (layR rows k b n).length = rows.length := by simp [layR]
theorem laid_length (xs : List (Nat × List UInt8)) : ∀ rows : List (List UInt8), (laid rows xs).length = rows.length := by
  induction xs with
  | nil => intro rows; rfl
  | cons x xs ih => intro rows; exact (ih _).trans (layR_length _ _ _ _)
theorem laid_snoc (rows : List (List UInt8)) (xs : List (Nat × List UInt8)) (x : Nat × List UInt8) : laid rows (xs ++ [x]) = layR (laid rows xs) x.1 x.2 x.2.length := by simp [laid]
theorem over0_length {l b : List UInt8} {n : Nat} (h : b.length ≤ l.length) : (over l 0 (b.take n)).length = l.length := over_length _ _ _ (by simp; omega)
/-- all rows have their places' lengths -/
def Sized (np ns : Nat) (rows : List (List UInt8)) : Prop := ∀ (k : Nat) r, rows[k]? = some r → r.length = sizeK np ns k
theorem Sized.layR {np ns : Nat} {rows : List (List UInt8)} (h : Sized np ns rows) {k : Nat} {b : List UInt8} (hb : b.length = sizeK np ns k) (n : Nat) : Sized np ns (layR rows k b n) := by
  intro j r hj
  unfold Go.Proofs.Ytmipmiaflompmab.layR at hj
  rw [List.getElem?_set] at hj
  by_cases e : k = j
  · subst e
    rw [if_pos rfl] at hj
    split at hj
    · rename_i hk
      cases hj
      have hg : rows.getD k [] = rows[k] := by simp [List.getD, List.getElem?_eq_getElem hk]
      have hl := h k rows[k] (List.getElem?_eq_getElem hk)
      rw [hg, over0_length (by omega)]
      exact hl
    · cases hj
  · rw [if_neg e] at hj
    exact h j r hj
theorem Sized.laid {np ns : Nat} (xs : List (Nat × List UInt8)) : ∀ {rows : List (List UInt8)}, Sized np ns rows → (∀ x ∈ xs, x.2.length = sizeK np ns x.1) → Sized np ns (laid rows xs) := by
  induction xs with
  | nil => intro rows h _; exact h
  | cons x xs ih => intro rows h hx; exact ih (h.layR (hx x (by simp)) _) (fun y hy => hx y (by simp [hy]))
def DS.seen (d : DS) : List (List UInt8) := laid d.rows d.loose
theorem DS.Ok.seen {d : DS} (h : d.Ok) : Sized d.np d.ns d.seen := Sized.laid _ h.row fun x hx => (h.loose x hx).2
theorem DS.Ok.seenLen {d : DS} (h : d.Ok) : d.seen.length = d.np + 3 := (laid_length _ _).trans h.len
/-- is an act done -/
def DS.alive (d : DS) : Bool := !d.dead && decide (d.stop ≠ 1)
def DS.act (d : DS) : DS := if d.dead = true then d else if d.stop = 1 then { d with dead := true } else { d with stop := if 1 < d.stop then d.stop - 1 else d.stop, acts := IntKind.i64.wrap (d.acts + 1) }
theorem DS.act_np (d : DS) : d.act.np = d.np := by unfold DS.act; split; rfl; split <;> rfl
theorem DS.act_ns (d : DS) : d.act.ns = d.ns := by unfold DS.act; split; rfl; split <;> rfl
theorem DS.act_lm (d : DS) : d.act.lm = d.lm := by unfold DS.act; split; rfl; split <;> rfl
theorem DS.act_rows (d : DS) : d.act.rows = d.rows := by unfold DS.act; split; rfl; split <;> rfl
theorem DS.act_loose (d : DS) : d.act.loose = d.loose := by unfold DS.act; split; rfl; split <;> rfl
theorem DS.act_log (d : DS) : d.act.log = d.log := by unfold DS.act; split; rfl; split <;> rfl
theorem DS.act_lasted (d : DS) : d.act.lasted = d.lasted := by unfold DS.act; split; rfl; split <;> rfl
theorem DS.act_seen (d : DS) : d.act.seen = d.seen := by unfold DS.seen; rw [d.act_rows, d.act_loose]
theorem wrap_i64_of {x : Int} (h1 : -9223372036854775808 ≤ x) (h2 : x < 9223372036854775808) : IntKind.i64.wrap x = x := by rw [IntKind.wrap_i64]; omega
theorem wrap_i64_range {x : Int} (h : IntKind.i64.wrap x = x) : -9223372036854775808 ≤ x ∧ x < 9223372036854775808 := by rw [IntKind.wrap_i64] at h; omega
theorem wrap_i64_idem (x : Int) : IntKind.i64.wrap (IntKind.i64.wrap x) = IntKind.i64.wrap x := by rw [IntKind.wrap_i64, IntKind.wrap_i64]; omega
theorem DS.Ok.act {d : DS} (h : d.Ok) : d.act.Ok := by
  refine ⟨by rw [d.act_np]; exact h.np, by rw [d.act_ns]; exact h.ns, by rw [d.act_lm]; exact h.lm, by rw [d.act_rows, d.act_np]; exact h.len, by rw [d.act_rows, d.act_np, d.act_ns]; exact h.row, by rw [d.act_loose, d.act_np, d.act_ns]; exact h.loose, by rw [d.act_log, d.act_lm]; exact h.log, by rw [d.act_log, d.act_lasted]; exact h.lasted, ?_, ?_, ?_⟩
  · unfold DS.act
    have := h.stop
    split
    · exact this
    · split
      · exact this
      · show 0 ≤ (if 1 < d.stop then d.stop - 1 else d.stop)
        split <;> omega
  · unfold DS.act
    split
    · exact h.acts
    · split
      · exact h.acts
      · exact wrap_i64_idem _
  · have hw := h.stopw
    have hr := wrap_i64_range hw
    unfold DS.act
    split
    · exact hw
    · split
      · exact hw
      · show IntKind.i64.wrap (if 1 < d.stop then d.stop - 1 else d.stop) = _
        split
        · exact wrap_i64_of (by omega) (by omega)
        · exact hw
def DS.halts (d : DS) (n : Int) : DS := if d.dead = true then d else { d with stop := if 1 ≤ n then n else 0 }
theorem DS.Ok.halts {d : DS} (h : d.Ok) (n : Int) (hn : IntKind.i64.wrap n = n) : (d.halts n).Ok := by
  unfold DS.halts
  split
  · exact h
  · refine ⟨h.np, h.ns, h.lm, h.len, h.row, h.loose, h.log, h.lasted, ?_, h.acts, ?_⟩
    · show 0 ≤ (if 1 ≤ n then n else 0)
      split <;> omega
    · show IntKind.i64.wrap (if 1 ≤ n then n else 0) = _
      split
      · exact hn
      · exact wrap_i64_of (by omega) (by omega)
/-- the place that the document's kinds and numbers name -/
def idxOf (np : Nat) (place number : Int) : Option Nat :=
  if place = 0 ∧ 0 ≤ number ∧ number < (np : Int) then some (1 + number.toNat) else if place = 1 then some 0 else if place = 2 ∧ 0 ≤ number ∧ number < 2 then some (np + 1 + number.toNat) else none
theorem idxOf_lt {np k : Nat} {p n : Int} (h : idxOf np p n = some k) : k < np + 3 := by
  unfold idxOf at h
  split at h
  · cases h; omega
  · split at h
    · cases h; omega
    · split at h
      · cases h; omega
      · cases h
def pageIx (np : Nat) (p : Int) : Option Nat := if 0 ≤ p ∧ p < (np : Int) then some (1 + p.toNat) else none
def masterIx (np : Nat) (k : Int) : Option Nat := if 0 ≤ k ∧ k < 2 then some (np + 1 + k.toNat) else none
theorem idxOf_page (np : Nat) (p : Int) : idxOf np 0 p = pageIx np p := by
  unfold idxOf pageIx
  by_cases h : 0 ≤ p ∧ p < (np : Int)
  · rw [if_pos ⟨rfl, h⟩, if_pos h]
  · rw [if_neg (fun c => h c.2), if_neg (by omega), if_neg (by omega), if_neg h]
theorem idxOf_pair (np : Nat) (p : Int) : idxOf np 1 p = some 0 := by
  unfold idxOf
  rw [if_neg (by omega), if_pos rfl]
theorem idxOf_master (np : Nat) (k : Int) : idxOf np 2 k = masterIx np k := by
  unfold idxOf masterIx
  rw [if_neg (by omega), if_neg (by omega)]
  by_cases h : 0 ≤ k ∧ k < 2
  · rw [if_pos ⟨rfl, h⟩, if_pos h]
  · rw [if_neg (fun c => h c.2), if_neg h]
/-- reading a place -/
def readE (d : DS) (ix : Option Nat) : Int := if d.alive = true then (match ix with | none => 61 | some _ => 0) else 1
def readL (d : DS) (ix : Option Nat) : List UInt8 := if d.alive = true then (match ix with | none => [] | some k => d.seen.getD k []) else []
/-- writing one -/
def writeE (d : DS) (ix : Option Nat) (b : List UInt8) : Int := if d.alive = true then (match ix with | none => 61 | some k => if b.length = sizeK d.np d.ns k then 0 else 62) else 1
def DS.write (d : DS) (ix : Option Nat) (b : List UInt8) : DS := match ix with
  | none => d.act
  | some k => if d.alive = true ∧ b.length = sizeK d.np d.ns k then { d.act with loose := d.loose ++ [(k, b)] } else d.act
theorem DS.Ok.write {d : DS} (h : d.Ok) (ix : Option Nat) (b : List UInt8) (hix : ∀ k, ix = some k → k < d.np + 3) : (d.write ix b).Ok := by
  have ha := h.act
  unfold DS.write
  split
  · exact ha
  · rename_i k
    split
    · rename_i hb
      refine ⟨ha.np, ha.ns, ha.lm, ha.len, ha.row, fun x hx => ?_, ha.log, ha.lasted, ha.stop, ha.acts, ha.stopw⟩
      show x.1 < d.act.np + 3 ∧ x.2.length = sizeK d.act.np d.act.ns x.1
      rw [d.act_np, d.act_ns]
      rcases List.mem_append.1 hx with c | c
      · exact h.loose x c
      · simp at c; subst c
        exact ⟨hix k rfl, hb.2⟩
    · exact ha
/-- a sync of pages and pair, or of masters -/
def isMaster (np k : Nat) : Bool := decide (np < k)
def DS.sync (d : DS) (masters : Bool) : DS := if d.alive = true then { d.act with rows := laid d.rows (d.loose.filter fun x => isMaster d.np x.1 == masters), loose := d.loose.filter fun x => !(isMaster d.np x.1 == masters) } else d.act
def aliveE (d : DS) : Int := if d.alive = true then 0 else 1
theorem DS.Ok.sync {d : DS} (h : d.Ok) (m : Bool) : (d.sync m).Ok := by
  have ha := h.act
  unfold DS.sync
  split
  · refine ⟨ha.np, ha.ns, ha.lm, ?_, ?_, fun x hx => ?_, ha.log, ha.lasted, ha.stop, ha.acts, ha.stopw⟩
    · show (laid _ _).length = d.act.np + 3
      rw [laid_length, d.act_np]; exact h.len
    · show ∀ (k : Nat) r, (laid _ _)[k]? = some r → r.length = sizeK d.act.np d.act.ns k
      rw [d.act_np, d.act_ns]
      exact Sized.laid _ h.row fun x hx => (h.loose x ((List.mem_filter.1 hx).1)).2
    · show x.1 < d.act.np + 3 ∧ x.2.length = sizeK d.act.np d.act.ns x.1
      rw [d.act_np, d.act_ns]
      exact h.loose x ((List.mem_filter.1 hx).1)
  · exact ha
/-- the log -/
def readLogE (d : DS) (f n : Int) : Int := if d.alive = true then (if f < 0 ∨ (d.log.length : Int) < f ∨ n < 0 then 61 else 0) else 1
def readLogL (d : DS) (f n : Int) : List UInt8 := if readLogE d f n = 0 then (d.log.drop f.toNat).take n.toNat else []
def appendE (d : DS) (b : List UInt8) : Int := if d.alive = true then (if d.lm < d.log.length + b.length then 63 else 0) else 1
def DS.append (d : DS) (b : List UInt8) : DS := if appendE d b = 0 then { d.act with log := d.log ++ b } else d.act
def DS.syncLog (d : DS) : DS := if d.alive = true then { d.act with lasted := d.log.length } else d.act
def cutE (d : DS) (n : Int) : Int := if d.alive = true then (if n < 0 ∨ (d.log.length : Int) < n then 61 else 0) else 1
def DS.cut (d : DS) (n : Int) : DS := if cutE d n = 0 then { d.act with log := d.log.take n.toNat, lasted := min d.lasted n.toNat } else d.act
theorem DS.Ok.append {d : DS} (h : d.Ok) (b : List UInt8) : (d.append b).Ok := by
  have ha := h.act
  unfold DS.append
  split
  · rename_i e
    have hl : d.log.length + b.length ≤ d.lm := by
      unfold appendE at e
      split at e
      · split at e <;> omega
      · omega
    refine ⟨ha.np, ha.ns, ha.lm, ha.len, ha.row, ha.loose, ?_, ?_, ha.stop, ha.acts, ha.stopw⟩
    · show (d.log ++ b).length ≤ d.act.lm
      rw [d.act_lm, List.length_append]; exact hl
    · show d.act.lasted ≤ (d.log ++ b).length
      have := h.lasted
      rw [d.act_lasted, List.length_append]; omega
  · exact ha
theorem DS.Ok.syncLog {d : DS} (h : d.Ok) : d.syncLog.Ok := by
  have ha := h.act
  unfold DS.syncLog
  split
  · exact ⟨ha.np, ha.ns, ha.lm, ha.len, ha.row, ha.loose, ha.log, by show d.log.length ≤ d.act.log.length; rw [d.act_log]; exact Nat.le_refl _, ha.stop, ha.acts, ha.stopw⟩
  · exact ha
theorem DS.Ok.cut {d : DS} (h : d.Ok) (n : Int) : (d.cut n).Ok := by
  have ha := h.act
  unfold DS.cut
  split
  · refine ⟨ha.np, ha.ns, ha.lm, ha.len, ha.row, ha.loose, ?_, ?_, ha.stop, ha.acts, ha.stopw⟩
    · show (d.log.take n.toNat).length ≤ d.act.lm
      have := h.log
      rw [d.act_lm, List.length_take]; omega
    · show min d.lasted n.toNat ≤ (d.log.take n.toNat).length
      have := h.lasted
      rw [List.length_take]; omega
  · exact ha
/-- a crash: what the numbers keep of the loose writes -/
def restN (n : Int) (m : Nat) : Nat := (n % (m : Int)).toNat
def keepAt (keep : List Int) (i : Nat) : Int := keep.getD (i % keep.length) 0
def crashLay (rows : List (List UInt8)) (x : Nat × List UInt8) (k : Int) : List (List UInt8) := if k = 1 then layR rows x.1 x.2 x.2.length else if 2 ≤ k then layR rows x.1 x.2 (restN (k - 1) (x.2.length + 1)) else rows
def crashRows (keep : List Int) : List (Nat × List UInt8) → Nat → List (List UInt8) → List (List UInt8)
  | [], _, rows => rows
  | x :: xs, i, rows => crashRows keep xs (i + 1) (crashLay rows x (keepAt keep i))
theorem crashRows_snoc (keep : List Int) (xs : List (Nat × List UInt8)) (x : Nat × List UInt8) : ∀ (i : Nat) (rows : List (List UInt8)), crashRows keep (xs ++ [x]) i rows = crashLay (crashRows keep xs i rows) x (keepAt keep (i + xs.length)) := by
  induction xs with
  | nil => intro i rows; rfl
  | cons y ys ih =>
    intro i rows
    show crashRows keep (ys ++ [x]) (i + 1) _ = crashLay (crashRows keep ys (i + 1) _) x _
    rw [ih, List.length_cons, show i + 1 + ys.length = i + (ys.length + 1) by omega]
theorem Sized.crashLay {np ns : Nat} {rows : List (List UInt8)} (h : Sized np ns rows) {x : Nat × List UInt8} (hb : x.2.length = sizeK np ns x.1) (k : Int) : Sized np ns (crashLay rows x k) := by
  unfold Go.Proofs.Ytmipmiaflompmab.crashLay
  split
  · exact h.layR hb _
  · split
    · exact h.layR hb _
    · exact h
theorem crashLay_length (rows : List (List UInt8)) (x : Nat × List UInt8) (k : Int) : (crashLay rows x k).length = rows.length := by
  unfold crashLay
  split
  · exact layR_length _ _ _ _
  · split
    · exact layR_length _ _ _ _
    · rfl
theorem crashRows_sized (keep : List Int) {np ns : Nat} (xs : List (Nat × List UInt8)) : ∀ (i : Nat) (rows : List (List UInt8)), Sized np ns rows → (∀ x ∈ xs, x.2.length = sizeK np ns x.1) → Sized np ns (crashRows keep xs i rows) ∧ (crashRows keep xs i rows).length = rows.length := by
  induction xs with
  | nil => intro i rows h _; exact ⟨h, rfl⟩
  | cons x xs ih =>
    intro i rows h hx
    have := ih (i + 1) _ (h.crashLay (hx x (by simp)) (keepAt keep i)) (fun y hy => hx y (by simp [hy]))
    exact ⟨this.1, this.2.trans (crashLay_length _ _ _)⟩
def crashLog (d : DS) (c : Int) : Nat := d.lasted + restN c (d.log.length - d.lasted + 1)
def DS.crash (d : DS) (c : Int) (keep : List Int) : DS :=
  { np := d.np, ns := d.ns, lm := d.lm, rows := crashRows keep d.loose 0 d.rows, loose := [], log := d.log.take (crashLog d c), lasted := crashLog d c, acts := 0, stop := 0, dead := false }
theorem restN_lt (n : Int) (m : Nat) : restN n (m + 1) ≤ m := by
  unfold restN
  have := Int.emod_lt_of_pos n (b := ((m + 1 : Nat) : Int)) (by omega)
  have := Int.emod_nonneg n (b := ((m + 1 : Nat) : Int)) (by omega)
  omega
theorem DS.Ok.crash {d : DS} (h : d.Ok) (c : Int) (keep : List Int) : (d.crash c keep).Ok := by
  have hs := crashRows_sized keep d.loose 0 d.rows h.row fun x hx => (h.loose x hx).2
  have hl := restN_lt c (d.log.length - d.lasted)
  have h1 := h.lasted
  have h2 := h.log
  refine ⟨h.np, h.ns, h.lm, hs.2.trans h.len, hs.1, (fun x hx => absurd (show x ∈ ([] : List (Nat × List UInt8)) from hx) (by simp)), ?_, ?_, Int.le_refl _, wrap_i64_of (by show (-9223372036854775808 : Int) ≤ 0; omega) (by show (0 : Int) < _; omega), wrap_i64_of (by show (-9223372036854775808 : Int) ≤ 0; omega) (by show (0 : Int) < _; omega)⟩
  · show (d.log.take (crashLog d c)).length ≤ d.lm
    rw [List.length_take]; omega
  · show crashLog d c ≤ (d.log.take (crashLog d c)).length
    unfold crashLog
    rw [List.length_take]; omega
def DS.copy (d : DS) : DS := { d with acts := 0, stop := 0, dead := false }
theorem DS.Ok.copy {d : DS} (h : d.Ok) : d.copy.Ok := ⟨h.np, h.ns, h.lm, h.len, h.row, h.loose, h.log, h.lasted, Int.le_refl _, wrap_i64_of (by show (-9223372036854775808 : Int) ≤ 0; omega) (by show (0 : Int) < _; omega), wrap_i64_of (by show (-9223372036854775808 : Int) ≤ 0; omega) (by show (0 : Int) < _; omega)⟩
/-- which shapes may be -/
def shapeOk (np ns lm : Int) : Bool := decide (1 ≤ np) && decide (np ≤ 16) && decide (1 ≤ ns) && decide (ns ≤ 8) && decide (1024 ≤ lm) && decide (lm ≤ 65536)
def zer (n : Nat) : List UInt8 := List.replicate n 0
def blankRows (np ns : Nat) : List (List UInt8) := zer (16 + pgB ns) :: (List.replicate np (zer (pgB ns)) ++ [zer 40, zer 40])
def DS.blank (np ns lm : Nat) : DS := { np := np, ns := ns, lm := lm, rows := blankRows np ns, loose := [], log := [], lasted := 0, acts := 0, stop := 0, dead := false }
theorem sized_parts {np ns : Nat} {ps : List (List UInt8)} {pair m0 m1 : List UInt8} (hp : ps.length = np) (h : ∀ p ∈ ps, p.length = pgB ns) (h1 : pair.length = 16 + pgB ns) (h2 : m0.length = 40) (h3 : m1.length = 40) : Sized np ns (pair :: (ps ++ [m0, m1])) := by
  intro k r hk
  unfold sizeK
  rcases k with _ | k
  · simp at hk
    subst hk
    rw [if_pos rfl]
    exact h1
  · rw [List.getElem?_cons_succ, List.getElem?_append] at hk
    rw [if_neg (by omega)]
    by_cases c : k < np
    · rw [if_pos (by omega)] at hk
      rw [if_pos (by omega)]
      exact h r (List.mem_of_getElem? hk)
    · rw [if_neg (by omega)] at hk
      rw [if_neg (by omega)]
      have h3' : k - ps.length < 2 := by have := (List.getElem?_eq_some_iff.1 hk).1; simpa using this
      rcases (by omega : k - ps.length = 0 ∨ k - ps.length = 1) with e | e
      · rw [e] at hk; simp at hk; subst hk; exact h2
      · rw [e] at hk; simp at hk; subst hk; exact h3
theorem DS.Ok.ofBlank {np ns lm : Nat} (h1 : 1 ≤ np ∧ np ≤ 16) (h2 : 1 ≤ ns ∧ ns ≤ 8) (h3 : 1024 ≤ lm ∧ lm ≤ 65536) : (DS.blank np ns lm).Ok :=
  ⟨h1, h2, h3, by simp [DS.blank, blankRows], (show Sized np ns (blankRows np ns) from sized_parts (by simp) (by intro p hp; rw [List.eq_of_mem_replicate hp]; simp [zer]) (by simp [zer]) (by simp [zer]) (by simp [zer])), (fun x hx => absurd (show x ∈ ([] : List (Nat × List UInt8)) from hx) (by simp)), Nat.zero_le _, Nat.le_refl _, Int.le_refl _, wrap_i64_of (by show (-9223372036854775808 : Int) ≤ 0; omega) (by show (0 : Int) < _; omega), wrap_i64_of (by show (-9223372036854775808 : Int) ≤ 0; omega) (by show (0 : Int) < _; omega)⟩
/-- an image, in plain words -/
structure IM where
  ps : List (List UInt8)
  pair : List UInt8
  log : List UInt8
  m0 : List UInt8
  m1 : List UInt8
def IM.rows (m : IM) : List (List UInt8) := m.pair :: (m.ps ++ [m.m0, m.m1])
def imOf (np : Nat) (rows : List (List UInt8)) (log : List UInt8) : IM := { ps := (rows.drop 1).take np, pair := rows.getD 0 [], log := log, m0 := rows.getD (np + 1) [], m1 := rows.getD (np + 2) [] }
def DS.image (d : DS) : IM := imOf d.np d.seen d.log
def DS.lasts (d : DS) : IM := imOf d.np d.rows (d.log.take d.lasted)
def imOk (np ns lm : Nat) (m : IM) : Bool := decide (m.ps.length = np) && decide (m.pair.length = 16 + pgB ns) && decide (m.m0.length = 40) && decide (m.m1.length = 40) && decide (m.log.length ≤ lm) && m.ps.all fun p => decide (p.length = pgB ns)
def DS.load (np ns lm : Nat) (m : IM) : DS := { np := np, ns := ns, lm := lm, rows := m.rows, loose := [], log := m.log, lasted := m.log.length, acts := 0, stop := 0, dead := false }
end Go.Proofs.Ytmipmiaflompmab

/-
  OWN WORK. append onto an owned row, telling whether the old row was left alone.
-/
namespace Go.Proofs.Ytmipmiaflompmab
open Go.RowKit
set_option linter.unusedVariables false

theorem run_append_own2 {P : Program} (w : World) (base : Nat) (t ty e : TypeId) (i : TypeInfo) (z : Value) (bytes : Nat) (ht : P.underlying t = some (.slice e)) (hi : P.info? e = some i) (hz : i.zero = some z) (hsize : i.size = 1) (hby : i.bytes = bytes) (hzs : z.cells.size = 1)
    (v : Value) (n : Nat) (xs : List Value) (hown : w.ownsRow base e 1 v n xs) (a : Addr) (m c : Nat) (news : List Value) (hl : news.length = m) (hnews : ∀ j u, news[j]? = some u → w.cell? (a.add j) = some u) (h1 : ∀ u ∈ news, u.oneCell' = true)
    (h63 : n + m ≤ maxLen) (hbytes : (n + m) * bytes ≤ 140737488355328) (hbase : base ≤ w.heap.size) :
    ∃ v' w', (Builtin.append_ #[t, t] ty #[v, .slice (some a) m c]).run P w = .ok v' w' ∧ w'.ownsRow base e 1 v' (n + m) (xs ++ news) ∧ w.grownBy w' v.ownBlock ∧ (v'.ownBlock = v.ownBlock ∨ (v'.ownBlock = some w.heap.size ∧ w.grownBy w' none)) := by
  obtain ⟨v', w', hr, h2, h3, _, h5⟩ := run_append_own_at (P := P) w base t ty e i z 1 bytes ht hi hz hsize hby hzs (by decide) v n xs hown a m c news (by omega) hnews h1 h63 hbytes hbase
  refine ⟨v', w', hr, h2, h3, ?_⟩
  rcases h5 with h5 | h5
  · exact .inl h5
  · right
    refine ⟨h5, ?_⟩
    rcases id hown.2 with ⟨rfl, rfl⟩ | ⟨g, cap, cur, rfl, hbg, hg, hnc, hcm, hcs, htake⟩
    · exact h3
    · have hgl : g < w.heap.size := (Array.getElem?_eq_some_iff.1 hg).1
      by_cases hroom : n + m ≤ cap
      · have hfit : n * i.size + news.length ≤ cur.size := by rw [hsize, hl, hcs]; omega
        have hr2 := run_append_room (P := P) w t ty e i ht hi g n cap cur hg a m c news (by rw [hsize]; omega) hnews h1 hroom hfit
        rw [hr] at hr2
        obtain ⟨rfl, rfl⟩ : v' = _ ∧ w' = _ := by simpa using hr2
        simp [Value.ownBlock] at h5
        omega
      · have holds : ∀ j u, xs[j]? = some u → w.cell? ((⟨g, 0, none⟩ : Addr).add j) = some u := hown.cells (g := g) rfl
        have hxl : xs.length = n := by simpa using hown.1
        have hr2 := run_append_grow (P := P) w t ty e i z ht hi hz ⟨g, 0, none⟩ n cap xs (by rw [hsize]; omega) holds a m c news (by rw [hsize]; omega) hnews (by omega) (by unfold maxLen at h63; omega) (growslice_fits (by omega) (by rw [hby]; exact hbytes))
        rw [hr] at hr2
        obtain ⟨rfl, rfl⟩ : v' = _ ∧ w' = _ := by simpa using hr2
        exact ⟨rfl, rfl, rfl, by simp, fun k hk _ => heap_alloc_old w.drew _ hk⟩

/-- 'append(out, xs...)' of a row of one-cell elements, whatever they are -/
theorem wpList_append_own2 {P : Program} {w : World} {ops : Array Oper} {rest : List Oper} {o : Oper} {a : Act} {Q : Exit → Act → World → Prop} (hgd : o.guard = none) (s x : Operand) (t : TypeId)
    (ho : o.op = .call { callee := .builtin .append, args := #[s, x], argTypes := #[t, t] }) (base : Nat) (e : TypeId) (hu : P.underlying t = some (.slice e)) (z : Value) (bytes : Nat)
    (hinf : (P.info? e).map (fun i => (i.zero, i.size, i.bytes)) = some (some z, 1, bytes)) (hzs : z.cells.size = 1)
    (v : Value) (n : Nat) (xs : List Value) (hs : a.eval s = v) (hown : w.ownsRow base e 1 v n xs) (ad : Addr) (m c : Nat) (news : List Value) (hx : a.eval x = .slice (some ad) m c) (hl : news.length = m)
    (hnews : ∀ j u, news[j]? = some u → w.cell? (ad.add j) = some u) (h1 : ∀ u ∈ news, u.oneCell' = true) (h63 : n + m ≤ maxLen) (hbytes : (n + m) * bytes ≤ 140737488355328) (hbase : base ≤ w.heap.size)
    (h : ∀ v' w', w'.ownsRow base e 1 v' (n + m) (xs ++ news) → w.grownBy w' v.ownBlock → (v'.ownBlock = v.ownBlock ∨ (v'.ownBlock = some w.heap.size ∧ w.grownBy w' none)) → wpList P ops Q rest (a.put o.dst v') w') :
    wpList P ops Q (o :: rest) a w := by
  obtain ⟨i, hi, hz, hsz, hby⟩ := info_parts hinf
  refine wpList_plain hgd fun K hK => ?_
  obtain ⟨v', w', hr, k1, k2, k4⟩ := run_append_own2 (P := P) w base t o.type e i z bytes hu hi hz hsz hby hzs v n xs hown ad m c news hl hnews h1 h63 hbytes hbase
  unfold Oper.wp execOp
  simp only [ho, resolve, invoke, builtin, Sem.run_bind, Sem.run_pure, Result.andThen_ok, List.map_toArray, List.map_cons, List.map_nil, hs, hx, hr]
  exact hK _ _ (h v' w' k1 k2 k4)
/-- 'append(out, x)', x one byte -/
theorem wpList_append_byte {P : Program} {w : World} {ops : Array Oper} {rest : List Oper} {o : Oper} {a : Act} {Q : Exit → Act → World → Prop} (hgd : o.guard = none) (s x : Operand) (t : TypeId)
    (ho : o.op = .call { callee := .builtin .append, args := #[s, x], argTypes := #[t, t] }) (base : Nat) (e : TypeId) (hu : P.underlying t = some (.slice e))
    (hinf : (P.info? e).map (fun i => (i.zero, i.size, i.bytes)) = some (some (.int .u8 0), 1, 1))
    (v : Value) (n : Nat) (l : List UInt8) (hs : a.eval s = v) (hown : w.ownsRow base e 1 v n (u8s l)) (ad : Addr) (c : Nat) (y : UInt8) (hx : a.eval x = .slice (some ad) 1 c)
    (hc : w.cell? ad = some (.int .u8 (y.toNat : Int))) (hroom : n + 1 ≤ 140737488355328) (hbase : base ≤ w.heap.size)
    (h : ∀ v' w', w'.ownsRow base e 1 v' (n + 1) (u8s (l ++ [y])) → w.grownBy w' v.ownBlock → (v'.ownBlock = v.ownBlock ∨ (v'.ownBlock = some w.heap.size ∧ w.grownBy w' none)) → wpList P ops Q rest (a.put o.dst v') w') :
    wpList P ops Q (o :: rest) a w :=
  wpList_append_own2 hgd s x t ho base e hu _ 1 hinf rfl v n (u8s l) hs hown ad 1 c (u8s [y]) hx rfl (by
    intro j u hj
    rcases j with _ | j
    · simp [u8s] at hj; subst hj; simpa [Addr.add] using hc
    · simp [u8s] at hj) (u8s_one _) (by unfold maxLen; omega) (by omega) hbase (by intro v' w' k1 k2 k3; exact h v' w' (by rw [u8s_append]; exact k1) k2 k3)
end Go.Proofs.Ytmipmiaflompmab

/-
  OWN WORK. A family of rows of bytes of the call's own, each in a block of its own.
-/
namespace Go.Proofs.Ytmipmiaflompmab
open Go.RowKit
set_option linter.unusedVariables false

/-- block k is no row of bytes -/
def Not8 (w : World) (k : Nat) : Prop := ∀ cur m, w.heap[k]? ≠ some (.cells cur 5 m)
theorem own_not8 {w : World} {base e n : Nat} {v : Value} {xs : List Value} (h : w.ownsRow base e 1 v n xs) (he : e ≠ 5) (k : Nat) (hk : v.ownBlock = some k) : Not8 w k := by
  rcases h.2 with ⟨rfl, _⟩ | ⟨g, cap, cur, rfl, h2, h3, h4⟩
  · simp [Value.ownBlock] at hk
  · simp [Value.ownBlock] at hk
    subst hk
    intro cur m h5
    rw [h3] at h5
    simp at h5
    exact he h5.2.1

structure Fam (w : World) (base : Nat) (vs : List Value) (ls : List (List UInt8)) : Prop where
  len : vs.length = ls.length
  own : ∀ (i : Nat) v l, vs[i]? = some v → ls[i]? = some l → w.ownsRow base 5 1 v l.length (u8s l)
  apart : ∀ (i j : Nat) u v x, i < j → vs[i]? = some u → vs[j]? = some v → u.ownBlock = some x → v.ownBlock ≠ some x

theorem own_of_kept {w w' : World} {base e size : Nat} {v : Value} {n : Nat} {xs : List Value} {S : List Nat} (h : w.ownsRow base e size v n xs) (k : Kept S w w') (hS : ∀ x, v.ownBlock = some x → x ∉ S) : w'.ownsRow base e size v n xs := by
  refine ⟨h.1, ?_⟩
  rcases h.2 with h | ⟨g, cap, cur, rfl, h2, h3, h4⟩
  · exact .inl h
  · exact .inr ⟨g, cap, cur, rfl, h2, (k.block g (Array.getElem?_eq_some_iff.1 h3).1 (hS g rfl)).trans h3, h4⟩
theorem own_lt {w : World} {base e size : Nat} {v : Value} {n : Nat} {xs : List Value} (h : w.ownsRow base e size v n xs) (x : Nat) (hx : v.ownBlock = some x) : x < w.heap.size := (h.lt x hx).2
theorem own_is8 {w : World} {base n : Nat} {v : Value} {xs : List Value} (h : w.ownsRow base 5 1 v n xs) (k : Nat) (hk : v.ownBlock = some k) (hn : Not8 w k) : False := by
  rcases h.2 with ⟨rfl, _⟩ | ⟨g, cap, cur, rfl, h2, h3, h4⟩
  · simp [Value.ownBlock] at hk
  · simp [Value.ownBlock] at hk
    subst hk
    exact hn _ _ h3

theorem Fam.nil (w : World) (base : Nat) : Fam w base [] [] := ⟨rfl, by simp, by simp⟩
theorem Fam.lt {w : World} {base : Nat} {vs : List Value} {ls : List (List UInt8)} (h : Fam w base vs ls) (i : Nat) (v : Value) (x : Nat) (hv : vs[i]? = some v) (hx : v.ownBlock = some x) : base ≤ x ∧ x < w.heap.size := by
  have hi : i < ls.length := by rw [← h.len]; exact (List.getElem?_eq_some_iff.1 hv).1
  exact (h.own i v ls[i] hv (List.getElem?_eq_getElem hi)).lt x hx
theorem Fam.kept {w w' : World} {base : Nat} {vs : List Value} {ls : List (List UInt8)} {S : List Nat} (h : Fam w base vs ls) (k : Kept S w w') (hS : ∀ x ∈ S, Not8 w x ∨ w.heap.size ≤ x ∨ x < base) : Fam w' base vs ls := by
  refine ⟨h.len, fun i v l hv hl => ?_, h.apart⟩
  have ho := h.own i v l hv hl
  refine own_of_kept ho k fun x hx hm => ?_
  rcases hS x hm with h1 | h1 | h1
  · exact own_is8 ho x hx h1
  · have := own_lt ho x hx; omega
  · have := own_ge ho x hx; omega
/-- one row more, made just now -/
theorem Fam.snoc {w w' : World} {base : Nat} {vs : List Value} {ls : List (List UInt8)} {S : List Nat} {v : Value} {l : List UInt8} {n : Nat} (h : Fam w base vs ls) (hb : base ≤ w.heap.size) (k : Kept S w w') (hS : ∀ x ∈ S, Not8 w x ∨ w.heap.size ≤ x ∨ x < base)
    (ho : w'.ownsRow w.heap.size 5 1 v n (u8s l)) : Fam w' base (vs ++ [v]) (ls ++ [l]) := by
  have hk := h.kept k hS
  have hn : n = l.length := by have := ho.1; rw [u8s_length] at this; omega
  subst hn
  refine ⟨by simp [h.len], fun i u m hu hm => ?_, fun i j u u' x hij hu hu' hx => ?_⟩
  · rw [List.getElem?_append] at hu hm
    by_cases hi : i < vs.length
    · rw [if_pos hi] at hu
      rw [if_pos (by rw [← h.len]; exact hi)] at hm
      exact hk.own i u m hu hm
    · rw [if_neg hi] at hu
      rw [if_neg (by rw [← h.len]; exact hi)] at hm
      rw [← h.len] at hm
      rcases hd : i - vs.length with _ | d
      · rw [hd] at hu hm
        simp at hu hm
        subst hu; subst hm
        refine ⟨ho.1, ?_⟩
        rcases ho.2 with h1 | ⟨g, cap, cur, h1, h2, h3⟩
        · exact .inl h1
        · exact .inr ⟨g, cap, cur, h1, Nat.le_trans hb h2, h3⟩
      · rw [hd] at hu
        simp at hu
  · rw [List.getElem?_append] at hu hu'
    by_cases hj : j < vs.length
    · rw [if_pos hj] at hu'
      rw [if_pos (by omega)] at hu
      exact h.apart i j u u' x hij hu hu' hx
    · rw [if_neg hj] at hu'
      rcases hd : j - vs.length with _ | d
      · rw [hd] at hu'
        simp at hu'
        subst hu'
        rw [if_pos (by omega)] at hu
        intro hy
        have h1 := (h.lt i u x hu hx).2
        have h2 := own_ge ho x hy
        omega
      · rw [hd] at hu'
        simp at hu'
/-- the whole in memory: a row of the slices -/
theorem Fam.bs {w : World} {base : Nat} {vs : List Value} {ls : List (List UInt8)} (h : Fam w base vs ls) (i : Nat) (v : Value) (l : List UInt8) (hv : vs[i]? = some v) (hl : ls[i]? = some l) : Bs w v l := Bs.ofOwn (h.own i v l hv hl)
end Go.Proofs.Ytmipmiaflompmab

/-
  OWN WORK. Marks: a family of rows, each written full of a mark of its own.
-/
namespace Go.Proofs.Ytmipmiaflompmab
open Go.RowKit
set_option linter.unusedVariables false

def mk (k : Nat) : UInt8 := UInt8.ofNat (k + 1)
theorem mk_int (k : Nat) : ((k : Int) + 1) % 256 = ((mk k).toNat : Int) := by
  unfold mk
  rw [UInt8.toNat_ofNat']
  omega
def rep (n k : Nat) : List UInt8 := List.replicate n (mk k)
theorem rep_length (n k : Nat) : (rep n k).length = n := by simp [rep]
theorem rep_get {n k i : Nat} (h : i < n) : (rep n k)[i]? = some (mk k) := by simp [rep, h]
theorem rep_snoc (n k : Nat) : rep n k ++ [mk k] = rep (n + 1) k := by unfold rep; rw [List.replicate_succ']
/-- the first i bytes written over -/
def part (l : List UInt8) (i k : Nat) : List UInt8 := List.replicate i (mk k) ++ l.drop i
theorem part_zero (l : List UInt8) (k : Nat) : part l 0 k = l := by simp [part]
theorem part_length (l : List UInt8) (i k : Nat) (h : i ≤ l.length) : (part l i k).length = l.length := by simp [part]; omega
theorem part_all (l : List UInt8) (k : Nat) : part l l.length k = rep l.length k := by simp [part, rep]
theorem part_succ (l : List UInt8) (i k : Nat) (h : i < l.length) : (part l i k).set i (mk k) = part l (i + 1) k := by
  unfold part
  rw [List.set_append_right _ _ (by simp), List.length_replicate, Nat.sub_self, List.drop_eq_getElem_cons h, List.set_cons_zero, List.replicate_succ', List.append_assoc]
  rfl
/-- the first k rows marked -/
def nn (ls : List (List UInt8)) (j : Nat) : Nat := (ls.getD j []).length
def midl (ls : List (List UInt8)) (k : Nat) : List (List UInt8) := (List.range ls.length).map fun j => if j < k then rep (nn ls j) j else ls.getD j []
theorem midl_length (ls : List (List UInt8)) (k : Nat) : (midl ls k).length = ls.length := by simp [midl]
theorem midl_get (ls : List (List UInt8)) (k j : Nat) (h : j < ls.length) : (midl ls k)[j]? = some (if j < k then rep (nn ls j) j else ls.getD j []) := by simp [midl, h]
theorem midl_zero (ls : List (List UInt8)) : midl ls 0 = ls := by
  apply List.ext_getElem? 
  intro j
  by_cases h : j < ls.length
  · rw [midl_get ls 0 j h]
    simp [List.getD, List.getElem?_eq_getElem h]
  · rw [List.getElem?_eq_none (by rw [midl_length]; omega), List.getElem?_eq_none (by omega)]
theorem midl_succ (ls : List (List UInt8)) (k : Nat) (h : k < ls.length) : (midl ls k).set k (rep (nn ls k) k) = midl ls (k + 1) := by
  apply List.ext_getElem?
  intro j
  by_cases hj : j < ls.length
  · rw [midl_get ls (k + 1) j hj, List.getElem?_set]
    by_cases e : k = j
    · subst e
      rw [if_pos rfl, if_pos (by rw [midl_length]; exact h), if_pos (by omega)]
    · rw [if_neg e, midl_get ls k j hj]
      by_cases hjk : j < k
      · rw [if_pos hjk, if_pos (by omega)]
      · rw [if_neg hjk, if_neg (by omega)]
  · rw [List.getElem?_eq_none (by rw [List.length_set, midl_length]; omega), List.getElem?_eq_none (by rw [midl_length]; omega)]

/-- one row of the family is written -/
theorem Fam.set {w w' : World} {base : Nat} {vs : List Value} {ls : List (List UInt8)} (h : Fam w base vs ls) (k : Nat) (v : Value) (l' : List UInt8) (hv : vs[k]? = some v) (kp : Kept v.ownBlock.toList w w') (ho : w'.ownsRow base 5 1 v l'.length (u8s l')) : Fam w' base vs (ls.set k l') := by
  refine ⟨by rw [List.length_set]; exact h.len, fun i u m hu hm => ?_, h.apart⟩
  rw [List.getElem?_set] at hm
  by_cases e : k = i
  · subst e
    rw [if_pos rfl] at hm
    split at hm
    · simp at hm
      subst hm
      rw [hv] at hu
      simp at hu
      subst hu
      exact ho
    · cases hm
  · rw [if_neg e] at hm
    refine own_of_kept (h.own i u m hu hm) kp fun x hx hmem => ?_
    have hvx : v.ownBlock = some x := by simpa using hmem
    rcases Nat.lt_or_ge i k with hik | hik
    · exact h.apart i k u v x hik hu hv hx hvx
    · exact h.apart k i v u x (by omega) hv hu hvx hx
/-- the blocks of a family -/
def blocks (vs : List Value) : List Nat := vs.filterMap Value.ownBlock
theorem mem_blocks {vs : List Value} {k x : Nat} {v : Value} (hv : vs[k]? = some v) (hx : v.ownBlock = some x) : x ∈ blocks vs := by
  unfold blocks
  rw [List.mem_filterMap]
  exact ⟨v, List.mem_of_getElem? hv, hx⟩
theorem blocks_mem {vs : List Value} {x : Nat} (h : x ∈ blocks vs) : ∃ (k : Nat) (v : Value), vs[k]? = some v ∧ v.ownBlock = some x := by
  unfold blocks at h
  rw [List.mem_filterMap] at h
  obtain ⟨v, hv, hx⟩ := h
  obtain ⟨k, hk⟩ := List.getElem?_of_mem hv
  exact ⟨k, v, hk, hx⟩
theorem Fam.not8 {w : World} {base : Nat} {vs : List Value} {ls : List (List UInt8)} (h : Fam w base vs ls) {x : Nat} (hx : x ∈ blocks vs) : ¬ Not8 w x ∧ base ≤ x ∧ x < w.heap.size := by
  obtain ⟨k, v, hv, ho⟩ := blocks_mem hx
  have hk : k < ls.length := by rw [← h.len]; exact (List.getElem?_eq_some_iff.1 hv).1
  have hw := h.own k v ls[k] hv (List.getElem?_eq_getElem hk)
  exact ⟨fun hn => own_is8 hw x ho hn, own_ge hw x ho, own_lt hw x ho⟩
/-- a byte of an owned row is set -/
theorem set_own {w : World} {base e b n cap : Nat} {l : List UInt8} (ow : w.ownsRow base e 1 (.slice (some ⟨b, 0, none⟩) n cap) n (u8s l)) (k : Nat) (y : UInt8) (z : Int) (hz : z = (y.toNat : Int)) :
    (w.setCell ⟨b, k, none⟩ (.int .u8 z)).ownsRow base e 1 (.slice (some ⟨b, 0, none⟩) n cap) n (u8s (l.set k y)) ∧ Kept [b] w (w.setCell ⟨b, k, none⟩ (.int .u8 z)) := by
  subst hz
  have h := ow.stored k (.int .u8 (y.toNat : Int))
  refine ⟨?_, Kept.ofGrown h.2 (by intro x hx _; simp at hx; simp [hx])⟩
  have e : (u8s l).set k (.int .u8 (y.toNat : Int)) = u8s (l.set k y) := by simp [u8s, List.map_set]
  rw [← e]
  exact h.1
end Go.Proofs.Ytmipmiaflompmab

/-
  OWN WORK. Rows of the call's own whose elements have several cells, told by their cells: also a front of one, with no spare.
-/
namespace Go.Proofs.Ytmipmiaflompmab
open Go.RowKit
set_option linter.unusedVariables false

/-- v: n elements of sz cells each, the cells cs, in a block of the call's own (at base or behind), from its beginning on -/
def Row (w : World) (base sz : Nat) (v : Value) (n : Nat) (cs : List Value) : Prop :=
  cs.length = n * sz ∧ (∀ u ∈ cs, u.oneCell' = true) ∧ ∃ p c, v = .slice p n c ∧ n ≤ c ∧ c ≤ maxLen ∧ ((p = none ∧ c = 0) ∨ ∃ g, p = some ⟨g, 0, none⟩ ∧ base ≤ g ∧ g < w.heap.size ∧
    (∀ (j : Nat) u, cs[j]? = some u → w.cell? ⟨g, j, none⟩ = some u) ∧ ∀ j, j < c * sz → (w.cell? ⟨g, j, none⟩).isSome = true ∧ w.frozen? ⟨g, j, none⟩ = false)
theorem Row.nil (w : World) (base sz : Nat) : Row w base sz (.slice none 0 0) 0 [] := ⟨by simp, by simp, none, 0, rfl, Nat.le_refl _, by simp [maxLen], .inl ⟨rfl, rfl⟩⟩
theorem frozen_of_block {w w' : World} {a : Addr} (h : w'.heap[a.block]? = w.heap[a.block]?) : w'.frozen? a = w.frozen? a := World.frozen?_of_block h
theorem Row.kept {w w' : World} {base sz : Nat} {v : Value} {n : Nat} {cs : List Value} {S : List Nat} (h : Row w base sz v n cs) (k : Kept S w w') (hS : ∀ x, v.ownBlock = some x → x ∉ S) : Row w' base sz v n cs := by
  obtain ⟨h1, h2, p, c, rfl, h3, h4, h5⟩ := h
  refine ⟨h1, h2, p, c, rfl, h3, h4, ?_⟩
  rcases h5 with h5 | ⟨g, rfl, h6, h7, h8, h9⟩
  · exact .inl h5
  · have e := k.block g h7 (hS g rfl)
    exact .inr ⟨g, rfl, h6, Nat.lt_of_lt_of_le h7 k.size, fun j u hj => (World.cell?_of_block (a := ⟨g, j, none⟩) e).trans (h8 j u hj), fun j hj => ⟨by rw [World.cell?_of_block (a := ⟨g, j, none⟩) e]; exact (h9 j hj).1, (frozen_of_block (a := ⟨g, j, none⟩) e).trans (h9 j hj).2⟩⟩
theorem Row.shape {w : World} {base sz : Nat} {v : Value} {n : Nat} {cs : List Value} (h : Row w base sz v n cs) : ∃ p c, v = .slice p n c ∧ n ≤ c ∧ c ≤ maxLen := by
  obtain ⟨-, -, p, c, rfl, h3, h4, -⟩ := h
  exact ⟨p, c, rfl, h3, h4⟩
theorem Row.pos {w : World} {base sz : Nat} {p : Option Addr} {n c : Nat} {cs : List Value} (h : Row w base sz (.slice p n c) n cs) (hn : 0 < n) :
    ∃ g, p = some ⟨g, 0, none⟩ ∧ base ≤ g ∧ g < w.heap.size ∧ (∀ (j : Nat) u, cs[j]? = some u → w.cell? ⟨g, j, none⟩ = some u) ∧ ∀ j, j < c * sz → (w.cell? ⟨g, j, none⟩).isSome = true ∧ w.frozen? ⟨g, j, none⟩ = false := by
  obtain ⟨h1, h2, p', c', e, h3, h4, h5⟩ := h
  cases e
  rcases h5 with ⟨-, h5⟩ | h5
  · omega
  · exact h5
theorem Row.lt {w : World} {base sz : Nat} {v : Value} {n : Nat} {cs : List Value} (h : Row w base sz v n cs) (x : Nat) (hx : v.ownBlock = some x) : base ≤ x ∧ x < w.heap.size := by
  obtain ⟨h1, h2, p, c, rfl, h3, h4, h5⟩ := h
  rcases h5 with ⟨rfl, -⟩ | ⟨g, rfl, h6, h7, -⟩
  · simp [Value.ownBlock] at hx
  · simp [Value.ownBlock] at hx
    subst hx
    exact ⟨h6, h7⟩
theorem Row.mono {w : World} {base base' sz : Nat} {v : Value} {n : Nat} {cs : List Value} (h : Row w base sz v n cs) (hb : base' ≤ base) : Row w base' sz v n cs := by
  obtain ⟨h1, h2, p, c, rfl, h3, h4, h5⟩ := h
  refine ⟨h1, h2, p, c, rfl, h3, h4, ?_⟩
  rcases h5 with h5 | ⟨g, rfl, h6, h7, h8⟩
  · exact .inl h5
  · exact .inr ⟨g, rfl, Nat.le_trans hb h6, h7, h8⟩
/-- a cell of one is set -/
theorem Row.set {w : World} {base sz g n c : Nat} {cs : List Value} (h : Row w base sz (.slice (some ⟨g, 0, none⟩) n c) n cs) (j : Nat) (hj : j < n * sz) (u : Value) (hu : u.oneCell' = true) :
    Row (w.setCell ⟨g, j, none⟩ u) base sz (.slice (some ⟨g, 0, none⟩) n c) n (cs.set j u) ∧ Kept [g] w (w.setCell ⟨g, j, none⟩ u) := by
  have hk : Kept [g] w (w.setCell ⟨g, j, none⟩ u) := (Kept.refl [g] w).setCell (.inl (by simp)) u
  obtain ⟨h1, h2, p', c', e, h3, h4, h5⟩ := h
  cases e
  refine ⟨⟨by rw [List.length_set]; exact h1, fun x hx => ?_, _, _, rfl, h3, h4, ?_⟩, hk⟩
  · rcases List.mem_or_eq_of_mem_set hx with hx | hx
    · exact h2 x hx
    · rw [hx]; exact hu
  · rcases h5 with ⟨h5, -⟩ | ⟨g', e, h6, h7, h8, h9⟩
    · cases h5
    · cases e
      obtain ⟨old, hold⟩ : ∃ old, cs[j]? = some old := ⟨_, List.getElem?_eq_getElem (by omega)⟩
      have hc := h8 j old hold
      refine .inr ⟨g, rfl, h6, Nat.lt_of_lt_of_le h7 hk.size, fun k x hx => ?_, fun k hk' => ⟨?_, by rw [World.frozen?_setCell]; exact (h9 k hk').2⟩⟩
      · rw [List.getElem?_set] at hx
        by_cases e : j = k
        · subst e
          rw [if_pos rfl, if_pos (by omega)] at hx
          cases hx
          exact World.cell?_setCell_same _ _ _ hc
        · rw [if_neg e] at hx
          rw [World.cell?_setCell_other _ _ _ _ (by first | (simp; done) | (simp; omega))]
          exact h8 k x hx
      · by_cases e : j = k
        · subst e
          rw [World.cell?_setCell_same _ _ _ hc]; rfl
        · rw [World.cell?_setCell_other _ _ _ _ (by first | (simp; done) | (simp; omega))]
          exact (h9 k hk').1
/-- a front of one, with no spare -/
theorem Row.front {w : World} {base sz : Nat} {p : Option Addr} {n c : Nat} {cs : List Value} (h : Row w base sz (.slice p n c) n cs) (i : Nat) (hi : i ≤ n) (hn : 0 < n) : Row w base sz (.slice p i i) i (cs.take (i * sz)) := by
  obtain ⟨g, rfl, h6, h7, h8, h9⟩ := h.pos hn
  obtain ⟨h1, h2, p', c', e, h3, h4, h5⟩ := h
  cases e
  have hm : i * sz ≤ n * sz := Nat.mul_le_mul_right _ hi
  have hm2 : i * sz ≤ c * sz := Nat.mul_le_mul_right _ (by omega)
  refine ⟨by rw [List.length_take]; omega, fun u hu => h2 u (List.mem_of_mem_take hu), _, i, rfl, Nat.le_refl _, by omega, .inr ⟨g, rfl, h6, h7, fun j u hj => ?_, fun j hj => h9 j (by omega)⟩⟩
  rw [List.getElem?_take] at hj
  split at hj
  · exact h8 j u hj
  · cases hj
theorem kept_setCells (g : Nat) : ∀ (vs : List Value) (o : Nat) (w : World), Kept [g] w (w.setCells g o vs)
  | [], _, w => Kept.refl _ _
  | v :: r, o, w => ((Kept.refl [g] w).setCell (p := ⟨g, o, none⟩) (.inl (by simp)) v).trans (kept_setCells g r (o + 1) _) (by intro x hx; exact .inl hx)
/-- 'append(l, x...)' -/
theorem run_append_row {P : Program} (w : World) (base : Nat) (t ty e : TypeId) (i : TypeInfo) (z : Value) (sz bytes : Nat) (ht : P.underlying t = some (.slice e)) (hi : P.info? e = some i) (hz : i.zero = some z) (hsize : i.size = sz) (hby : i.bytes = bytes) (hzs : z.cells.size = sz)
    (v : Value) (n : Nat) (cs : List Value) (h : Row w base sz v n cs) (x : Value) (m : Nat) (news : List Value) (hs : Src P sz t x m news w) (h63 : n + m ≤ 9223372036854775807) (hmx : n + m ≤ maxLen) (hbytes : (n + m) * bytes ≤ 140737488355328) (hbase : base ≤ w.heap.size) :
    ∃ v' w', (Builtin.append_ #[t, t] ty #[v, x]).run P w = .ok v' w' ∧ Row w' base sz v' (n + m) (cs ++ news) ∧ Kept v.ownBlock.toList w w' ∧ (v'.ownBlock = v.ownBlock ∨ v'.ownBlock = some w.heap.size) := by
  subst hsize
  subst hby
  have hnl := hs.newsLen
  have hall : ∀ u ∈ cs ++ news, u.oneCell' = true := by
    intro u hu
    rcases List.mem_append.1 hu with hu | hu
    · exact h.2.1 u hu
    · exact hs.one u hu
  have hlen : (cs ++ news).length = (n + m) * i.size := by rw [List.length_append, h.1, hnl, Nat.add_mul]
  obtain ⟨p, c, rfl, h3, h4⟩ := h.shape
  by_cases hfit : n + m ≤ c
  · cases p with
    | none =>
      obtain ⟨h1, h2, p', c', e', -, -, h5⟩ := id h
      cases e'
      rcases h5 with ⟨-, rfl⟩ | ⟨g, e, -⟩
      · obtain rfl : n = 0 := by omega
        obtain rfl : m = 0 := by omega
        obtain rfl : news = [] := List.eq_nil_of_length_eq_zero (by simpa using hnl)
        exact ⟨_, _, run_append_nothing (P := P) w t t ty e i ht hi none 0 0 (Nat.le_refl _) x hs, by simpa using h, Kept.refl _ _, .inl rfl⟩
      · cases e
    | some a =>
      obtain ⟨h1, h2, p', c', e', -, -, h5⟩ := id h
      cases e'
      rcases h5 with ⟨e, -⟩ | ⟨g, e, h6, h7, h8, h9⟩
      · cases e
      · cases e
        have hm : n * i.size + m * i.size ≤ c * i.size := by rw [← Nat.add_mul]; exact Nat.mul_le_mul_right _ hfit
        have hthere : ∀ j, j < news.length → (w.cell? ⟨g, 0 + n * i.size + j, none⟩).isSome = true := fun j hj => (h9 _ (by omega)).1
        have hrun := run_append_room_src (P := P) w t t ty e i ht hi g 0 n c x m news hs hfit hthere (fun j hj => (h9 _ (by omega)).2)
        have hk := kept_setCells g news (0 + n * i.size) w
        refine ⟨_, _, hrun, ⟨hlen, hall, _, _, rfl, hfit, h4, .inr ⟨g, rfl, h6, Nat.lt_of_lt_of_le h7 hk.size, fun j u hj => ?_, fun j hj => ⟨?_, by rw [World.frozen?_setCells]; exact (h9 j hj).2⟩⟩⟩, by simpa [Value.ownBlock] using hk, .inl rfl⟩
        · by_cases hjc : j < cs.length
          · rw [List.getElem?_append_left hjc] at hj
            rw [World.cell?_setCells_out g news _ w _ (fun _ _ => .inl (by simp; omega))]
            exact h8 j u hj
          · rw [List.getElem?_append_right (by omega)] at hj
            obtain ⟨hlt, rfl⟩ := List.getElem?_eq_some_iff.1 hj
            have := World.cell?_setCells_in g news (0 + n * i.size) w hthere (j - cs.length) hlt
            rw [show 0 + n * i.size + (j - cs.length) = j by omega] at this
            exact this
        · by_cases hjin : 0 + n * i.size ≤ j ∧ j < 0 + n * i.size + news.length
          · have := World.cell?_setCells_in g news (0 + n * i.size) w hthere (j - (0 + n * i.size)) (by omega)
            rw [show 0 + n * i.size + (j - (0 + n * i.size)) = j by omega] at this
            rw [this]; rfl
          · rw [World.cell?_setCells_out g news _ w _ (fun _ _ => by simp; omega)]
            exact (h9 j hj).1
  · have hold : (Builtin.firstCells i.size n (.slice p n c)).run P w.drew = .ok cs.toArray w.drew := by
      obtain ⟨h1, h2, p', c', e', -, -, h5⟩ := id h
      cases e'
      rcases h5 with ⟨rfl, rfl⟩ | ⟨g, rfl, h6, h7, h8, h9⟩
      · obtain rfl : n = 0 := by omega
        obtain rfl : cs = [] := List.eq_nil_of_length_eq_zero (by simpa using h1)
        exact run_firstCells_none w.drew i.size 0 0 0
      · exact run_firstCells_some w.drew i.size n ⟨g, 0, none⟩ n c cs h1 (fun j u hj => by rw [add_none rfl]; simpa using h8 j u hj)
    have hg : c < n + m := by omega
    have hrun := run_append_grow_src (P := P) w t t ty e i z ht hi hz p n c cs hold x m news hs hg (by omega) (growslice_fits hg hbytes)
    have hge := grownCap_ge w (n + m) c e
    have hcm := grownCap_le_maxLen w (n + m) c e hmx
    have hsz : ((cs ++ news).toArray ++ Builtin.zeroCells z.cells (grownCap w (n + m) c e - (n + m))).size = grownCap w (n + m) c e * i.size := by
      rw [Array.size_append, List.size_toArray, hlen, size_zeroCells, hzs, ← Nat.add_mul]
      congr 1
      omega
    have hk : Kept [] w (w.drew.alloc (.cells ((cs ++ news).toArray ++ Builtin.zeroCells z.cells (grownCap w (n + m) c e - (n + m))) e)) := ((Kept.refl [] w).drew).alloc _
    refine ⟨_, _, hrun, ⟨hlen, hall, _, _, rfl, hge, hcm, .inr ⟨w.heap.size, rfl, hbase, by simp, fun j u hj => ?_, fun j hj => ⟨?_, World.frozen?_alloc_new w.drew _ _ j⟩⟩⟩, hk.mono (by simp), .inr rfl⟩
    · have e1 : (w.drew.alloc (.cells ((cs ++ news).toArray ++ Builtin.zeroCells z.cells (grownCap w (n + m) c e - (n + m))) e)).cell? ⟨w.heap.size, j, none⟩ = _ := World.cell?_alloc_new w.drew _ _ j
      have hjl := (List.getElem?_eq_some_iff.1 hj).1
      rw [e1, Array.getElem?_append_left (by simpa using hjl), List.getElem?_toArray, hj]
    · have e1 : (w.drew.alloc (.cells ((cs ++ news).toArray ++ Builtin.zeroCells z.cells (grownCap w (n + m) c e - (n + m))) e)).cell? ⟨w.heap.size, j, none⟩ = _ := World.cell?_alloc_new w.drew _ _ j
      rw [e1, Array.getElem?_eq_getElem (by rw [hsz]; exact hj)]
      rfl
theorem info_parts3 {P : Program} {e : TypeId} {z : Value} {sz by' : Nat} (h : (P.info? e).map (fun i => (i.zero, i.size, i.bytes)) = some (some z, sz, by')) : ∃ i, P.info? e = some i ∧ i.zero = some z ∧ i.size = sz ∧ i.bytes = by' := by
  obtain ⟨i, hi, h'⟩ := Option.map_eq_some_iff.1 h
  simp only [Prod.mk.injEq] at h'
  exact ⟨i, hi, h'.1, h'.2.1, h'.2.2⟩
/-- what is cut off a row behind its k-th element is a source -/
theorem Row.rest {P : Program} {w w' : World} {base sz g n c : Nat} {cs : List Value} {t e : TypeId} (ht : P.underlying t = some (.slice e)) (h : Row w base sz (.slice (some ⟨g, 0, none⟩) n c) n cs) (hc : ∀ (j : Nat) u, cs[j]? = some u → w'.cell? ⟨g, j, none⟩ = some u) (k : Nat) (hk : k ≤ n) (sa : Option Addr)
    (hsa : sa = if c = k then some ⟨g, 0, none⟩ else Option.map (fun x : Addr => x.add (k * sz)) (some ⟨g, 0, none⟩)) : Src P sz t (.slice sa (n - k) (c - k)) (n - k) (cs.drop (k * sz)) w' := by
  obtain ⟨h1, h2, p', c', e', h3, h4, h5⟩ := h
  cases e'
  have hl : (cs.drop (k * sz)).length = (n - k) * sz := by rw [List.length_drop, h1, Nat.sub_mul]
  have hone : ∀ u ∈ cs.drop (k * sz), u.oneCell' = true := fun u hu => h2 u (List.mem_of_mem_drop hu)
  by_cases e : c = k
  · rw [if_pos e] at hsa
    subst hsa
    have h0 : cs.drop (k * sz) = [] := List.eq_nil_of_length_eq_zero (by rw [hl, show n - k = 0 by omega]; simp)
    exact Src.ofSlice w' ht _ _ _ _ hl (fun j u hj => by rw [h0] at hj; simp at hj) hone
  · rw [if_neg e] at hsa
    subst hsa
    refine Src.ofSlice w' ht _ _ _ _ hl (fun j u hj => ?_) hone
    rw [Go.Proofs.Ytmipmiaflompmab.add_add, add_none (a := ⟨g, 0, none⟩) rfl]
    rw [List.getElem?_drop] at hj
    simpa using hc _ u hj
/-- the same in a walk, and at a step of a region that draws its order -/
theorem wpList_append_row {P : Program} {w : World} {ops : Array Oper} {rest : List Oper} {o : Oper} {a : Act} {Q : Exit → Act → World → Prop} (hgd : o.guard = none) (s x : Operand) (t : TypeId)
    (ho : o.op = .call { callee := .builtin .append, args := #[s, x], argTypes := #[t, t] }) (base : Nat) (e : TypeId) (i : TypeInfo) (z : Value) (sz bytes : Nat) (ht : P.underlying t = some (.slice e)) (hi : P.info? e = some i) (hz : i.zero = some z) (hsize : i.size = sz) (hby : i.bytes = bytes) (hzs : z.cells.size = sz)
    (v : Value) (n : Nat) (cs : List Value) (hv : a.eval s = v) (h : Row w base sz v n cs) (xv : Value) (m : Nat) (news : List Value) (hx : a.eval x = xv) (hs : Src P sz t xv m news w) (h63 : n + m ≤ 9223372036854775807) (hmx : n + m ≤ maxLen) (hbytes : (n + m) * bytes ≤ 140737488355328) (hbase : base ≤ w.heap.size)
    (hgo : ∀ v' w', Row w' base sz v' (n + m) (cs ++ news) → Kept v.ownBlock.toList w w' → (v'.ownBlock = v.ownBlock ∨ v'.ownBlock = some w.heap.size) → wpList P ops Q rest (a.put o.dst v') w') : wpList P ops Q (o :: rest) a w := by
  refine wpList_plain hgd fun K hK => ?_
  obtain ⟨v', w', hr, k1, k2, k3⟩ := run_append_row (P := P) w base t o.type e i z sz bytes ht hi hz hsize hby hzs v n cs h xv m news hs h63 hmx hbytes hbase
  unfold Oper.wp execOp
  simp only [ho, resolve, invoke, builtin, Sem.run_bind, Sem.run_pure, Result.andThen_ok, List.map_toArray, List.map_cons, List.map_nil, hv, hx, hr]
  exact hK _ _ (hgo v' w' k1 k2 k3)
theorem step_append_row {P : Program} {w : World} {ops : Array Oper} {o : Oper} {a : Act} {K : Act → World → Prop} {Q : Exit → Act → World → Prop} {E : Prop} (hgd : o.guard = none) (s x : Operand) (t : TypeId)
    (ho : o.op = .call { callee := .builtin .append, args := #[s, x], argTypes := #[t, t] }) (base : Nat) (e : TypeId) (i : TypeInfo) (z : Value) (sz bytes : Nat) (ht : P.underlying t = some (.slice e)) (hi : P.info? e = some i) (hz : i.zero = some z) (hsize : i.size = sz) (hby : i.bytes = bytes) (hzs : z.cells.size = sz)
    (v : Value) (n : Nat) (cs : List Value) (hv : a.eval s = v) (h : Row w base sz v n cs) (xv : Value) (m : Nat) (news : List Value) (hx : a.eval x = xv) (hs : Src P sz t xv m news w) (h63 : n + m ≤ 9223372036854775807) (hmx : n + m ≤ maxLen) (hbytes : (n + m) * bytes ≤ 140737488355328) (hbase : base ≤ w.heap.size)
    (hgo : ∀ v' w', Row w' base sz v' (n + m) (cs ++ news) → Kept v.ownBlock.toList w w' → (v'.ownBlock = v.ownBlock ∨ v'.ownBlock = some w.heap.size) → K (a.put o.dst v') w') :
    if Region.wanted o (yielded ops a.tmps) = true then Oper.wp P o a w K Q else E := by
  have hw : Region.wanted o (yielded ops a.tmps) = true := by simp [Region.wanted, hgd]
  rw [if_pos hw]
  obtain ⟨v', w', hr, k1, k2, k3⟩ := run_append_row (P := P) w base t o.type e i z sz bytes ht hi hz hsize hby hzs v n cs h xv m news hs h63 hmx hbytes hbase
  unfold Oper.wp execOp
  simp only [ho, resolve, invoke, builtin, Sem.run_bind, Sem.run_pure, Result.andThen_ok, List.map_toArray, List.map_cons, List.map_nil, hv, hx, hr]
  exact hgo v' w' k1 k2 k3
/-- 'l[k:]' and 'l[:k:k]', of elements of several cells -/
theorem run_cut_from_sz {P : Program} (w : World) (t e : TypeId) (sz : Nat) (hu : P.underlying t = some (.slice e)) (hsz : (P.info? e).map (·.size) = some sz) (p : Option Addr) (n c k : Nat) (hk : k ≤ n) :
    (Instr.slice t (.slice p n c) (some (.int .i64 (k : Int))) none none).run P w = .ok (.slice (if c = k then p else p.map (·.add (k * sz))) (n - k) (c - k)) w := by
  obtain ⟨i, hi, hs⟩ := Option.map_eq_some_iff.1 hsz
  simp [Instr.slice, run_underlying hu, Instr.sliceBounds, run_sliceBound, sizeOf, typeInfo, hi, hs, (by omega : (k : Int) ≤ (n : Int))]
theorem run_cut_tight {P : Program} (w : World) (t e : TypeId) (sz : Nat) (hu : P.underlying t = some (.slice e)) (hsz : (P.info? e).map (·.size) = some sz) (p : Option Addr) (n c k : Nat) (hk : k ≤ c) :
    (Instr.slice t (.slice p n c) none (some (.int .i64 (k : Int))) (some (.int .i64 (k : Int)))).run P w = .ok (.slice p k k) w := by
  obtain ⟨i, hi, hs⟩ := Option.map_eq_some_iff.1 hsz
  simp [Instr.slice, run_underlying hu, Instr.sliceBounds, run_sliceBound, sizeOf, typeInfo, hi, (by omega : (k : Int) ≤ (c : Int))]
  intro _
  cases p with
  | none => rfl
  | some a =>
    obtain ⟨b, o, s⟩ := a
    cases s <;> simp [Addr.add]
end Go.Proofs.Ytmipmiaflompmab

/-
  OWN WORK. The document's disk: copied, PageBytes, Shaped, rest.
-/
namespace Go.Proofs.Ytmipmiaflompmab
open Go.RowKit
set_option linter.unusedVariables false

theorem copy_step (l : List UInt8) (n k : Nat) (h : n = l.length) (hk : k < n) : ((l.take k ++ List.replicate (n - k) (0 : UInt8))).set k (l[k]'(by omega)) = l.take (k + 1) ++ List.replicate (n - (k + 1)) 0 := by
  subst h
  rw [List.set_append_right _ _ (by simp; omega), List.length_take, show k - min k l.length = 0 by omega, show l.length - k = (l.length - (k + 1)) + 1 by omega, List.replicate_succ, List.set_cons_zero, ← List.take_append_getElem hk, List.append_assoc]
  rfl
set_option maxHeartbeats 1600000 in
theorem copied_any (u : Value) (l : List UInt8) (w : World) (hu : Bs w u l) (hl : l.length ≤ 140737488355328) :
    Calls Try.prog 42 #[u] w fun e w' => ∃ v, e = .returned v ∧ w'.ownsRow w.heap.size 5 1 v l.length (u8s l) ∧ Kept [] w w' := by
  have hmk := fun u => run_make_bs (P := Try.prog) u 25 5 Try.underlying25 (by kernel_rfl) l.length l.length (Nat.le_refl _) (by omega)
  have hown0 := own_made w 5 w.heap.size l.length l.length (Nat.le_refl _) (Nat.le_refl _) (by unfold maxLen; omega)
  have hB : Bs (w.alloc (.cells (madeCells #[.int .u8 0] l.length) 5)) u l := hu.kept ((Kept.refl [] w).alloc _)
  have hk0 : Kept [] w (w.alloc (.cells (madeCells #[.int .u8 0] l.length) 5)) := (Kept.refl [] w).alloc _
  have h63 : l.length ≤ 9223372036854775807 := by omega
  obtain ⟨p, c, rfl, -⟩ := id hu
  clear hl
  go_enter Try.func42, Try.ntmps42
  go_wp2
  generalize w.alloc (.cells (madeCells #[.int .u8 0] l.length) 5) = w1 at *
  go_loopw [4] (fun i wr => ∃ k : Nat, k ≤ l.length ∧ i = .int .i64 k ∧ wr.ownsRow w.heap.size 5 1 (.slice (some ⟨w.heap.size, 0, none⟩) l.length l.length) l.length (u8s (l.take k ++ List.replicate (l.length - k) (0 : UInt8))) ∧ Kept [] w wr) (fun i _ => l.length - (intOf i).toNat)
  case atStart => exact ⟨0, Nat.zero_le _, rfl, by simpa using hown0, hk0⟩
  case round =>
    obtain ⟨k, hk, rfl, hown, hkept⟩ := hrel
    by_cases hlt : k < l.length
    · obtain ⟨b, o, c', e', -, -, -, hcell⟩ := hu.pos (by omega)
      simp only [Value.slice.injEq] at e'
      obtain ⟨rfl, -, rfl⟩ := e'
      have hc := hkept.cell (hcell k l[k] (List.getElem?_eq_getElem (by omega))) (by simp)
      have hlen : (l.take k ++ List.replicate (l.length - k) (0 : UInt8)).length = l.length := by simp; omega
      have hcc := hown.cellAt k (by omega)
      rw [show (u8s (l.take k ++ List.replicate (l.length - k) (0 : UInt8)))[k]? = some (.int .u8 (((l.take k ++ List.replicate (l.length - k) (0 : UInt8))[k]'(by omega)).toNat : Int)) from by simp only [u8s, List.getElem?_map, List.getElem?_eq_getElem (show k < (l.take k ++ List.replicate (l.length - k) (0 : UInt8)).length by omega)]; rfl] at hcc
      have hf := hown.frozenAt k
      obtain ⟨ow2, kw2⟩ := set_own hown k l[k] _ rfl
      rw [copy_step l l.length k rfl hlt] at ow2
      have hge := own_ge hown w.heap.size rfl
      have kw3 := hkept.trans kw2 (by intro x hx; simp at hx; subst hx; exact .inr hge)
      generalize (l.take k ++ List.replicate (l.length - k) (0 : UInt8))[k]'(by omega) = old at hcc
      clear hcell kw2 hown hown0 hB hmk hlen
      go_wp2
      go_roundw
      case rel => exact ⟨k + 1, by omega, by go_num, ow2, kw3⟩
      case measure => simp [intOf]; omega
    · obtain rfl : k = l.length := by omega
      clear hown0 hB hmk
      go_wp2
      go_ret
      exact ⟨_, rfl, by simpa using hown, hkept⟩
theorem pageBytes_any (a b c : Int) (w : World) (hb : IntKind.i64.wrap (16 * b) = 16 * b) (hb2 : IntKind.i64.wrap (24 + 16 * b) = 24 + 16 * b) :
    Calls Try.prog 34 #[.agg #[.int .i64 a, .int .i64 b, .int .i64 c]] w fun e w' => e = .returned (.int .i64 (24 + 16 * b)) ∧ Kept [] w w' := by
  go_enter Try.func34, Try.ntmps34
  go_wp2
  go_ret
  exact ⟨rfl, (Kept.refl [] w).alloc _⟩
theorem wrap16 {n : Nat} (h : n ≤ 8) : IntKind.i64.wrap (16 * (n : Int)) = 16 * (n : Int) := wrap_i64_of (by omega) (by omega)
theorem wrap24 {n : Nat} (h : n ≤ 8) : IntKind.i64.wrap (24 + 16 * (n : Int)) = 24 + 16 * (n : Int) := wrap_i64_of (by omega) (by omega)
theorem tmod_pos {n top : Int} (h : 0 < top) (hn : 0 ≤ n.tmod top) : n.tmod top = n % top := by
  have h1 := Int.tmod_lt_of_pos n h
  have h2 := Int.tmod_add_mul_tdiv n top
  have h3 : n % top = n.tmod top % top := by rw [← Int.add_mul_emod_self_left (n.tmod top) top (n.tdiv top), h2]
  rw [h3, Int.emod_eq_of_lt hn h1]
theorem tmod_neg {n top : Int} (h : 0 < top) (hn : n.tmod top < 0) : n.tmod top + top = n % top := by
  have h1 := Int.lt_tmod_of_pos n h
  have h2 := Int.tmod_add_mul_tdiv n top
  have h3 : n % top = n.tmod top % top := by rw [← Int.add_mul_emod_self_left (n.tmod top) top (n.tdiv top), h2]
  have h4 : n.tmod top % top = (n.tmod top + top * 1) % top := (Int.add_mul_emod_self_left _ _ _).symm
  rw [h3, h4, Int.mul_one, Int.emod_eq_of_lt (by omega) (by omega)]
theorem restN_int (n : Int) (m : Nat) (h : 0 < m) : ((restN n m : Nat) : Int) = n % (m : Int) := by
  unfold restN
  have := Int.emod_nonneg n (b := (m : Int)) (by omega)
  omega
theorem rest_any (n : Int) (m : Nat) (w : World) (hm : 0 < m) (hm2 : m ≤ 9223372036854775807) :
    Calls Try.prog 41 #[.int .i64 n, .int .i64 (m : Int)] w fun e w' => e = .returned (.int .i64 (restN n m : Int)) ∧ w' = w := by
  have h0 : ¬ (m : Int) = 0 := by omega
  have hp : (0 : Int) < (m : Int) := by omega
  have b1 := Int.tmod_lt_of_pos n hp
  have b2 := Int.lt_tmod_of_pos n hp
  have w1 : IntKind.i64.wrap (n.tmod (m : Int)) = n.tmod (m : Int) := wrap_i64_of (by omega) (by omega)
  rw [restN_int n m hm]
  by_cases c : n.tmod (m : Int) < 0
  · have w2 : IntKind.i64.wrap (n.tmod (m : Int) + (m : Int)) = n % (m : Int) := by rw [← tmod_neg hp c]; exact wrap_i64_of (by omega) (by omega)
    clear b1 b2 hm2
    go_enter Try.func41, Try.ntmps41
    go_wp2
    go_ret
    exact ⟨rfl, rfl⟩
  · have e := tmod_pos (n := n) hp (by omega)
    rw [← e]
    clear b1 b2 hm2 e
    go_enter Try.func41, Try.ntmps41
    go_wp2
    go_ret
    exact ⟨rfl, rfl⟩
theorem shaped_any (a b c : Int) (w : World) :
    Calls Try.prog 33 #[.agg #[.int .i64 a, .int .i64 b, .int .i64 c]] w fun e w' => e = .returned (.bool (shapeOk a b c)) ∧ Kept [] w w' := by
  have k := (Kept.refl [] w).alloc (.cells #[.int .i64 a, .int .i64 b, .int .i64 c] 23)
  obtain ⟨z, hz⟩ : ∃ z, z = shapeOk a b c := ⟨_, rfl⟩
  rw [← hz]
  have HZ : Hid (z = shapeOk a b c) := hz
  clear hz
  by_cases c1 : 1 ≤ a
  · by_cases c2 : a ≤ 16
    · by_cases c3 : 1 ≤ b
      · by_cases c4 : b ≤ 8
        · by_cases c5 : (1024 : Int) ≤ c
          · by_cases c6 : c ≤ (65536 : Int)
            · go_enter Try.func33, Try.ntmps33
              go_wp2
              go_ret
              exact ⟨by rw [HZ.out]; simp [shapeOk]; omega, k⟩
            · go_enter Try.func33, Try.ntmps33
              go_wp2
              go_ret
              exact ⟨by rw [HZ.out]; simp [shapeOk]; omega, k⟩
          · go_enter Try.func33, Try.ntmps33
            go_wp2
            go_ret
            exact ⟨by rw [HZ.out]; simp [shapeOk]; omega, k⟩
        · go_enter Try.func33, Try.ntmps33
          go_wp2
          go_ret
          exact ⟨by rw [HZ.out]; simp [shapeOk]; omega, k⟩
      · go_enter Try.func33, Try.ntmps33
        go_wp2
        go_ret
        exact ⟨by rw [HZ.out]; simp [shapeOk]; omega, k⟩
    · go_enter Try.func33, Try.ntmps33
      go_wp2
      go_ret
      exact ⟨by rw [HZ.out]; simp [shapeOk]; omega, k⟩
  · go_enter Try.func33, Try.ntmps33
    go_wp2
    go_ret
    exact ⟨by rw [HZ.out]; simp [shapeOk]; omega, k⟩
end Go.Proofs.Ytmipmiaflompmab

/-
  OWN WORK. Memory of the disk: blocks of several cells, images of one's own.
-/
namespace Go.Proofs.Ytmipmiaflompmab
open Go.RowKit
set_option linter.unusedVariables false

/-- 'append(out, xs...)' of one-cell elements, at a step of a region that draws its order -/
theorem step_append_own2 {P : Program} {w : World} {ops : Array Oper} {o : Oper} {a : Act} {K : Act → World → Prop} {Q : Exit → Act → World → Prop} {E : Prop} (hgd : o.guard = none) (s x : Operand) (t : TypeId)
    (ho : o.op = .call { callee := .builtin .append, args := #[s, x], argTypes := #[t, t] }) (base : Nat) (e : TypeId) (hu : P.underlying t = some (.slice e)) (z : Value) (bytes : Nat)
    (hinf : (P.info? e).map (fun i => (i.zero, i.size, i.bytes)) = some (some z, 1, bytes)) (hzs : z.cells.size = 1)
    (v : Value) (n : Nat) (xs : List Value) (hs : a.eval s = v) (hown : w.ownsRow base e 1 v n xs) (ad : Addr) (m c : Nat) (news : List Value) (hx : a.eval x = .slice (some ad) m c) (hl : news.length = m)
    (hnews : ∀ j u, news[j]? = some u → w.cell? (ad.add j) = some u) (h1 : ∀ u ∈ news, u.oneCell' = true) (h63 : n + m ≤ maxLen) (hbytes : (n + m) * bytes ≤ 140737488355328) (hbase : base ≤ w.heap.size)
    (h : ∀ v' w', w'.ownsRow base e 1 v' (n + m) (xs ++ news) → w.grownBy w' v.ownBlock → (v'.ownBlock = v.ownBlock ∨ (v'.ownBlock = some w.heap.size ∧ w.grownBy w' none)) → K (a.put o.dst v') w') :
    if Region.wanted o (yielded ops a.tmps) = true then Oper.wp P o a w K Q else E := by
  have hw : Region.wanted o (yielded ops a.tmps) = true := by simp [Region.wanted, hgd]
  rw [if_pos hw]
  obtain ⟨i, hi, hz, hsz, hby⟩ := info_parts hinf
  obtain ⟨v', w', hr, k1, k2, k4⟩ := run_append_own2 (P := P) w base t o.type e i z bytes hu hi hz hsz hby hzs v n xs hown ad m c news hl hnews h1 h63 hbytes hbase
  unfold Oper.wp execOp
  simp only [ho, resolve, invoke, builtin, Sem.run_bind, Sem.run_pure, Result.andThen_ok, List.map_toArray, List.map_cons, List.map_nil, hs, hx, hr]
  exact h v' w' k1 k2 k4
/-- bytes that are kept, if there are any -/
theorem Bs.keptNe {w w' : World} {v : Value} {l : List UInt8} {S : List Nat} (h : Bs w v l) (k : Kept S w w') (hS : l ≠ [] → ∀ x, v.ownBlock = some x → x ∉ S) : Bs w' v l := by
  by_cases hl : l = []
  · subst hl
    obtain ⟨p, c, e, h1, h2, h3, -⟩ := h
    exact ⟨p, c, e, h1, h2, h3, fun a _ i x hx => by simp at hx⟩
  · exact h.keptOwn k (hS hl)
/-- block g holds just these cells -/
def Blk (w : World) (g : Nat) (t : TypeId) (cs : List Value) : Prop := w.heap[g]? = some (.cells cs.toArray t (0, 0))
theorem Blk.new (w : World) (t : TypeId) (cs : List Value) : Blk (w.alloc (.cells cs.toArray t)) w.heap.size t cs := heap_alloc_new w _
theorem Blk.lt {w : World} {g : Nat} {t : TypeId} {cs : List Value} (h : Blk w g t cs) : g < w.heap.size := (Array.getElem?_eq_some_iff.1 h).1
theorem Blk.cell {w : World} {g : Nat} {t : TypeId} {cs : List Value} (h : Blk w g t cs) {j : Nat} {v : Value} (hj : cs[j]? = some v) : w.cell? ⟨g, j, none⟩ = some v := by
  have h' : w.heap[g]? = some (.cells cs.toArray t (0, 0)) := h
  simp [World.cell?, h', hj]
theorem Blk.free {w : World} {g : Nat} {t : TypeId} {cs : List Value} (h : Blk w g t cs) (j : Nat) : w.frozen? ⟨g, j, none⟩ = false := by
  have h' : w.heap[g]? = some (.cells cs.toArray t (0, 0)) := h
  simp [World.frozen?, h']
theorem Blk.kept {w w' : World} {g : Nat} {t : TypeId} {cs : List Value} {S : List Nat} (h : Blk w g t cs) (k : Kept S w w') (hS : g ∉ S) : Blk w' g t cs := (k.block g h.lt hS).trans h
theorem Blk.set {w : World} {g : Nat} {t : TypeId} {cs : List Value} (h : Blk w g t cs) (j : Nat) (v : Value) : Blk (w.setCell ⟨g, j, none⟩ v) g t (cs.set j v) ∧ Kept [g] w (w.setCell ⟨g, j, none⟩ v) := by
  have h' : w.heap[g]? = some (.cells cs.toArray t (0, 0)) := h
  refine ⟨?_, (Kept.refl [g] w).setCell (.inl (by simp)) v⟩
  simp [Blk, World.setCell, Array.getElem?_modify, h', List.setIfInBounds_toArray]
theorem Blk.not8 {w : World} {g : Nat} {t : TypeId} {cs : List Value} (h : Blk w g t cs) (ht : t ≠ 5) : Not8 w g := by
  intro cur m h2
  rw [show w.heap[g]? = _ from h] at h2
  simp at h2
  exact ht h2.2.1
/-- the values of an image: the slice of its pages, the pages, the pair, the log, the masters -/
structure IV where
  vp : Value
  pv : List Value
  pair : Value
  log : Value
  m0 : Value
  m1 : Value
def IV.agg (V : IV) : Value := .agg #[V.vp, V.pair, V.log, V.m0, V.m1]
def IV.rows (V : IV) : List Value := V.log :: V.pair :: (V.pv ++ [V.m0, V.m1])
def IM.all (m : IM) : List (List UInt8) := m.log :: m.pair :: (m.ps ++ [m.m0, m.m1])
/-- an image of one's own: each list in a block of its own -/
structure OwnIm (w : World) (base : Nat) (V : IV) (m : IM) : Prop where
  fam : Fam w base V.rows m.all
  row : w.ownsRow base 25 1 V.vp V.pv.length V.pv
  len : V.pv.length = m.ps.length
/-- an image that is read -/
structure SeeIm (w : World) (V : IV) (m : IM) : Prop where
  vp : ∃ p c, V.vp = .slice p V.pv.length c ∧ V.pv.length ≤ c ∧ c ≤ maxLen ∧ (∀ a, p = some a → ∀ (i : Nat) v, V.pv[i]? = some v → w.cell? (a.add i) = some v) ∧ (p = none → V.pv.length = 0)
  len : V.pv.length = m.ps.length
  ps : ∀ (i : Nat) v l, V.pv[i]? = some v → m.ps[i]? = some l → Bs w v l
  pair : Bs w V.pair m.pair
  log : Bs w V.log m.log
  m0 : Bs w V.m0 m.m0
  m1 : Bs w V.m1 m.m1
theorem SeeIm.kept {w w' : World} {V : IV} {m : IM} (h : SeeIm w V m) (k : Kept [] w w') : SeeIm w' V m := by
  obtain ⟨⟨p, c, h1, h2, h3, h4, h5⟩, h6, h7, h8, h9, h10, h11⟩ := h
  exact ⟨⟨p, c, h1, h2, h3, fun a ha i v hv => k.cell (h4 a ha i v hv) (by simp), h5⟩, h6, fun i v l hv hl => (h7 i v l hv hl).kept k, h8.kept k, h9.kept k, h10.kept k, h11.kept k⟩
/-- two rows, each of its own -/
theorem fam2 {w : World} {base n1 n2 : Nat} {u v : Value} {a b : List UInt8} (h1 : w.ownsRow base 5 1 u n1 (u8s a)) (h2 : w.ownsRow base 5 1 v n2 (u8s b)) (h : ∀ x, u.ownBlock = some x → v.ownBlock ≠ some x) : Fam w base [u, v] [a, b] := by
  have e1 : n1 = a.length := by have := h1.1; rw [u8s_length] at this; omega
  have e2 : n2 = b.length := by have := h2.1; rw [u8s_length] at this; omega
  subst e1; subst e2
  refine ⟨rfl, fun i v l hv hl => ?_, fun i j u' v' x hij hu hv hx => ?_⟩
  · rcases i with _ | _ | i
    · simp at hv hl; subst hv; subst hl; exact h1
    · simp at hv hl; subst hv; subst hl; exact h2
    · simp at hv
  · rcases j with _ | _ | j
    · omega
    · have : i = 0 := by omega
      subst this
      simp at hu hv
      subst hu; subst hv
      exact h x hx
    · simp at hv
end Go.Proofs.Ytmipmiaflompmab

/-
  OWN WORK. The document's disk: Images.
-/
namespace Go.Proofs.Ytmipmiaflompmab
open Go.RowKit
set_option linter.unusedVariables false

theorem Bs.shape {w : World} {v : Value} {l : List UInt8} (h : Bs w v l) : ∃ p c, v = .slice p l.length c ∧ l.length ≤ c ∧ c ≤ maxLen := by
  obtain ⟨p, c, h1, h2, h3, -⟩ := h
  exact ⟨p, c, h1, h2, h3⟩
/-- the cells of a block of five -/
theorem Blk.five {w : World} {g : Nat} {t : TypeId} {a b c d e : Value} (h : Blk w g t [a, b, c, d, e]) :
    (w.cell? ⟨g, 0, none⟩ = some a ∧ w.cell? ⟨g, 1, none⟩ = some b ∧ w.cell? ⟨g, 2, none⟩ = some c ∧ w.cell? ⟨g, 3, none⟩ = some d ∧ w.cell? ⟨g, 4, none⟩ = some e) ∧
    w.frozen? ⟨g, 0, none⟩ = false ∧ w.frozen? ⟨g, 1, none⟩ = false ∧ w.frozen? ⟨g, 2, none⟩ = false ∧ w.frozen? ⟨g, 3, none⟩ = false ∧ w.frozen? ⟨g, 4, none⟩ = false :=
  ⟨⟨h.cell rfl, h.cell rfl, h.cell rfl, h.cell rfl, h.cell rfl⟩, h.free 0, h.free 1, h.free 2, h.free 3, h.free 4⟩
def nil5 : List Value := [.slice none 0 0, .slice none 0 0, .slice none 0 0, .slice none 0 0, .slice none 0 0]
theorem nil5_kept {w0 w1 : World} {t : TypeId} (k : Kept [] (w0.alloc (.cells #[.slice none 0 0, .slice none 0 0, .slice none 0 0, .slice none 0 0, .slice none 0 0] t)) w1) : Blk w1 w0.heap.size t [.slice none 0 0, .slice none 0 0, .slice none 0 0, .slice none 0 0, .slice none 0 0] :=
  (Blk.new w0 t nil5).kept k (by simp)
theorem nil5_kept_d {w0 w1 : World} {t : TypeId} (k : Kept [] (w0.alloc (.cells #[.slice none 0 0, .slice none 0 0, .slice none 0 0, .slice none 0 0, .slice none 0 0] t)).drew w1) : Blk w1 w0.heap.size t [.slice none 0 0, .slice none 0 0, .slice none 0 0, .slice none 0 0, .slice none 0 0] :=
  nil5_kept ⟨k.os, k.tape, k.output, k.size, k.block⟩
theorem nil5_kept_e {w0 w1 : World} {t : TypeId} (k : Kept [] (w0.drew.alloc (.cells #[.slice none 0 0, .slice none 0 0, .slice none 0 0, .slice none 0 0, .slice none 0 0] t)) w1) : Blk w1 w0.heap.size t [.slice none 0 0, .slice none 0 0, .slice none 0 0, .slice none 0 0, .slice none 0 0] :=
  nil5_kept (w0 := w0.drew) k
theorem copied_from {w2 : World} (u : Value) (l : List UInt8) (h : Bs w2 u l) (hl : l.length ≤ 140737488355328) (w0 : World) (k : Kept [] w2 w0) :
    Calls Try.prog 42 #[u] w0 fun e w' => ∃ p c, e = .returned (.slice p l.length c) ∧ w'.ownsRow w0.heap.size 5 1 (.slice p l.length c) l.length (u8s l) ∧ Kept [] w2 w' ∧ Kept [] w0 w' :=
  (copied_any u l w0 (h.kept k) hl).mono (by
    rintro e w' ⟨v, rfl, o, k'⟩
    obtain ⟨p, c, rfl⟩ := own_shape2 o
    exact ⟨p, c, rfl, o, k.then k', k'⟩)
theorem Blk.set5 {w : World} {g : Nat} {t : TypeId} {a b c d e a' b' c' d' e' : Value} (h : Blk w g t [a, b, c, d, e]) :
    Blk (((((w.setCell ⟨g, 0, none⟩ a').setCell ⟨g, 1, none⟩ b').setCell ⟨g, 2, none⟩ c').setCell ⟨g, 3, none⟩ d').setCell ⟨g, 4, none⟩ e') g t [a', b', c', d', e'] ∧
    Kept [g] w (((((w.setCell ⟨g, 0, none⟩ a').setCell ⟨g, 1, none⟩ b').setCell ⟨g, 2, none⟩ c').setCell ⟨g, 3, none⟩ d').setCell ⟨g, 4, none⟩ e') := by
  have h0 := h.set 0 a'
  have h1 := h0.1.set 1 b'
  have h2 := h1.1.set 2 c'
  have h3 := h2.1.set 3 d'
  have h4 := h3.1.set 4 e'
  exact ⟨h4.1, (((h0.2.trans h1.2 (by simp)).trans h2.2 (by simp)).trans h3.2 (by simp)).trans h4.2 (by simp)⟩
/-- rows of one's own stay so where another block is written -/
theorem own_put {w w' : World} {base base' e g n : Nat} {v : Value} {xs : List Value} (o : w.ownsRow base e 1 v n xs) (hb : base' ≤ base) (k : Kept [g] w w') (hg : g < base ∨ w.heap.size ≤ g) : w'.ownsRow base' e 1 v n xs :=
  own_mono (own_of_kept o k fun x hx hm => by
    have h1 := own_ge o x hx
    have h2 := own_lt o x hx
    simp at hm
    omega) hb
theorem Blk.far {w : World} {g base e n : Nat} {t : TypeId} {cs : List Value} {v : Value} {xs : List Value} (h : Blk w g t cs) (o : w.ownsRow base e 1 v n xs) (ht : t ≠ e) (x : Nat) (hx : v.ownBlock = some x) : x ≠ g := by
  intro e'
  subst e'
  rcases o.2 with ⟨rfl, _⟩ | ⟨g', cap, cur, rfl, h2, h3, h4⟩
  · simp [Value.ownBlock] at hx
  · simp [Value.ownBlock] at hx
    subst hx
    rw [show w.heap[g']? = _ from h] at h3
    simp at h3
    first | exact ht h3.2.1 | exact ht h3.2
/-- what the loop of Images has made: k pages of the new image -/
structure ImSt (w0 wr : World) (B : Nat) (uP uL : Value) (m : IM) (k : Nat) (vq : Value) (qs : List Value) : Prop where
  blk : Blk wr B 28 [vq, uP, uL, .slice none 0 0, .slice none 0 0]
  fam : Fam wr w0.heap.size (uL :: uP :: qs) (m.log :: m.pair :: m.ps.take k)
  row : wr.ownsRow w0.heap.size 25 1 vq k qs
  kept : Kept [] w0 wr
theorem ImSt.next {w0 wr w3 w5 : World} {B : Nat} {uP uL : Value} {m : IM} {k : Nat} {vq : Value} {qs : List Value} {l : List UInt8} {p3 p5 : Option Addr} {c3 c5 : Nat} (st : ImSt w0 wr B uP uL m k vq qs) (hB : w0.heap.size ≤ B) (hl : m.ps[k]? = some l)
    (o3 : w3.ownsRow wr.heap.size 5 1 (.slice p3 l.length c3) l.length (u8s l)) (kA : Kept [] wr w3) (o5 : w5.ownsRow w0.heap.size 25 1 (.slice p5 (k + 1) c5) (k + 1) (qs ++ [.slice p3 l.length c3]))
    (g5 : (w3.alloc (.cells #[.slice p3 l.length c3] 25)).grownBy w5 vq.ownBlock) :
    ImSt w0 (w5.setCell ⟨B, 0, none⟩ (.slice p5 (k + 1) c5)) B uP uL m (k + 1) (.slice p5 (k + 1) c5) (qs ++ [.slice p3 l.length c3]) := by
  have kB : Kept vq.ownBlock.toList w3 w5 := (((Kept.refl [] w3).alloc _).mono (by simp)).trans (Kept.ofGrown (S := vq.ownBlock.toList) g5 (by intro k e _; simp [e])) (by intro x hx; exact .inl hx)
  have kE : Kept vq.ownBlock.toList wr w5 := (kA.mono (by simp)).trans kB (by intro x hx; exact .inl hx)
  have nB : B ∉ vq.ownBlock.toList := fun hm => st.blk.far st.row (by decide) B (by simpa using hm) rfl
  have b5 := st.blk.kept kE nB
  obtain ⟨b6, k6⟩ := b5.set 0 (.slice p5 (k + 1) c5)
  have kF : Kept (B :: vq.ownBlock.toList) wr (w5.setCell ⟨B, 0, none⟩ (.slice p5 (k + 1) c5)) := (kE.mono (by intro x hx; simp [hx])).trans k6 (by simp)
  have kG : Kept (B :: vq.ownBlock.toList) w3 (w5.setCell ⟨B, 0, none⟩ (.slice p5 (k + 1) c5)) := (kB.mono (by intro x hx; simp [hx])).trans k6 (by simp)
  have hq : ∀ x ∈ vq.ownBlock.toList, w0.heap.size ≤ x ∧ x < wr.heap.size ∧ Not8 wr x := fun x hx => by
    have e : vq.ownBlock = some x := by simpa using hx
    exact ⟨own_ge st.row x e, own_lt st.row x e, own_not8 st.row (by decide) x e⟩
  have hbl := st.blk.lt
  refine ⟨b6, ?_, ?_, st.kept.trans kF fun x hx => ?_⟩
  · have o3' : (w5.setCell ⟨B, 0, none⟩ (.slice p5 (k + 1) c5)).ownsRow wr.heap.size 5 1 (.slice p3 l.length c3) l.length (u8s l) := own_of_kept o3 kG fun x hx hm => by
      have h1 := own_ge o3 x hx
      rcases List.mem_cons.1 hm with e | e
      · omega
      · have := (hq x e).2.1; omega
    have := st.fam.snoc st.kept.size kF (fun x hx => by
      rcases List.mem_cons.1 hx with e | e
      · subst e; exact .inl (st.blk.not8 (by decide))
      · exact .inl (hq x e).2.2) o3'
    have e : m.ps.take (k + 1) = m.ps.take k ++ [l] := by
      obtain ⟨hk, rfl⟩ := List.getElem?_eq_some_iff.1 hl
      exact (List.take_append_getElem hk).symm
    rw [e]
    exact this
  · exact own_of_kept o5 k6 fun x hx hm => b5.far o5 (by decide) x hx (by simpa using hm)
  · rcases List.mem_cons.1 hx with e | e
    · exact .inr (by omega)
    · exact .inr (hq x e).1
theorem Fam.mono {w : World} {b b' : Nat} {vs : List Value} {ls : List (List UInt8)} (h : Fam w b vs ls) (hb : b' ≤ b) : Fam w b' vs ls := ⟨h.len, fun i v l hv hl => own_mono (h.own i v l hv hl) hb, h.apart⟩
theorem imEnd {w0 wr w3 W3 w4 W4 WF : World} {B R base : Nat} {uP uL : Value} {m : IM} {vq : Value} {qs : List Value} {v3 v4 : Value} (hn : m.ps.length = qs.length) (st : ImSt w0 wr B uP uL m qs.length vq qs) (hb : base ≤ w0.heap.size) (hR : Not8 W3 R) (hR2 : R < w0.heap.size) (nB : Not8 W3 B)
    (o3 : w3.ownsRow wr.heap.size 5 1 v3 m.m0.length (u8s m.m0)) (k3 : Kept [] wr w3) (k6 : Kept [B] w3 W3) (o4 : w4.ownsRow W3.heap.size 5 1 v4 m.m1.length (u8s m.m1)) (k4 : Kept [] W3 w4) (k8 : Kept [B] w4 W4) (kR : Kept [R] W4 WF) :
    OwnIm WF base ⟨vq, qs, uP, uL, v3, v4⟩ m := by
  have hB := st.blk.lt
  have s1 := k3.size
  have s2 := k6.size
  have s3 := k4.size
  have s4 := k8.size
  have s0 := st.kept.size
  have kA : Kept [B] wr W3 := (k3.mono (by simp)).trans k6 (by simp)
  have o3' : W3.ownsRow wr.heap.size 5 1 v3 m.m0.length (u8s m.m0) := own_of_kept o3 k6 fun x hx hm => by have := own_ge o3 x hx; simp at hm; omega
  have f1 := st.fam.snoc st.kept.size kA (fun x hx => by simp at hx; subst hx; exact .inl (st.blk.not8 (by decide))) o3'
  have kB : Kept [B, R] W3 WF := ((k4.mono (by simp)).trans (k8.mono (T := [B, R]) (by simp)) (by intro x hx; exact .inl hx)).trans (kR.mono (T := [B, R]) (by simp)) (by intro x hx; exact .inl hx)
  have o4' : WF.ownsRow W3.heap.size 5 1 v4 m.m1.length (u8s m.m1) := own_of_kept o4 ((k8.mono (T := [B, R]) (by simp)).trans (kR.mono (T := [B, R]) (by simp)) (by intro x hx; exact .inl hx)) fun x hx hm => by have := own_ge o4 x hx; simp at hm; omega
  have f2 := f1.snoc (by omega) kB (fun x hx => by
    rcases List.mem_cons.1 hx with e | e
    · subst e; exact .inl nB
    · simp at e; subst e; exact .inl hR) o4'
  have hm : m.ps.take qs.length = m.ps := List.take_of_length_le (by omega)
  rw [hm] at f2
  have kAll : Kept [B, R] wr WF := (kA.mono (by simp)).trans kB (by intro x hx; exact .inl hx)
  refine ⟨by simpa [IV.rows, IM.all] using f2.mono hb, own_mono (own_of_kept st.row kAll fun x hx hm => ?_) hb, hn.symm⟩
  have h1 := st.blk.far st.row (by decide) x hx
  have h2 := own_ge st.row x hx
  simp at hm
  omega
set_option maxHeartbeats 3200000 in
theorem images_any (V : IV) (m : IM) (w : World) (h : SeeIm w V m) (hn : m.ps.length ≤ 16) (hl : ∀ l ∈ m.all, l.length ≤ 65536) :
    Calls Try.prog 35 #[V.agg] w fun e w' => ∃ V', e = .returned V'.agg ∧ OwnIm w' w.heap.size V' m ∧ Kept [] w w' := by
  obtain ⟨vp, pv, pair, log, m0, m1⟩ := V
  obtain ⟨⟨p, c, e1, hc1, hc2, hcell, hnil⟩, hlen, hps, hpair, hlog, hm0, hm1⟩ := id h
  simp only at e1 hlen hps hpair hlog hm0 hm1 hcell hnil hc1
  have HLEN : Hid (pv.length = m.ps.length) := hlen
  clear hlen
  subst e1
  obtain ⟨pp, pc, rfl, -, -⟩ := hpair.shape
  obtain ⟨lp, lc, rfl, -, -⟩ := hlog.shape
  obtain ⟨ap, ac, rfl, -, -⟩ := hm0.shape
  obtain ⟨bp, bc, rfl, -, -⟩ := hm1.shape
  have lpair : m.pair.length ≤ 140737488355328 := by have := hl m.pair (by simp [IM.all]); omega
  have llog : m.log.length ≤ 140737488355328 := by have := hl m.log (by simp [IM.all]); omega
  have lm0 : m.m0.length ≤ 140737488355328 := by have := hl m.m0 (by simp [IM.all]); omega
  have lm1 : m.m1.length ≤ 140737488355328 := by have := hl m.m1 (by simp [IM.all]); omega
  have lps : ∀ (i : Nat) l, m.ps[i]? = some l → l.length ≤ 140737488355328 := fun i l hi => by have := hl l (by simp [IM.all, List.mem_of_getElem? hi]); omega
  have HL : Hid (∀ (i : Nat) l, m.ps[i]? = some l → l.length ≤ 140737488355328) := lps
  have HP : Hid (m.pair.length ≤ 140737488355328) := lpair
  have HG : Hid (m.log.length ≤ 140737488355328) := llog
  have HA : Hid (m.m0.length ≤ 140737488355328) := lm0
  have HB : Hid (m.m1.length ≤ 140737488355328) := lm1
  have HN : Hid (m.ps.length ≤ 16) := hn
  have HC : Hid (c ≤ maxLen) := hc2
  clear lpair llog lm0 lm1 lps hl hn hc2
  unfold IV.agg
  simp only
  obtain ⟨w2, hw2⟩ : ∃ w2, w2 = (w.alloc (.cells #[.slice p pv.length c, .slice pp m.pair.length pc, .slice lp m.log.length lc, .slice ap m.m0.length ac, .slice bp m.m1.length bc] 28)).alloc (.cells #[.slice none 0 0, .slice none 0 0, .slice none 0 0, .slice none 0 0, .slice none 0 0] 28) := ⟨_, rfl⟩
  have k2 : Kept [] w w2 := by rw [hw2]; exact ((Kept.refl [] w).alloc _).alloc _
  have b0 : Blk w2 w.heap.size 28 [.slice p pv.length c, .slice pp m.pair.length pc, .slice lp m.log.length lc, .slice ap m.m0.length ac, .slice bp m.m1.length bc] := by rw [hw2]; exact (Blk.new w _ _).kept ((Kept.refl [] _).alloc _) (by simp)
  have b1 : Blk w2 (w.heap.size + 1) 28 [.slice none 0 0, .slice none 0 0, .slice none 0 0, .slice none 0 0, .slice none 0 0] := by
    rw [hw2]
    have := Blk.new (w.alloc (.cells #[.slice p pv.length c, .slice pp m.pair.length pc, .slice lp m.log.length lc, .slice ap m.m0.length ac, .slice bp m.m1.length bc] 28)) 28 [.slice none 0 0, .slice none 0 0, .slice none 0 0, .slice none 0 0, .slice none 0 0]
    rwa [World.size_alloc] at this
  have s2 : w2.heap.size = w.heap.size + 1 + 1 := by rw [hw2]; simp
  have HW2 : Hid (w2 = (w.alloc (.cells #[.slice p pv.length c, .slice pp m.pair.length pc, .slice lp m.log.length lc, .slice ap m.m0.length ac, .slice bp m.m1.length bc] 28)).alloc (.cells #[.slice none 0 0, .slice none 0 0, .slice none 0 0, .slice none 0 0, .slice none 0 0] 28)) := hw2
  clear hw2
  go_enter Try.func35, Try.ntmps35
  go_upto_region 1 with fail
  rw [← HW2.out]
  have hp2 := hpair.kept k2
  have hg2 := hlog.kept k2
  obtain ⟨⟨-, q1, q2, -, -⟩, -⟩ := b0.five
  have hcp := copied_from _ _ hp2 HP.out
  have hcl := copied_from _ _ hg2 HG.out
  go_cut [3] (fun s wx => ∃ (B : Nat) (u v : Value), s = .pointer (some ⟨B, 0, none⟩) ∧ w2.heap.size ≤ B ∧ Blk wx B 28 [.slice none 0 0, u, v, .slice none 0 0, .slice none 0 0] ∧ wx.ownsRow w2.heap.size 5 1 u m.pair.length (u8s m.pair) ∧ wx.ownsRow w2.heap.size 5 1 v m.log.length (u8s m.log) ∧ (∀ x, v.ownBlock = some x → u.ownBlock ≠ some x) ∧ Kept [] w2 wx)
  case first =>
    clear hps hcell hnil h HL HA HB HN HC HW2 b1 hm0 hm1 hpair hlog s2 HLEN hc1 k2 b0 HP HG
    go_region_held3 (fun w' => w'.cell? ⟨w.heap.size, 1, none⟩ = some (.slice pp m.pair.length pc) ∧ w'.cell? ⟨w.heap.size, 2, none⟩ = some (.slice lp m.log.length lc)) (first | (with_reducible exact ⟨q1, q2⟩) | (with_reducible exact ⟨kA.cell q1 (by simp), kA.cell q2 (by simp)⟩) | (with_reducible exact ⟨kB.cell q1 (by simp), kB.cell q2 (by simp)⟩) | (with_reducible exact ⟨((Kept.refl [] w2).alloc _).cell q1 (by simp), ((Kept.refl [] w2).alloc _).cell q2 (by simp)⟩) | (with_reducible exact ⟨(((Kept.refl [] w2).drew).alloc _).cell q1 (by simp), (((Kept.refl [] w2).drew).alloc _).cell q2 (by simp)⟩) | (with_reducible exact ⟨(kA.alloc _).cell q1 (by simp), (kA.alloc _).cell q2 (by simp)⟩) | (with_reducible exact ⟨(kB.alloc _).cell q1 (by simp), (kB.alloc _).cell q2 (by simp)⟩) | (with_reducible exact ⟨(((((kB.setCell (.inr kA.size) _).setCell (.inr kA.size) _).setCell (.inr kA.size) _).setCell (.inr kA.size) _).setCell (.inr kA.size) _).cell q1 (by simp), (((((kB.setCell (.inr kA.size) _).setCell (.inr kA.size) _).setCell (.inr kA.size) _).setCell (.inr kA.size) _).setCell (.inr kA.size) _).cell q2 (by simp)⟩) | (with_reducible exact ⟨(((((kB.setCell (.inr (Nat.le_refl _)) _).setCell (.inr (Nat.le_refl _)) _).setCell (.inr (Nat.le_refl _)) _).setCell (.inr (Nat.le_refl _)) _).setCell (.inr (Nat.le_refl _)) _).cell q1 (by simp), (((((kB.setCell (.inr (Nat.le_refl _)) _).setCell (.inr (Nat.le_refl _)) _).setCell (.inr (Nat.le_refl _)) _).setCell (.inr (Nat.le_refl _)) _).setCell (.inr (Nat.le_refl _)) _).cell q2 (by simp)⟩) | go_keep)
      (first
        | (go_at_call 42; refine (hcp _ (by first | (with_reducible exact Kept.refl _ _) | (with_reducible exact (Kept.refl _ _).drew) | (with_reducible exact ((Kept.refl _ _).alloc _).drew) | (with_reducible exact ((Kept.refl _ _).drew).alloc _) | (with_reducible exact (Kept.refl _ _).alloc _) | (with_reducible exact kA) | (with_reducible exact kA.drew) | (with_reducible exact (kA.alloc _).drew) | (with_reducible exact kA.alloc _) | (with_reducible exact kA.drew.alloc _))).mono ?_; clear hcp; rintro e w3 ⟨p3, c3, rfl, o3, kA, k3⟩
           try (first | (with_reducible have bA := nil5_kept_d k3) | (with_reducible have bA := nil5_kept_e k3) | (with_reducible have bA := nil5_kept k3))
           try obtain ⟨⟨z0, z1, z2, z3, z4⟩, y0, y1, y2, y3, y4⟩ := bA.five)
        | (go_at_call 42; refine (hcl _ (by first | (with_reducible exact Kept.refl _ _) | (with_reducible exact (Kept.refl _ _).drew) | (with_reducible exact ((Kept.refl _ _).alloc _).drew) | (with_reducible exact ((Kept.refl _ _).drew).alloc _) | (with_reducible exact (Kept.refl _ _).alloc _) | (with_reducible exact kA) | (with_reducible exact kA.drew) | (with_reducible exact (kA.alloc _).drew) | (with_reducible exact kA.alloc _) | (with_reducible exact kA.drew.alloc _))).mono ?_; clear hcl; rintro e w4 ⟨p4, c4, rfl, o4, kB, k4⟩
           try (first | (with_reducible have bB := nil5_kept k4) | (with_reducible have bB := nil5_kept_d k4) | (with_reducible have bB := bA.kept k4 (by simp)))
           try obtain ⟨⟨x0, x1, x2, x3, x4⟩, t0, t1, t2, t3, t4⟩ := bB.five))
    · have kF := (Kept.refl [] w4).alloc (.cells #[.slice none 0 0, .slice p3 m.pair.length c3, .slice p4 m.log.length c4, .slice none 0 0, .slice none 0 0] 28)
      have oP := own_of_kept o3 (k4.then kF) (by simp)
      have oL := own_mono (own_of_kept o4 kF (by simp)) kA.size
      have ap : ∀ x, (Value.slice p4 m.log.length c4).ownBlock = some x → (Value.slice p3 m.pair.length c3).ownBlock ≠ some x := fun x hx hy => by have := own_ge o4 x hx; have := own_lt o3 x hy; omega
      have bF := Blk.new w4 28 [.slice none 0 0, .slice p3 m.pair.length c3, .slice p4 m.log.length c4, .slice none 0 0, .slice none 0 0]
      go_wp2_with fail
      go_meet
      exact ⟨_, _, _, rfl, kB.size, bF, oP, oL, ap, kB.then kF⟩
    · obtain ⟨bF, kF⟩ := bB.set5 (a' := .slice none 0 0) (b' := .slice p3 m.pair.length c3) (c' := .slice p4 m.log.length c4) (d' := .slice none 0 0) (e' := .slice none 0 0)
      have k34 : Kept [] w3 w4 := ((Kept.refl [] w3).alloc _).then k4
      rw [World.size_alloc] at o4
      have oP := own_of_kept (own_of_kept o3 k34 (by simp)) kF (fun x hx hm => by have := own_lt o3 x hx; simp at hm; omega)
      have oL := own_mono (own_of_kept o4 kF (fun x hx hm => by have := own_ge o4 x hx; simp at hm; omega)) (show w2.heap.size ≤ w3.heap.size + 1 by have := kA.size; omega)
      have ap : ∀ x, (Value.slice p4 m.log.length c4).ownBlock = some x → (Value.slice p3 m.pair.length c3).ownBlock ≠ some x := fun x hx hy => by have := own_ge o4 x hx; have := own_lt o3 x hy; omega
      clear x0 x1 x2 x3 x4 t0 t1 t2 t3 t4
      go_wp2_with fail
      go_meet
      exact ⟨_, _, _, rfl, kA.size, bF, oP, oL, ap, kB.trans kF (by simp; exact kA.size)⟩
    · obtain ⟨bF, kF⟩ := bB.set5 (a' := .slice none 0 0) (b' := .slice p3 m.pair.length c3) (c' := .slice p4 m.log.length c4) (d' := .slice none 0 0) (e' := .slice none 0 0)
      have g3 : ∀ x, (Value.slice p3 m.pair.length c3).ownBlock = some x → w2.heap.size < x := fun x hx => by have := own_ge o3 x hx; simp at this; omega
      have oP := own_mono (own_of_kept (own_of_kept o3 k4 (by simp)) kF (fun x hx hm => by have := g3 x hx; simp at hm; omega)) (show w2.heap.size ≤ _ by simp)
      have oL := own_mono (own_of_kept o4 kF (fun x hx hm => by have := own_ge o4 x hx; have := k3.size; simp at hm; simp at this; omega)) kA.size
      have ap : ∀ x, (Value.slice p4 m.log.length c4).ownBlock = some x → (Value.slice p3 m.pair.length c3).ownBlock ≠ some x := fun x hx hy => by have := own_ge o4 x hx; have := own_lt o3 x hy; omega
      clear x0 x1 x2 x3 x4 t0 t1 t2 t3 t4 z0 z1 z2 z3 z4 y0 y1 y2 y3 y4
      go_wp2_with fail
      go_meet
      exact ⟨_, _, _, rfl, Nat.le_refl _, bF, oP, oL, ap, kB.trans kF (by simp)⟩
  case rest =>
    clear hcp hcl hp2 hg2 q1 q2
    obtain ⟨B, uP, uL, rfl, hB, bB, oP, oL, apPL, kC⟩ := hcut
    have st0 : ImSt w2 wc B uP uL m 0 (.slice none 0 0) [] := ⟨bB, fam2 oL oP apPL, World.ownsRow_nil _ _ _ _, kC⟩
    clear bB oP oL apPL HW2 h
    go_wp2
    go_loopw [4] (fun i wr => ∃ (k : Nat) (vq : Value) (qs : List Value), k ≤ pv.length ∧ i = .int .i64 k ∧ ImSt w2 wr B uP uL m k vq qs) (fun i _ => pv.length - (intOf i).toNat)
    case atStart => exact ⟨0, _, _, Nat.zero_le _, rfl, st0⟩
    case round =>
      clear st0 kC
      obtain ⟨k, vq, qs, hk, rfl, st⟩ := hrel
      have kr := st.kept
      obtain ⟨⟨a0, a1, a2, a3, a4⟩, -⟩ := (b0.kept kr (by simp)).five
      obtain ⟨⟨d0, d1, d2, d3, d4⟩, f0, f1, f2, f3, f4⟩ := st.blk.five
      have h63 : pv.length ≤ 9223372036854775807 := by have := HC.out; unfold maxLen at this; omega
      by_cases hlt : k < pv.length
      · obtain ⟨a, rfl⟩ : ∃ a, p = some a := by
          cases p with
          | none => have := hnil rfl; omega
          | some a => exact ⟨a, rfl⟩
        obtain ⟨v, hv⟩ : ∃ v, pv[k]? = some v := ⟨_, List.getElem?_eq_getElem hlt⟩
        obtain ⟨l, hl⟩ : ∃ l, m.ps[k]? = some l := ⟨_, List.getElem?_eq_getElem (by have := HLEN.out; omega)⟩
        have hbs := (hps k v l hv hl).kept (k2.then kr)
        have hcv := (k2.then kr).cell (hcell a rfl k v hv) (by simp)
        obtain ⟨pq, cq, rfl⟩ : ∃ pq cq, v = .slice pq l.length cq := by obtain ⟨pq, cq, e, -⟩ := hbs.shape; exact ⟨pq, cq, e⟩
        have hcc := copied_from _ _ hbs (HL.out k l hl)
        have hsz : w2.heap.size ≤ wr.heap.size := kr.size
        have ofar := fun x hx => st.blk.far st.row (by decide) x hx
        have ofar0 := fun x hx => (b0.kept kr (by simp)).far st.row (by decide) x hx
        have HK : Hid (k + 1 ≤ 17) := by have := HLEN.out; have := HN.out; exact (show k + 1 ≤ 17 by omega)
        go_wp2
        have nB : B ∉ vq.ownBlock.toList := fun hm => ofar B (by simpa using hm) rfl
        have n0 : w.heap.size ∉ vq.ownBlock.toList := fun hm => ofar0 _ (by simpa using hm) rfl
        have na : (a.add k).block ∉ vq.ownBlock.toList := fun hm => by
          have h1 := own_ge st.row _ (show vq.ownBlock = some (a.add k).block by simpa using hm)
          have h2 := lt_of_cell (hcell a rfl k _ hv)
          have h3 := k2.size
          omega
        go_region_law
          (first
            | (go_simp; go_at_call 42; refine (hcc _ (by first | (with_reducible exact Kept.refl _ _) | (with_reducible exact (Kept.refl _ _).drew))).mono ?_; rintro e w3 ⟨p3, c3, rfl, o3, kA, k3⟩; have d3 := kA.cell d0 (by simp); have d4 := (kA.alloc (.cells #[.slice p3 l.length c3] 25)).cell d0 (by simp); dsimp only)
            | (refine step_append_own2 (by rfl) (.tmp 20) (.tmp 27) 24 (by rfl) w2.heap.size 25 Try.underlying24 (.slice none 0 0) 24 (by kernel_rfl) rfl vq k qs (by rfl) (by exact (own_of_kept st.row kA (by simp)).alloc _) ⟨w3.heap.size, 0, none⟩ 1 1 [.slice p3 l.length c3] (by rfl) rfl (by intro j u hj; rcases j with _ | j; (simp at hj; subst hj; simp [go_sem, Addr.add]); simp at hj) (by simp [Value.oneCell']) (by have := HK.out; unfold maxLen; omega) (by have := HK.out; omega) (by have := kA.size; simp; omega) ?_; intro v5 w5 o5 g5 at5; obtain ⟨p5, c5, rfl⟩ := own_shape2 o5
               have kE : Kept vq.ownBlock.toList wr w5 := ((kA.alloc (.cells #[.slice p3 l.length c3] 25)).mono (by simp)).trans (Kept.ofGrown (S := vq.ownBlock.toList) g5 (by intro k e _; simp [e])) (by intro x hx; exact .inl hx)
               have b5 := st.blk.kept kE nB
               have e0 := b5.cell (j := 0) rfl
               have y0 := b5.free 0)
            | fail)
        all_goals
          have st' := st.next hB hl o3 kA o5 g5
          clear st d0 d1 d2 d3 d4 f0 f1 f2 f3 f4 e0 y0 b5 kE at5
          go_wp2
          go_roundw
          case rel => exact ⟨k + 1, _, _, by omega, by go_num, st'⟩
          case measure => simp [intOf]; omega
      · obtain rfl : k = pv.length := by omega
        have hk0 := k2.then kr
        have c0 := copied_from _ _ (hm0.kept hk0) HA.out _ (Kept.refl [] wr)
        have HST : Hid (ImSt w2 wr B uP uL m pv.length vq qs) := st
        have HB0 : Hid (Blk wr w.heap.size 28 [.slice p pv.length c, .slice pp m.pair.length pc, .slice lp m.log.length lc, .slice ap m.m0.length ac, .slice bp m.m1.length bc]) := b0.kept kr (by simp)
        have HB1 : Hid (Blk wr (w.heap.size + 1) 28 [.slice none 0 0, .slice none 0 0, .slice none 0 0, .slice none 0 0, .slice none 0 0]) := b1.kept kr (by simp)
        clear h63 st hps hcell hnil HL HN HC b0 b1 d0 d1 d2 d3 d4 f0 f1 f2 f3 f4 hc1 HP HG
        have S2 : Hid (w2.heap.size = w.heap.size + 1 + 1) := s2
        clear s2
        obtain ⟨pq, cq, rfl⟩ := own_shape2 HST.out.row
        have hql : qs.length = pv.length := by simpa using HST.out.row.1
        obtain ⟨pl, cl, rfl⟩ := own_shape2 (HST.out.fam.own 0 _ m.log rfl rfl)
        obtain ⟨pr, cr, rfl⟩ := own_shape2 (HST.out.fam.own 1 _ m.pair rfl rfl)
        have hB0 : w.heap.size ≠ B := by have := S2.out; omega
        have hB1 : w.heap.size + 1 ≠ B := by have := S2.out; omega
        go_wp2_with fail
        refine c0.mono ?_
        rintro e w3 ⟨p3, c3, rfl, o3, -, k3⟩
        obtain ⟨b6, k6⟩ := (HST.out.blk.kept k3 (by simp)).set 3 (.slice p3 m.m0.length c3)
        have t3 := (HST.out.blk.kept k3 (by simp)).cell (j := 3) rfl
        have z3 := (HST.out.blk.kept k3 (by simp)).free 3
        have q4 := ((HB0.out.kept k3 (by simp)).kept k6 (by simpa using hB0)).cell (j := 4) rfl
        have HR : Hid (Blk (w3.setCell ⟨B, 3, none⟩ (.slice p3 m.m0.length c3)) (w.heap.size + 1) 28 [.slice none 0 0, .slice none 0 0, .slice none 0 0, .slice none 0 0, .slice none 0 0]) := (HB1.out.kept k3 (by simp)).kept k6 (by simpa using hB1)
        have kw3 : Kept [] w (w3.setCell ⟨B, 3, none⟩ (.slice p3 m.m0.length c3)) := (hk0.then k3).trans k6 (by have := S2.out; simp; omega)
        clear c0 a0 a1 a2 a3 a4
        go_wp2_with fail
        have H6 : Hid (Blk (w3.setCell ⟨B, 3, none⟩ (.slice p3 m.m0.length c3)) B 28 [.slice pq pv.length cq, .slice pr m.pair.length cr, .slice pl m.log.length cl, .slice p3 m.m0.length c3, .slice none 0 0]) := b6
        clear b6 t3 z3 q4
        generalize w3.setCell ⟨B, 3, none⟩ (.slice p3 m.m0.length c3) = W3 at *
        refine (copied_from _ _ (hm1.kept kw3) HB.out _ (Kept.refl [] W3)).mono ?_
        rintro e w4 ⟨p4, c4, rfl, o4, -, k4⟩
        have b7 := H6.out.kept k4 (by simp)
        obtain ⟨b8, k8⟩ := b7.set 4 (.slice p4 m.m1.length c4)
        have t4 := b7.cell (j := 4) rfl
        have z4 := b7.free 4
        have bR := (HR.out.kept k4 (by simp)).kept k8 (by simpa using hB1)
        obtain ⟨⟨r0, r1, r2, r3, r4⟩, y0, y1, y2, y3, y4⟩ := bR.five
        obtain ⟨⟨s0, s1, s2, s3, s4⟩, -⟩ := Blk.five (show Blk _ B 28 [.slice pq pv.length cq, .slice pr m.pair.length cr, .slice pl m.log.length cl, .slice p3 m.m0.length c3, .slice p4 m.m1.length c4] from b8)
        obtain ⟨bF, kF⟩ := bR.set5 (a' := .slice pq pv.length cq) (b' := .slice pr m.pair.length cr) (c' := .slice pl m.log.length cl) (d' := .slice p3 m.m0.length c3) (e' := .slice p4 m.m1.length c4)
        obtain ⟨⟨x0, x1, x2, x3, x4⟩, -⟩ := bF.five
        have hst : ImSt w2 wr B (.slice pr m.pair.length cr) (.slice pl m.log.length cl) m qs.length (.slice pq pv.length cq) qs := by rw [hql]; exact HST.out
        have fin := imEnd (base := w.heap.size) (by have := HLEN.out; omega) hst (by have := S2.out; omega) (HR.out.not8 (by decide)) (by have := S2.out; omega) (H6.out.not8 (by decide)) o3 k3 k6 o4 k4 k8 kF
        have kfin : Kept [] w _ := ((kw3.then k4).trans k8 (by have := S2.out; simp; omega)).trans kF (by simp)
        have HF : Hid (OwnIm _ w.heap.size ⟨.slice pq pv.length cq, qs, .slice pr m.pair.length cr, .slice pl m.log.length cl, .slice p3 m.m0.length c3, .slice p4 m.m1.length c4⟩ m) := fin
        clear fin hst b7 b8 bR k8 kF bF
        go_wp2
        refine bodyPost_ret (by simp [results, Try.results35, go_sem, x0, x1, x2, x3, x4]; try rfl) rfl ?_
        exact ⟨_, rfl, HF.out, kfin⟩
end Go.Proofs.Ytmipmiaflompmab

/-
  OWN WORK. The program's order of places: the pages, the pair, the masters; how much of a write is kept.
-/
namespace Go.Proofs.Ytmipmiaflompmab
set_option linter.unusedVariables false

/-- the place j of the program's is the place qix of the plain disk -/
def qix (np j : Nat) : Nat := if j < np then j + 1 else if j = np then 0 else j
def pix (np k : Nat) : Nat := if k = 0 then np else if k ≤ np then k - 1 else k
theorem pix_lt {np k : Nat} (h : k < np + 3) : pix np k < np + 3 := by unfold pix; split; omega; split <;> omega
theorem qix_lt {np j : Nat} (h : j < np + 3) : qix np j < np + 3 := by unfold qix; split; omega; split <;> omega
theorem qix_pix {np k : Nat} (h : k < np + 3) : qix np (pix np k) = k := by
  unfold pix
  split
  · unfold qix; rw [if_neg (by omega), if_pos rfl]; omega
  · split
    · unfold qix; rw [if_pos (by omega)]; omega
    · unfold qix; rw [if_neg (by omega), if_neg (by omega)]
theorem pix_inj {np j k : Nat} (hj : j < np + 3) (h : qix np j = k) : pix np k = j := by
  unfold qix at h
  unfold pix
  split at h
  · rw [if_neg (by omega), if_pos (by omega)]; omega
  · split at h
    · rw [if_pos (by omega)]; omega
    · rw [if_neg (by omega), if_neg (by omega)]; omega
/-- a place is a master's just if its number is above the pair's -/
theorem pix_master {np k : Nat} (h : k < np + 3) : decide (np < pix np k) = isMaster np k := by
  unfold isMaster pix
  split
  · rename_i e; subst e; simp
  · split
    · rename_i a b; rw [decide_eq_false (by omega), decide_eq_false (by omega)]
    · rfl
def prows (np : Nat) (rows : List (List UInt8)) : List (List UInt8) := (List.range (np + 3)).map fun j => rows.getD (qix np j) []
theorem prows_length (np : Nat) (rows : List (List UInt8)) : (prows np rows).length = np + 3 := by simp [prows]
theorem prows_get {np j : Nat} (rows : List (List UInt8)) (h : j < np + 3) : (prows np rows)[j]? = some (rows.getD (qix np j) []) := by simp [prows, h]
theorem prows_at {np k : Nat} (rows : List (List UInt8)) (h : k < np + 3) : (prows np rows)[pix np k]? = some (rows.getD k []) := by rw [prows_get rows (pix_lt h), qix_pix h]
theorem prows_layR {np k n : Nat} {rows : List (List UInt8)} {b : List UInt8} (hl : rows.length = np + 3) (hk : k < np + 3) : prows np (layR rows k b n) = (prows np rows).set (pix np k) (over (rows.getD k []) 0 (b.take n)) := by
  apply List.ext_getElem?
  intro j
  by_cases hj : j < np + 3
  · rw [prows_get _ hj, List.getElem?_set]
    unfold layR
    by_cases e : pix np k = j
    · rw [if_pos e, if_pos (by rw [prows_length]; omega)]
      subst e
      rw [qix_pix hk, List.getD_eq_getElem?_getD, List.getElem?_set, if_pos rfl, if_pos (by omega)]
      rfl
    · rw [if_neg e, prows_get _ hj]
      rw [List.getD_eq_getElem?_getD, List.getElem?_set, if_neg (fun c => e (by have := pix_inj hj c.symm; exact this)), ← List.getD_eq_getElem?_getD]
  · rw [List.getElem?_eq_none (by rw [prows_length]; omega), List.getElem?_eq_none (by rw [List.length_set, prows_length]; omega)]
def sizeP (np ns j : Nat) : Nat := if j < np then pgB ns else if j = np then 16 + pgB ns else 40
theorem sizeP_qix (np ns j : Nat) : sizeK np ns (qix np j) = sizeP np ns j := by
  unfold sizeK qix sizeP
  split
  · rw [if_neg (by omega), if_pos (by omega)]
  · split
    · rw [if_pos rfl]
    · rw [if_neg (by omega), if_neg (by omega)]
theorem prows_size {np ns j : Nat} {rows : List (List UInt8)} {l : List UInt8} (hl : rows.length = np + 3) (hs : Sized np ns rows) (h : (prows np rows)[j]? = some l) : l.length = sizeP np ns j := by
  have hj : j < np + 3 := by have := (List.getElem?_eq_some_iff.1 h).1; rwa [prows_length] at this
  rw [prows_get _ hj] at h
  cases h
  rw [← sizeP_qix]
  have hq := qix_lt hj
  refine hs _ _ ?_
  rw [List.getD_eq_getElem?_getD, List.getElem?_eq_getElem (by omega)]
  rfl
theorem sizeP_pos (np ns j : Nat) : 0 < sizeP np ns j := by rw [← sizeP_qix]; exact sizeK_pos _ _ _
theorem sizeP_le (np ns j : Nat) (h : ns ≤ 8) : sizeP np ns j ≤ 168 := by rw [← sizeP_qix]; exact sizeK_le _ _ _ h
/-- an image, out of the program's order -/
theorem imOf_prows {np : Nat} {rows : List (List UInt8)} {log : List UInt8} (hl : rows.length = np + 3) : imOf np rows log = { ps := (prows np rows).take np, pair := (prows np rows).getD np [], log := log, m0 := (prows np rows).getD (np + 1) [], m1 := (prows np rows).getD (np + 2) [] } := by
  have g : ∀ j, j < np + 3 → (prows np rows).getD j [] = rows.getD (qix np j) [] := fun j hj => by rw [List.getD_eq_getElem?_getD, prows_get _ hj]; rfl
  unfold imOf
  rw [g np (by omega), g (np + 1) (by omega), g (np + 2) (by omega)]
  have e0 : qix np np = 0 := by unfold qix; simp
  have e1 : qix np (np + 1) = np + 1 := by unfold qix; rw [if_neg (by omega), if_neg (by omega)]
  have e2 : qix np (np + 2) = np + 2 := by unfold qix; rw [if_neg (by omega), if_neg (by omega)]
  rw [e0, e1, e2]
  congr 1
  apply List.ext_getElem?
  intro j
  rw [List.getElem?_take, List.getElem?_take, List.getElem?_drop]
  by_cases hj : j < np
  · rw [if_pos hj, if_pos hj, prows_get _ (by omega)]
    have : qix np j = 1 + j := by unfold qix; rw [if_pos hj]; omega
    rw [this, List.getD_eq_getElem?_getD, List.getElem?_eq_getElem (by omega)]
    rfl
  · rw [if_neg hj, if_neg hj]
theorem prows_parts {np : Nat} {ps : List (List UInt8)} {pair m0 m1 : List UInt8} (h : ps.length = np) : prows np (pair :: (ps ++ [m0, m1])) = ps ++ [pair, m0, m1] := by
  apply List.ext_getElem?
  intro j
  by_cases hj : j < np + 3
  · rw [prows_get _ hj, List.getD_eq_getElem?_getD]
    unfold qix
    by_cases c : j < np
    · rw [if_pos c, List.getElem?_cons_succ, List.getElem?_append_left (by omega), List.getElem?_append_left (by omega), List.getElem?_eq_getElem (by omega)]
      rfl
    · rw [if_neg c]
      rcases (by omega : j = np ∨ j = np + 1 ∨ j = np + 2) with e | e | e
      · rw [if_pos e, e, List.getElem?_append_right (by omega), h]; simp
      · rw [if_neg (by omega), e, List.getElem?_cons_succ, List.getElem?_append_right (by omega), List.getElem?_append_right (by omega), h]; simp
      · rw [if_neg (by omega), e, show np + 2 = (np + 1) + 1 by omega, List.getElem?_cons_succ, List.getElem?_append_right (by omega), List.getElem?_append_right (by omega), h, show np + 1 + 1 - np = 2 by omega]; simp
  · rw [List.getElem?_eq_none (by rw [prows_length]; omega), List.getElem?_eq_none (by simp; omega)]
/-- how many of a write's n bytes are kept -/
def keepN (k : Int) (n : Nat) : Nat := if k ≤ 0 then 0 else if k = 1 then n else restN (k - 1) (n + 1)
theorem keepN_le (k : Int) (n : Nat) : keepN k n ≤ n := by
  unfold keepN
  split
  · omega
  · split
    · omega
    · exact restN_lt _ _
theorem layR_none {rows : List (List UInt8)} {k : Nat} {b : List UInt8} : layR rows k b 0 = rows := by
  unfold layR
  rw [List.take_zero]
  unfold over
  simp
  apply List.ext_getElem?
  intro j
  rw [List.getElem?_set]
  by_cases e : k = j
  · subst e
    rw [if_pos rfl]
    split
    · rename_i h; rw [List.getElem?_eq_getElem h]; rfl
    · rename_i h; rw [List.getElem?_eq_none (by omega)]
  · rw [if_neg e]
theorem crashLay_keep (rows : List (List UInt8)) (x : Nat × List UInt8) (k : Int) : crashLay rows x k = layR rows x.1 x.2 (keepN k x.2.length) := by
  unfold crashLay keepN
  by_cases h1 : k = 1
  · subst h1
    rw [if_pos rfl, if_neg (by omega), if_pos rfl]
  · rw [if_neg h1]
    by_cases h2 : 2 ≤ k
    · rw [if_pos h2, if_neg (by omega), if_neg h1]
    · rw [if_neg h2, if_pos (by omega), layR_none]
/-- the places of a sync: those from the one number up to the other -/
theorem filter_snoc {α : Type} (p : α → Bool) (xs : List α) (i : Nat) (x : α) (h : xs[i]? = some x) : (xs.take (i + 1)).filter p = (xs.take i).filter p ++ if p x = true then [x] else [] := by
  obtain ⟨hi, he⟩ := List.getElem?_eq_some_iff.1 h
  rw [List.take_add_one, h, List.filter_append]
  cases hp : p x <;> simp [hp]
end Go.Proofs.Ytmipmiaflompmab

/-
  OWN WORK. The program's disk: its small functions.
-/
namespace Go.Proofs.Ytmipmiaflompmab
open Go.RowKit
set_option linter.unusedVariables false

theorem prest_any (n : Int) (m : Nat) (w : World) (hm : 0 < m) (hm2 : m ≤ 9223372036854775807) :
    Calls Try.prog 39 #[.int .i64 n, .int .i64 (m : Int)] w fun e w' => e = .returned (.int .i64 (restN n m : Int)) ∧ w' = w := by
  have h0 : ¬ (m : Int) = 0 := by omega
  have hp : (0 : Int) < (m : Int) := by omega
  have b1 := Int.tmod_lt_of_pos n hp
  have b2 := Int.lt_tmod_of_pos n hp
  have w1 : IntKind.i64.wrap (n.tmod (m : Int)) = n.tmod (m : Int) := wrap_i64_of (by omega) (by omega)
  rw [restN_int n m hm]
  by_cases c : n.tmod (m : Int) < 0
  · have w2 : IntKind.i64.wrap (n.tmod (m : Int) + (m : Int)) = n % (m : Int) := by rw [← tmod_neg hp c]; exact wrap_i64_of (by omega) (by omega)
    clear b1 b2 hm2
    go_enter Try.func39, Try.ntmps39
    go_wp2
    go_ret
    exact ⟨rfl, rfl⟩
  · have e := tmod_pos (n := n) hp (by omega)
    rw [← e]
    clear b1 b2 hm2 e
    go_enter Try.func39, Try.ntmps39
    go_wp2
    go_ret
    exact ⟨rfl, rfl⟩
theorem pkept_any (k : Int) (n : Nat) (w : World) (hn : n ≤ 1000) (hk : IntKind.i64.wrap k = k) :
    Calls Try.prog 86 #[.int .i64 k, .int .i64 (n : Int)] w fun e w' => e = .returned (.int .i64 (keepN k n : Int)) ∧ w' = w := by
  by_cases h1 : k ≤ 0
  · rw [show keepN k n = 0 by unfold keepN; rw [if_pos h1]]
    clear hk
    go_enter Try.func86, Try.ntmps86
    go_wp2
    go_ret
    exact ⟨rfl, rfl⟩
  · by_cases h2 : k = 1
    · subst h2
      rw [show keepN 1 n = n by unfold keepN; rw [if_neg (by omega), if_pos rfl]]
      clear hk hn h1
      go_enter Try.func86, Try.ntmps86
      go_wp2
      go_ret
      exact ⟨rfl, rfl⟩
    · rw [show keepN k n = restN (k - 1) (n + 1) by unfold keepN; rw [if_neg h1, if_neg h2]]
      have hr := wrap_i64_range hk
      have w1 : IntKind.i64.wrap (k - 1) = k - 1 := wrap_i64_of (by omega) (by omega)
      have w2 : IntKind.i64.wrap ((n : Int) + 1) = ((n + 1 : Nat) : Int) := by rw [wrap_i64_of (by omega) (by omega)]; omega
      have hc := prest_any (k - 1) (n + 1) w (by omega) (by omega)
      generalize restN (k - 1) (n + 1) = r at *
      clear hr hn hk
      go_enter Try.func86, Try.ntmps86
      go_wp2_with fail
      refine hc.mono ?_
      rintro e w2 ⟨rfl, rfl⟩
      clear hc
      go_wp2
      go_ret
      exact ⟨rfl, rfl⟩
theorem sameLen_any (u v : Value) (m n : Nat) (w : World) (hu : ∃ p c, u = .slice p m c) (hv : ∃ p c, v = .slice p n c) :
    Calls Try.prog 30 #[u, v] w fun e w' => e = .returned (.bool (decide (m = n))) ∧ w' = w := by
  obtain ⟨p, c, rfl⟩ := hu
  obtain ⟨q, d, rfl⟩ := hv
  by_cases h : m = n
  · subst h
    rw [decide_eq_true rfl]
    go_enter Try.func30, Try.ntmps30
    go_wp2
    go_ret
    exact ⟨by simp, rfl⟩
  · rw [decide_eq_false h]
    have h' : ¬ (m : Int) = (n : Int) := by omega
    go_enter Try.func30, Try.ntmps30
    go_wp2
    go_ret
    exact ⟨by simpa using h', rfl⟩
theorem within_any (n a b : Int) (w : World) :
    Calls Try.prog 61 #[.int .i64 n, .int .i64 a, .int .i64 b] w fun e w' => e = .returned (.bool (decide (a ≤ n) && decide (n ≤ b))) ∧ w' = w := by
  by_cases h1 : a ≤ n
  · by_cases h2 : n ≤ b
    · rw [decide_eq_true h1, decide_eq_true h2]
      go_enter Try.func61, Try.ntmps61
      go_wp2
      go_ret
      exact ⟨by simp, rfl⟩
    · rw [decide_eq_true h1, decide_eq_false h2]
      go_enter Try.func61, Try.ntmps61
      go_wp2
      go_ret
      exact ⟨by simp, rfl⟩
  · rw [decide_eq_false h1]
    go_enter Try.func61, Try.ntmps61
    go_wp2
    go_ret
    exact ⟨by simp, rfl⟩
theorem mayBe_any (a b c : Int) (w : World) :
    Calls Try.prog 26 #[.agg #[.int .i64 a, .int .i64 b, .int .i64 c]] w fun e w' => e = .returned (.bool (shapeOk a b c)) ∧ Kept [] w w' := by
  have k := (Kept.refl [] w).alloc (.cells #[.int .i64 a, .int .i64 b, .int .i64 c] 23)
  obtain ⟨x, hx⟩ : ∃ x, x = (decide (1 ≤ a) && decide (a ≤ 16)) := ⟨_, rfl⟩
  obtain ⟨y, hy⟩ : ∃ y, y = (decide (1 ≤ b) && decide (b ≤ 8)) := ⟨_, rfl⟩
  obtain ⟨z, hz⟩ : ∃ z, z = (decide (1024 ≤ c) && decide (c ≤ 65536)) := ⟨_, rfl⟩
  have hs : shapeOk a b c = (x && (y && z)) := by rw [hx, hy, hz]; unfold shapeOk; simp [Bool.and_assoc]
  rw [hs]
  have hc1 := within_any a 1 16 (w.alloc (.cells #[.int .i64 a, .int .i64 b, .int .i64 c] 23))
  have hc2 := within_any b 1 8 (w.alloc (.cells #[.int .i64 a, .int .i64 b, .int .i64 c] 23))
  have hc3 := within_any c 1024 65536 (w.alloc (.cells #[.int .i64 a, .int .i64 b, .int .i64 c] 23))
  rw [← hx] at hc1
  rw [← hy] at hc2
  rw [← hz] at hc3
  clear hx hy hz hs
  go_enter Try.func26, Try.ntmps26
  go_wp2_with fail
  refine hc1.mono ?_
  rintro e w1 ⟨rfl, rfl⟩
  cases x with
  | false =>
    clear hc1 hc2 hc3
    go_wp2
    go_ret
    exact ⟨by simp, k⟩
  | true =>
    go_wp2_with fail
    refine hc2.mono ?_
    rintro e w1 ⟨rfl, rfl⟩
    cases y with
    | false =>
      clear hc1 hc2 hc3
      go_wp2
      go_ret
      exact ⟨by simp, k⟩
    | true =>
      go_wp2_with fail
      refine hc3.mono ?_
      rintro e w1 ⟨rfl, rfl⟩
      clear hc1 hc2 hc3
      go_wp2
      go_ret
      exact ⟨by simp, k⟩
theorem pown_any (v : Value) (l : List UInt8) (w : World) (hv : Bs w v l) (hl : l.length ≤ 140737488355328) :
    Calls Try.prog 60 #[v] w fun e w' => ∃ u, e = .returned u ∧ w'.ownsRow w.heap.size 5 1 u l.length (u8s l) ∧ Kept [] w w' := by
  obtain ⟨p, c, rfl, h1, h2, h3, h4⟩ := id hv
  go_enter Try.func60, Try.ntmps60
  have hB : Bs (w.alloc (.cells #[] 5)) (.slice p l.length c) l := hv.kept ((Kept.refl [] w).alloc _)
  go_wp2_with (at_builtin; refine wpList_append_bs rfl _ _ 25 rfl w.heap.size 5 Try.underlying25 (by kernel_rfl) _ _ _ rfl (World.ownsRow_made w #[] 0 (Nat.le_refl _) (by decide) rfl) _ l rfl hB (by omega) (by simp) ?_; intro v' w1 hown hg hat)
  go_ret
  exact ⟨_, rfl, by simpa using hown, ((Kept.refl [] w).alloc _).grown hg fun k hk => .inr (own_ge (World.ownsRow_made (base := w.heap.size) (e := 5) (size := 1) w #[] 0 (Nat.le_refl _) (by decide) rfl) k hk)⟩
end Go.Proofs.Ytmipmiaflompmab

