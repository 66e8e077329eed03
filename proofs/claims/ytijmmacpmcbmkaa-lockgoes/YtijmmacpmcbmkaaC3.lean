import Derived.Maps.OwnSet
import Derived.Maps.RangeWalk
import Derived.Sort.OwnSortedInts
import Derived.Shelf.Sort.Plain
import Derived.Shelf.Slices.In.SortNone
import Derived.Test.YtijmmacpmcbmkaaRows
import Derived.Test.YtijmmacpmcbmkaaC2
/-
  OWN WORK. Locks (layer 15): a map from pages to births, in the words of the sixteen pages.
-/
namespace Go.Proofs.Ytijmmacpmcbmkaa
open Go.RowKit Go.Maps Go.ChangeMaps Go.MapKept Go.WideShapes
set_option linter.unusedVariables false

/-- what the map tells: the page's holder, if there is one -/
structure Tells (D : DataW Unit) (hs : List Int) : Prop where
  has : ∀ k : Int, I64 k → Maps.has D (.int .i64 k) = decide (whoL hs k ≠ 0)
  atk : ∀ k : Int, I64 k → D.atKey (.int .i64 k) (.lit (.int .i64 0)) = .lit (.int .i64 (whoL hs k))
theorem wf_of_i64 {k : Int} (h : I64 k) : (Lit.int .i64 k).wf = true := by
  obtain ⟨h1, h2⟩ := h
  simp [Lit.wf, IntKind.min, IntKind.max, IntKind.signed, IntKind.bits]
  omega
theorem i64_wf15 {z : Int} (h : (Lit.int .i64 z).wf = true) : I64 z := by
  have hb : -9223372036854775808 ≤ z ∧ z ≤ 9223372036854775807 := by simpa [Lit.wf, IntKind.min, IntKind.max, IntKind.signed, IntKind.bits] using h
  exact ⟨by omega, by omega⟩
theorem keyLit_int (k : Int) : WideAt.IsKeyLit (.int .i64 k) := trivial
theorem keyL : Keyed Try.prog 3 := int_keyed Try.underlying3
theorem tells_new : Tells (.map []) (List.replicate 16 0) := by
  have e : ∀ k : Int, whoL (List.replicate 16 0) k = 0 := fun k => by
    unfold whoL
    split
    · rw [List.getD_eq_getElem?_getD, List.getElem?_replicate]; split <;> rfl
    · rfl
  exact ⟨fun k _ => by rw [e]; rfl, fun k _ => by rw [e]; rfl⟩
theorem whoL_set {hs : List Int} (h : hs.length = 16) {p : Nat} (hp : p < 16) (b k : Int) : whoL (hs.set p b) k = if k = (p : Int) then b else whoL hs k := by
  by_cases c : isP k
  · obtain ⟨j, hj, rfl⟩ := isP_nat c
    rw [whoL_nat _ hj, whoL_nat _ hj]
    by_cases e : j = p
    · subst e
      rw [if_pos rfl, List.getD_eq_getElem?_getD, List.getElem?_set_self (by omega)]; rfl
    · rw [if_neg (by omega), List.getD_eq_getElem?_getD, List.getElem?_set_ne (by omega), ← List.getD_eq_getElem?_getD]
  · rw [whoL_out _ c, whoL_out _ c, if_neg (fun e => c (by rw [e]; exact isP_of hp))]
theorem Tells.put {D : DataW Unit} {hs : List Int} (h : Tells D hs) (hD : IsMap D) (hl : hs.length = 16) {p : Nat} (hp : p < 16) {b : Int} (hb : b ≠ 0) : Tells (D.put (.int .i64 (p : Int)) (.lit (.int .i64 b))) (hs.set p b) := by
  refine ⟨fun k hk => ?_, fun k hk => ?_⟩
  · rw [whoL_set hl hp]
    by_cases e : k = (p : Int)
    · rw [if_pos e, e, has_put_same hD (keyLit_int _)]; simp [hb]
    · rw [if_neg e, has_put_other (by simpa using e), h.has k hk]
  · rw [whoL_set hl hp]
    by_cases e : k = (p : Int)
    · rw [if_pos e, e, atKey_put_same hD (keyLit_int _)]
    · rw [if_neg e, atKey_put_other (by simpa using e), h.atk k hk]
theorem Tells.del {D : DataW Unit} {hs : List Int} (h : Tells D hs) (hl : hs.length = 16) {p : Int} (hp : I64 p) : Tells (D.del (.int .i64 p)) (giveH hs p) := by
  by_cases c : whoL hs p = 0
  · rw [(give_no hs c).2, del_of_not_has (by rw [h.has p hp, c]; rfl)]
    exact h
  · have cp : isP p := Decidable.byContradiction fun q => c (whoL_out hs q)
    obtain ⟨j, hj, rfl⟩ := isP_nat cp
    rw [whoL_nat hs hj] at c
    rw [(give_yes hs hj c).2]
    refine ⟨fun k hk => ?_, fun k hk => ?_⟩
    · rw [whoL_set hl hj]
      by_cases e : k = (j : Int)
      · rw [if_pos e, e, has_del_same]; rfl
      · rw [if_neg e, has_del_other (by simpa using e), h.has k hk]
    · rw [whoL_set hl hj]
      by_cases e : k = (j : Int)
      · rw [if_pos e, e, atKey_del_same]
      · rw [if_neg e, atKey_del_other (by simpa using e), h.atk k hk]
theorem filter_one_less {X : Type} (a : Lit) : ∀ l : List (Lit × X), l.Pairwise (fun p q => p.1 ≠ q.1) → l.length ≤ (l.filter fun p => !p.1.sameKey a).length + 1
  | [], _ => by simp
  | x :: l, h => by
    obtain ⟨h1, h2⟩ := List.pairwise_cons.1 h
    have ih := filter_one_less a l h2
    by_cases c : x.1.sameKey a = true
    · have : l.filter (fun p => !p.1.sameKey a) = l := List.filter_eq_self.2 fun p hp => by
        have e := sameKey_ne (a := p.1) (b := a) (fun e2 => by
          have ex : x.1 = a := Classical.byContradiction fun q => by rw [sameKey_ne q] at c; cases c
          exact h1 p hp (by rw [ex, e2]))
        simp [e]
      rw [List.filter_cons, if_neg (by simp [c]), this]
      simp
    · rw [List.filter_cons, if_pos (by simpa using c)]
      simp only [List.length_cons]
      omega
theorem few_keys {X : Type} : ∀ (m : Nat) (l : List (Lit × X)), l.Pairwise (fun p q => p.1 ≠ q.1) → (∀ p ∈ l, ∃ j : Nat, j < m ∧ p.1 = .int .i64 (j : Int)) → l.length ≤ m
  | 0, l, _, h => by
    cases l with
    | nil => simp
    | cons x l => obtain ⟨j, hj, _⟩ := h x (by simp); omega
  | m + 1, l, hp, h => by
    have h1 := filter_one_less (.int .i64 (m : Int)) l hp
    have h2 := few_keys m (l.filter fun p => !p.1.sameKey (.int .i64 (m : Int))) (hp.sublist List.filter_sublist) fun p hpm => by
      obtain ⟨q1, q2⟩ := List.mem_filter.1 hpm
      obtain ⟨j, hj, e⟩ := h p q1
      refine ⟨j, ?_, e⟩
      by_cases ej : j = m
      · rw [e, ej] at q2
        simp [Lit.sameKey] at q2
      · omega
    omega
/-- the map has sixteen entries at most -/
theorem own16 {w : World} {b n : Nat} {D : DataW Unit} {hs : List Int} (h : w.ownsMap Try.prog 3 (plainElem Try.prog 3) b n D) (ht : Tells D hs) : w.ownsMap Try.prog 3 (plainElem Try.prog 3) b 16 D := by
  have hti := h.tidy keyL
  obtain ⟨es, clock, hb, F, hn, hD⟩ := h
  refine ⟨es, clock, hb, F, ?_, hD⟩
  have hl : (es.toList.map (WideElems.rg Try.prog 3 (plainElem (H := Unit) Try.prog 3))).length = es.size := by simp
  rw [← hl]
  refine few_keys 16 _ (fit_apart keyL F) fun p hp => ?_
  obtain ⟨v, hv⟩ := fit_keys F p hp
  obtain ⟨x, -, ex, hwx⟩ := Maps.keyOf_int_inv Try.underlying3 hv
  have hhas : Maps.has D p.1 = true := by
    rw [hD, has_eq, List.any_eq_true]
    exact ⟨p, ((sorted_perm _).mem_iff).2 hp, by rw [ex]; simp [Lit.sameKey]⟩
  rw [ex, ht.has x (i64_wf15 hwx)] at hhas
  have hw : whoL hs x ≠ 0 := of_decide_eq_true hhas
  have cp : isP x := Decidable.byContradiction fun q => hw (whoL_out hs q)
  obtain ⟨j, hj, rfl⟩ := isP_nat cp
  exact ⟨j, hj, ex⟩
/-- a Locks that is a map from pages to births -/
def LkM (w : World) (g : Nat) (F : List Nat) (hs : List Int) : Prop :=
  ∃ b D, F = [g, b] ∧ Blk w g 49 [.map (some b)] ∧ w.ownsMap Try.prog 3 (plainElem Try.prog 3) b 16 D ∧ Tells D hs ∧ OkH hs
theorem ownsMap_kept {w w' : World} {S : List Nat} {b n : Nat} {D : DataW Unit} (h : w.ownsMap Try.prog 3 (plainElem Try.prog 3) b n D) (k : Kept S w w') (hS : b ∉ S) : w'.ownsMap Try.prog 3 (plainElem Try.prog 3) b n D := by
  have hlt := h.lt
  obtain ⟨es, clock, hb, r⟩ := h
  exact ⟨es, clock, (k.block b hlt hS).trans hb, r⟩
theorem LkM.kept {w w' : World} {g : Nat} {F : List Nat} {hs : List Int} {S : List Nat} (h : LkM w g F hs) (k : Kept S w w') (hS : ∀ x ∈ F, x ∉ S) : LkM w' g F hs := by
  obtain ⟨b, D, rfl, h1, h2, h3, h4⟩ := h
  exact ⟨b, D, rfl, h1.kept k (hS g (by simp)), ownsMap_kept h2 k (hS b (by simp)), h3, h4⟩
theorem LkM.lt {w : World} {g : Nat} {F : List Nat} {hs : List Int} (h : LkM w g F hs) : ∀ x ∈ F, x < w.heap.size := by
  obtain ⟨b, D, rfl, h1, h2, h3, h4⟩ := h
  intro x hx
  simp at hx
  rcases hx with rfl | rfl
  · exact h1.lt
  · exact h2.lt
theorem LkM.ne {w : World} {g b n : Nat} {D : DataW Unit} {v : Value} (h1 : Blk w g 49 [v]) (h2 : w.ownsMap Try.prog 3 (plainElem Try.prog 3) b n D) : g ≠ b := fun e => by
  obtain ⟨es, clock, hb, -⟩ := h2
  unfold Blk at h1
  rw [← e, h1] at hb
  cases hb
end Go.Proofs.Ytijmmacpmcbmkaa

/-
  OWN WORK. lock (a map): what Held has gathered; a list of numbers, sorted by the library.
-/
namespace Go.Proofs.Ytijmmacpmcbmkaa
open Go.RowKit Go.Maps Go.Sort
set_option linter.unusedVariables false
set_option linter.unusedSimpArgs false

theorem isP_of_who {hs : List Int} {k : Int} (h : whoL hs k ≠ 0) : isP k := Decidable.byContradiction fun q => h (whoL_out hs q)
theorem isP_i64 {k : Int} (h : isP k) : I64 k := by obtain ⟨h1, h2⟩ := h; exact ⟨by omega, by omega⟩
/-- out: those of b that have come; left: what is still to come -/
structure Coll (D : DataW Unit) (hs : List Int) (b : Int) (left : Lit → Bool) (out : List Int) : Prop where
  nodup : out.Nodup
  mem : ∀ x, x ∈ out ↔ whoL hs x ≠ 0 ∧ whoL hs x = b ∧ left (.int .i64 x) = false
  sub : ∀ k, left k = true → Maps.has D k = true
theorem Coll.start {D : DataW Unit} {hs : List Int} (b : Int) (h : Tells D hs) : Coll D hs b (Maps.has D) [] := by
  refine ⟨List.nodup_nil, fun x => ⟨fun q => absurd q (by simp), ?_⟩, fun k hk => hk⟩
  rintro ⟨h1, h2, h3⟩
  rw [h.has x (isP_i64 (isP_of_who h1)), decide_eq_true h1] at h3
  cases h3
theorem Coll.who {D : DataW Unit} {hs : List Int} {b : Int} {left : Lit → Bool} {out : List Int} (h : Coll D hs b left out) (ht : Tells D hs) {x c : Int} (hx : I64 x) (hl : left (.int .i64 x) = true) (hat : ∀ zd, D.atKey (.int .i64 x) zd = .lit (.int .i64 c)) : c = whoL hs x ∧ whoL hs x ≠ 0 := by
  have e1 := ht.atk x hx
  rw [hat] at e1
  have e2 := h.sub _ hl
  rw [ht.has x hx] at e2
  exact ⟨by simpa using e1, of_decide_eq_true e2⟩
theorem Coll.more {D : DataW Unit} {hs : List Int} {b : Int} {left : Lit → Bool} {out : List Int} (h : Coll D hs b left out) {x : Int} (h0 : whoL hs x ≠ 0) (hb : whoL hs x = b) (hl : left (.int .i64 x) = true) : Coll D hs b (fun z => left z && !z.sameKey (.int .i64 x)) (out ++ [x]) := by
  have hnot : x ∉ out := fun q => by rw [((h.mem x).1 q).2.2] at hl; cases hl
  refine ⟨List.nodup_append.2 ⟨h.nodup, by simp, fun a ha c hc => by simp at hc; rw [hc]; exact fun e => hnot (e ▸ ha)⟩, fun y => ?_, fun k hk => h.sub k (by revert hk; cases left k <;> simp)⟩
  rw [List.mem_append, h.mem y]
  by_cases e : y = x
  · subst e
    have hb0 : ¬ b = 0 := by rw [← hb]; exact h0
    simp [hb0, hb, Lit.sameKey]
  · have es : (Lit.int .i64 y).sameKey (.int .i64 x) = false := sameKey_ne (fun q => e (by simpa using q))
    simp [e, es]
theorem Coll.past {D : DataW Unit} {hs : List Int} {b : Int} {left : Lit → Bool} {out : List Int} (h : Coll D hs b left out) {x : Int} (hb : whoL hs x ≠ b) : Coll D hs b (fun z => left z && !z.sameKey (.int .i64 x)) out := by
  refine ⟨h.nodup, fun y => ?_, fun k hk => h.sub k (by revert hk; cases left k <;> simp)⟩
  rw [h.mem y]
  by_cases e : y = x
  · subst e
    simp [hb]
  · have es : (Lit.int .i64 y).sameKey (.int .i64 x) = false := sameKey_ne (fun q => e (by simpa using q))
    simp [es]
theorem Coll.few {D : DataW Unit} {hs : List Int} {b : Int} {left : Lit → Bool} {out : List Int} (h : Coll D hs b left out) : out.length ≤ 16 := by
  have q := few_keys 16 (out.map fun x => (Lit.int .i64 x, ())) (by
    rw [List.pairwise_map]
    exact h.nodup.imp fun hab e => hab (by simpa using e)) (fun p hp => by
    obtain ⟨x, hx, rfl⟩ := List.mem_map.1 hp
    obtain ⟨j, hj, rfl⟩ := isP_nat (isP_of_who ((h.mem x).1 hx).1)
    exact ⟨j, hj, rfl⟩)
  simpa using q
theorem heldN_lt (hs : List Int) (b : Int) : ∀ n, (heldN hs b n).Pairwise (· < ·)
  | 0 => by simp [heldN]
  | n + 1 => by
    have ih := heldN_lt hs b n
    unfold heldN
    split
    · refine List.pairwise_append.2 ⟨ih, by simp, fun x hx y hy => ?_⟩
      obtain ⟨k, hk, rfl, -⟩ := (heldN_mem hs b n x).1 hx
      simp at hy
      subst hy
      show (k : Int) < (n : Int)
      omega
    · exact ih
theorem Coll.done {D : DataW Unit} {hs : List Int} {b : Int} {left : Lit → Bool} {out : List Int} (h : Coll D hs b left out) (hl : ∀ kl, left kl = false) : out.mergeSort (fun x y => decide (x ≤ y)) = heldL hs b := by
  have hp : out.Perm (heldL hs b) := by
    refine (List.perm_ext_iff_of_nodup h.nodup ((heldN_lt hs b 16).imp fun q => by omega)).2 fun x => ?_
    rw [h.mem x, heldN_mem]
    constructor
    · rintro ⟨h1, h2, -⟩
      obtain ⟨j, hj, rfl⟩ := isP_nat (isP_of_who h1)
      exact ⟨j, hj, rfl, by rw [← h2]; exact h1, by rw [← h2, whoL_nat hs hj]⟩
    · rintro ⟨j, hj, rfl, h3, h4⟩
      rw [whoL_nat hs hj]
      exact ⟨by rw [h4]; exact h3, h4, hl _⟩
  refine ((List.mergeSort_perm out _).trans hp).eq_of_pairwise (le := fun x y : Int => x ≤ y) (fun a c _ _ h1 h2 => by omega) ?_ ((heldN_lt hs b 16).imp fun q => by omega)
  have q := List.pairwise_mergeSort (le := fun x y : Int => decide (x ≤ y)) (fun a b c h1 h2 => by simp at *; omega) (fun a b => by simp; omega) out
  exact q.imp fun h => by simpa using h
theorem Ns.holds {w : World} {base g n c : Nat} {l : List Int} (h : Ns w base (.slice (some ⟨g, 0, none⟩) n c) l) : Holds (Value.int .i64) w g 0 l.toArray := by
  intro j hj
  have hj' : j < l.length := by simpa using hj
  obtain ⟨g', e, -, h1, h2⟩ := h.at hj'
  cases e
  rw [Nat.zero_add]
  refine ⟨?_, h2⟩
  rw [h1, List.getD_eq_getElem?_getD, List.getElem?_eq_getElem hj']
  simp [hj']
theorem Ns.sorted {w : World} {base g n c : Nat} {l ts : List Int} (h : Ns w base (.slice (some ⟨g, 0, none⟩) n c) l) (hl : ts.length = l.length) (k : Nat) (os : Array Obj) : Ns (grow (putRow (Value.int .i64) (Sort.ahead w k) g 0 ts.toArray) os) base (.slice (some ⟨g, 0, none⟩) n c) ts ∧ Kept [g] w (grow (putRow (Value.int .i64) (Sort.ahead w k) g 0 ts.toArray) os) := by
  refine ⟨?_, (Kept.refl [g] w).grown (grownBy_sortedI ts.toArray) (fun j hj => .inl (by cases hj; simp))⟩
  have hH := h.holds
  obtain ⟨h1, h2, p, c', e, h3, h4, h5⟩ := h
  cases e
  rcases h5 with ⟨q, -⟩ | ⟨g', e, h6, h7, h8, h9⟩
  · cases q
  cases e
  have hz : g < (putRow (Value.int .i64) (Sort.ahead w k) g 0 ts.toArray).heap.size := by rw [size_putRow]; exact h7
  unfold Ns
  rw [hl]
  refine ⟨by rw [i64s_length]; omega, i64s_one ts, _, _, rfl, h3, h4, .inr ⟨g, rfl, h6, by rw [size_grow]; omega, fun j u hj => ?_, fun j hj => ⟨?_, ?_⟩⟩⟩
  · have hjl : j < ts.length := by
      have := (List.getElem?_eq_some_iff.1 hj).1
      rwa [i64s_length] at this
    rw [cell?_grow _ _ _ hz]
    have q := cell?_putRow (Value.int .i64) (Sort.ahead w k) g 0 l.toArray ts.toArray (holds_ahead _ _ _ _ _ _ hH) (by simpa using hl) j (by simpa using hjl)
    rw [Nat.zero_add] at q
    rw [q, ← hj, i64s_at hjl, List.getD_eq_getElem?_getD, List.getElem?_eq_getElem hjl]
    simp [hjl]
  · rw [cell?_grow _ _ _ hz]
    by_cases hjl : j < ts.length
    · have q := cell?_putRow (Value.int .i64) (Sort.ahead w k) g 0 l.toArray ts.toArray (holds_ahead _ _ _ _ _ _ hH) (by simpa using hl) j (by simpa using hjl)
      rw [Nat.zero_add] at q
      rw [q]; rfl
    · rw [cell?_putRow_other _ _ _ _ _ _ (.inr (.inr (by simp; omega)))]
      exact (h9 j hj).1
  · rw [frozen?_grow _ _ _ hz, frozen?_putRow]
    exact (h9 j hj).2
end Go.Proofs.Ytijmmacpmcbmkaa

/-
  OWN WORK. lock (a map): New, Take, Give, Holder.
-/
namespace Go.Proofs.Ytijmmacpmcbmkaa
open Go.RowKit Go.Maps
set_option linter.unusedVariables false
set_option linter.unusedSimpArgs false

theorem zeroI (w : World) : (zeroValue 3).run Try.prog w = .ok (.int .i64 0) w := by
  go_simp
  try rfl
theorem qNew (w : World) : Calls Try.prog 16 #[] w fun e w' => ∃ g F, e = .returned (.pointer (some ⟨g, 0, none⟩)) ∧ LkM w' g F (List.replicate 16 0) ∧ (∀ x ∈ F, w.heap.size ≤ x) ∧ Kept [] w w' := by
  obtain ⟨w1, hw1⟩ : ∃ wx, wx = w.alloc (.map #[] 0) := ⟨_, rfl⟩
  obtain ⟨w2, hw2⟩ : ∃ wx, wx = w1.alloc (.cells #[.map (some w.heap.size)] 49) := ⟨_, rfl⟩
  have z1 : w1.heap.size = w.heap.size + 1 := by rw [hw1, World.size_alloc]
  have k1 : Kept [] w w1 := by rw [hw1]; exact (Kept.refl [] w).alloc _
  have k2 : Kept [] w1 w2 := by rw [hw2]; exact (Kept.refl [] w1).alloc _
  have o1 : w1.ownsMap Try.prog 3 (plainElem (H := Unit) Try.prog 3) w.heap.size 0 (.map []) := by rw [hw1]; exact World.ownsMap_made w _ _ _
  have B2 : Blk w2 w1.heap.size 49 [.map (some w.heap.size)] := by rw [hw2]; exact Blk.new w1 _ _
  rw [z1] at B2
  have HL := @hideH _ (show LkM w2 (w.heap.size + 1) [w.heap.size + 1, w.heap.size] (List.replicate 16 0) from ⟨_, _, rfl, B2, ownsMap_kept (o1.mono (by omega)) k2 (by simp), tells_new, okH_new⟩)
  have HK := @hideH _ (k1.then k2)
  clear o1 B2 k1 k2
  have hmm : ∀ w : World, (Instr.makeMap 47 none).run Try.prog w = .ok (.map (some w.heap.size)) (w.alloc (.map #[] 0)) := fun w => rfl
  go_enter Try.func16, Try.ntmps16
  go_wp2
  rw [← hw1, ← hw2]
  go_ret
  exact ⟨w.heap.size + 1, [w.heap.size + 1, w.heap.size], by first | rfl | simp, HL.out, fun x hx => by simp at hx; omega, HK.out⟩
theorem qHolder {g : Nat} {F : List Nat} {hs : List Int} (p : Int) (w : World) (h : LkM w g F hs) (hp : I64 p) : Calls Try.prog 15 #[.pointer (some ⟨g, 0, none⟩), .int .i64 p] w fun e w' => e = .returned (.int .i64 (whoL hs p)) ∧ Kept [] w w' := by
  obtain ⟨b, D, rfl, hB, hO, hT, hK⟩ := h
  have c0 := hB.cell (j := 0) rfl
  have hlt := hB.lt
  have hkey := keyOf_int_mk (P := Try.prog) (k := 3) Try.underlying3 (wf_of_i64 hp)
  have HT := @hideH _ (hT.atk p hp)
  clear hT hK hB
  go_enter Try.func15, Try.ntmps15
  go_wp2_with (at_lookup; refine wpList_lookup_own_int w rfl _ _ 47 rfl 3 3 .i64 keyL Try.underlying47 Try.underlying3 (zeroI _) b 16 D rfl hO _ _ rfl hkey ?_; intro c hat hwc; have HAT := @hideH _ hat; clear hat hwc)
  go_ret
  exact ⟨by rw [HT.out] at HAT; have e := HAT.out; simp at e; rw [e]; rfl, Kept.refl _ _⟩
theorem qGive {g : Nat} {F : List Nat} {hs : List Int} (p : Int) (w : World) (h : LkM w g F hs) (hp : I64 p) : Calls Try.prog 14 #[.pointer (some ⟨g, 0, none⟩), .int .i64 p] w fun e w' => e = .returned (.bool (giveB hs p)) ∧ LkM w' g F (giveH hs p) ∧ Kept F w w' := by
  obtain ⟨b, D, rfl, hB, hO, hT, hK⟩ := h
  have c0 := hB.cell (j := 0) rfl
  have hlt := hB.lt
  have hne := LkM.ne hB hO
  have hkey := keyOf_int_mk (P := Try.prog) (k := 3) Try.underlying3 (wf_of_i64 hp)
  have HG := @hideH _ (And.intro (show Maps.has D (.int .i64 p) = giveB hs p from hT.has p hp) (And.intro (hT.del hK.len hp) (And.intro (hK.give p) (And.intro hB hne))))
  clear hT hK hB hne
  go_enter Try.func14, Try.ntmps14
  go_wp2_with (first
    | (at_lookup; refine wpList_lookup_own_ok_int w rfl _ _ 47 rfl 3 3 .i64 keyL Try.underlying47 Try.underlying3 (zeroI _) b 16 D rfl hO _ _ rfl hkey ?_; intro c hat hwc; clear hat hwc)
    | (at_delete; refine wpList_delete_own w rfl _ _ 47 3 rfl 3 keyL Try.underlying47 _ b 16 D rfl hO _ _ rfl hkey ?_; intro w1 hown1 hturn1; have H1 := @hideH _ (And.intro hown1 hturn1.grown); clear hown1 hturn1))
  have k1 : Kept [g, b] w w1 := (Kept.refl [g, b] w).grown H1.out.2 (fun k hk => .inl (by cases hk; simp))
  have k1b : Kept [b] w w1 := (Kept.refl [b] w).grown H1.out.2 (fun k hk => .inl (by cases hk; simp))
  try go_wp2
  go_ret
  exact ⟨by rw [← HG.out.1]; rfl, ⟨b, _, rfl, HG.out.2.2.2.1.kept k1b (by simpa using HG.out.2.2.2.2), own16 H1.out.1 HG.out.2.1, HG.out.2.1, HG.out.2.2.1⟩, k1⟩
end Go.Proofs.Ytijmmacpmcbmkaa

/-
  OWN WORK. slices.Sort at []int: where the shelf's numbers lie in this program.
-/
namespace Go.Proofs.Ytijmmacpmcbmkaa
open Go.Shelf
def lays189_ren : Go.Shelf.Ren := ⟨fun | 125 => 29 | 128 => 40 | 129 => 41 | 189 => 20 | 215 => 47 | 216 => 37 | 257 => 28 | 294 => 31 | 295 => 32 | 296 => 33 | 297 => 34 | 298 => 35 | 299 => 36 | 300 => 38 | 301 => 39 | 328 => 42 | 329 => 43 | 330 => 44 | 331 => 45 | 332 => 46 | 343 => 48 | n => n, fun | 0 => 0 | 3 => 3 | 4 => 4 | 5 => 5 | 9 => 9 | 28 => 26 | 46 => 57 | 51 => 67 | 53 => 69 | 131 => 51 | 182 => 59 | 183 => 60 | 218 => 70 | 222 => 74 | 228 => 76 | 229 => 77 | n => n, fun n => n⟩
theorem lays189 : Lays.n189 Try.prog lays189_ren := {
  mixed := by kernel_rfl,
  f125 := Try.func29.trans (congrArg some (by kernel_rfl)),
  f128 := Try.func40.trans (congrArg some (by kernel_rfl)),
  f129 := Try.func41.trans (congrArg some (by kernel_rfl)),
  f189 := Try.func20.trans (congrArg some (by kernel_rfl)),
  f215 := Try.func47.trans (congrArg some (by kernel_rfl)),
  f216 := Try.func37.trans (congrArg some (by kernel_rfl)),
  f257 := Try.func28.trans (congrArg some (by kernel_rfl)),
  f294 := Try.func31.trans (congrArg some (by kernel_rfl)),
  f295 := Try.func32.trans (congrArg some (by kernel_rfl)),
  f296 := Try.func33.trans (congrArg some (by kernel_rfl)),
  f297 := Try.func34.trans (congrArg some (by kernel_rfl)),
  f298 := Try.func35.trans (congrArg some (by kernel_rfl)),
  f299 := Try.func36.trans (congrArg some (by kernel_rfl)),
  f300 := Try.func38.trans (congrArg some (by kernel_rfl)),
  f301 := Try.func39.trans (congrArg some (by kernel_rfl)),
  f328 := Try.func42.trans (congrArg some (by kernel_rfl)),
  f329 := Try.func43.trans (congrArg some (by kernel_rfl)),
  f330 := Try.func44.trans (congrArg some (by kernel_rfl)),
  f331 := Try.func45.trans (congrArg some (by kernel_rfl)),
  f332 := Try.func46.trans (congrArg some (by kernel_rfl)),
  f343 := Try.func48.trans (congrArg some (by kernel_rfl)),
  t0 := Try.underlying0,
  a0 := Try.isAgg0,
  z0 := Try.sizeOf0,
  v0 := Try.zeroValue0,
  t3 := Try.underlying3,
  a3 := Try.isAgg3,
  z3 := Try.sizeOf3,
  v3 := Try.zeroValue3,
  t4 := Try.underlying4,
  a4 := Try.isAgg4,
  z4 := Try.sizeOf4,
  v4 := Try.zeroValue4,
  t5 := Try.underlying5,
  a5 := Try.isAgg5,
  z5 := Try.sizeOf5,
  v5 := Try.zeroValue5,
  t9 := Try.underlying9,
  a9 := Try.isAgg9,
  z9 := Try.sizeOf9,
  v9 := Try.zeroValue9,
  t28 := Try.underlying26,
  a28 := Try.isAgg26,
  z28 := Try.sizeOf26,
  v28 := Try.zeroValue26,
  t46 := Try.underlying57,
  a46 := Try.isAgg57,
  z46 := Try.sizeOf57,
  v46 := Try.zeroValue57,
  t51 := Try.underlying67,
  a51 := Try.isAgg67,
  z51 := Try.sizeOf67,
  v51 := Try.zeroValue67,
  t53 := Try.underlying69,
  a53 := Try.isAgg69,
  z53 := Try.sizeOf69,
  v53 := Try.zeroValue69,
  t131 := Try.underlying51,
  a131 := Try.isAgg51,
  z131 := Try.sizeOf51,
  v131 := Try.zeroValue51,
  t182 := Try.underlying59,
  a182 := Try.isAgg59,
  z182 := Try.sizeOf59,
  v182 := Try.zeroValue59,
  t183 := Try.underlying60,
  a183 := Try.isAgg60,
  z183 := Try.sizeOf60,
  v183 := Try.zeroValue60,
  t218 := Try.underlying70,
  a218 := Try.isAgg70,
  z218 := Try.sizeOf70,
  v218 := Try.zeroValue70,
  t222 := Try.underlying74,
  a222 := Try.isAgg74,
  z222 := Try.sizeOf74,
  v222 := Try.zeroValue74,
  t228 := Try.underlying76,
  a228 := Try.isAgg76,
  z228 := Try.sizeOf76,
  v228 := Try.zeroValue76,
  t229 := Try.underlying77,
  a229 := Try.isAgg77,
  z229 := Try.sizeOf77,
  v229 := Try.zeroValue77 }
#print axioms lays189
end Go.Proofs.Ytijmmacpmcbmkaa

/-
  OWN WORK. lock (a map): Held.
-/
namespace Go.Proofs.Ytijmmacpmcbmkaa
open Go.RowKit Go.Maps Go.Sort
set_option linter.unusedVariables false
set_option linter.unusedSimpArgs false

theorem ranges_kept {w w' : World} {S : List Nat} {b r n cnt : Nat} {D : DataW Unit} {left : Lit → Bool} (h : w.ranges Try.prog 3 (plainElem Try.prog 3) b r n D left cnt) (k : Kept S w w') (hb : b ∉ S) (hr : r ∉ S) : w'.ranges Try.prog 3 (plainElem Try.prog 3) b r n D left cnt := by
  have h1 := h.owns.lt
  have h2 := h.lt
  obtain ⟨es, clock, since, seen, c0, hbb, F, hs, hD, hrr, rest⟩ := h
  exact ⟨es, clock, since, seen, c0, (k.block b h1 hb).trans hbb, F, hs, hD, (k.block r h2 hr).trans hrr, rest⟩
/-- slices.Sort of a list of one's own -/
theorem qSort {base : Nat} {p : Option Addr} {n c : Nat} {l : List Int} (w : World) (h : Ns w base (.slice p n c) l) (hl : l.length ≤ 16) : Calls Try.prog 20 #[.slice p n c] w fun e w' => e = .returned (.tuple #[]) ∧ Ns w' base (.slice p n c) (l.mergeSort fun x y => decide (x ≤ y)) ∧ Kept (Value.slice p n c).ownBlock.toList w w' := by
  obtain ⟨p', c', e, h3, h4⟩ := Row.shape h
  cases e
  by_cases h0 : l.length = 0
  · obtain rfl : l = [] := List.eq_nil_of_length_eq_zero h0
    refine (Any.slices_Sort_int_none lays189 p c w).mono fun e w' ⟨he, hw⟩ => ?_
    subst hw
    exact ⟨he, by simpa using h, Kept.refl _ _⟩
  · obtain ⟨g, rfl, h6, h7, -⟩ := Row.pos h (by omega)
    refine (Any.slices_Sort_int lays189 g 0 c l w h.holds h7 (by omega)).mono fun e w' ⟨he, k, os, hw⟩ => ?_
    subst hw
    obtain ⟨q1, q2⟩ := h.sorted (ts := l.mergeSort fun x y => decide (x ≤ y)) (by simp) k os
    exact ⟨he, q1, q2⟩
set_option maxRecDepth 20000 in
set_option maxHeartbeats 1600000 in
theorem qHeld {g : Nat} {F : List Nat} {hs : List Int} (b : Int) (w : World) (h : LkM w g F hs) (hb : I64 b) : Calls Try.prog 9 #[.pointer (some ⟨g, 0, none⟩), .int .i64 b] w fun e w' => ∃ v, e = .returned v ∧ Ns w' w.heap.size v (heldL hs b) ∧ Kept [] w w' := by
  obtain ⟨bm, D, rfl, hB, hO, hT, hK⟩ := h
  obtain ⟨inf, hin1, hin2, hin3, hin4⟩ := info_parts3 (show (Try.prog.info? 3).map (fun i => (i.zero, i.size, i.bytes)) = some (some (.int .i64 0), 1, 8) by kernel_rfl)
  have HI := @hideH _ (And.intro hin1 (And.intro hin2 (And.intro hin3 hin4)))
  have c0 := hB.cell (j := 0) rfl
  have hlt := hB.lt
  have hbm := hO.lt
  have HT := @hideH _ hT
  clear hin1 hin2 hin3 hin4 hT hK hB
  go_enter Try.func9, Try.ntmps9
  go_wp2_with (at_range; refine wpList_range_own _ rfl _ 47 rfl 3 3 keyL Try.underlying47 _ bm 16 D rfl hO ?_; intro w0 hrg0 hg0 hs0)
  go_frame
  have k0 : Kept [] w w0 := (Kept.refl [] w).grown hg0 (fun k hk => by cases hk)
  go_loopw [5] (fun v wr => ∃ (left : Lit → Bool) (cnt : Nat) (out : List Int), (∃ p n c, v = .slice p n c) ∧ Hid (wr.ranges Try.prog 3 (plainElem Try.prog 3) bm w.heap.size 16 D left cnt ∧ Coll D hs b left out ∧ Ns wr (w.heap.size + 1) v out ∧ Kept [] w wr ∧ w.heap.size + 1 ≤ wr.heap.size)) (fun _ wr => wr.rangeLeft bm w.heap.size)
  case atStart => exact ⟨_, _, [], ⟨_, _, _, rfl⟩, hrg0, Coll.start b HT.out, Ns.nil _ _, k0, by omega⟩
  case round =>
    clear hrg0 hg0 hs0 k0
    obtain ⟨left, cnt, out, ⟨p, n, c, rfl⟩, hh⟩ := hrel
    have hrg := hh.out.1
    go_wp2_with (at_next; refine wpList_next_ranges_ii _ rfl _ rfl 3 3 .i64 .i64 keyL Try.underlying3 Try.underlying3 bm w.heap.size 16 _ _ _ rfl hrg ?_ ?_)
    · intro hc0 hl0
      have HL := @hideH _ hl0
      clear hc0 hl0 hrg
      have hq := @hideH _ (qSort wr hh.out.2.2.1 hh.out.2.1.few)
      go_wp2_with fail
      refine hq.out.mono ?_
      rintro e ws ⟨rfl, ns, ks⟩
      have HS := @hideH _ (And.intro ns ks)
      clear ns ks hq
      go_wp2_with fail
      go_ret
      refine ⟨_, rfl, ?_, hh.out.2.2.2.1.trans HS.out.2 (fun x hx => .inr (by have q := hh.out.2.2.1.lt (x := x) (by simpa using hx); omega))⟩
      have q := HS.out.1
      rw [hh.out.2.1.done HL.out] at q
      exact q.mono (by omega)
    · intro x y w1 cnt1 hwx hwy hlx hat hrg1 hlt1 hg1 hs1 hen
      have hix : I64 x := i64_wf15 hwx
      obtain ⟨ey, ex0⟩ := hh.out.2.1.who HT.out hix hlx hat
      have k1 : Kept [] w w1 := hh.out.2.2.2.1.grown hg1 (fun k hk => .inr (by cases hk; exact Nat.le_refl _))
      have k1b : Kept [w.heap.size] wr w1 := (Kept.refl _ wr).grown hg1 (fun k hk => .inl (by cases hk; simp))
      have hN := hh.out.2.2.1
      have n1 : Ns w1 (w.heap.size + 1) (.slice p n c) out := hN.kept k1b (fun x hx => by have q := hN.lt hx; simp; omega)
      obtain ⟨p', c', e', h3, h4⟩ := Row.shape n1
      cases e'
      have hsz : w.heap.size + 1 ≤ w1.heap.size := by have := hh.out.2.2.2.2; omega
      by_cases hyb : y = b
      · have hyb' : (y == b) = true := by simpa using hyb
        have hC := hh.out.2.1.more ex0 (by rw [← ey]; exact hyb) hlx
        have HN := @hideH _ hh.out.2.1.few
        have hsrc := src_i64 (P := Try.prog) w1 26 3 Try.underlying26 x
        have ka : Kept [] w1 (w1.alloc (.cells #[.int .i64 x] 3)) := (Kept.refl [] w1).alloc _
        have hrow : Row (w1.alloc (.cells #[.int .i64 x] 3)) (w.heap.size + 1) 1 (.slice p out.length c) out.length (i64s out) := n1.kept ka (by simp)
        have HA := @hideH _ (And.intro hC (And.intro k1 (And.intro n1 (And.intro ka (And.intro hrg1 (And.intro hlt1 hsz))))))
        clear hC k1 k1b hN n1 ka hrg1 hlt1 hsz hg1 hs1 ey ex0 hyb hat hlx hwx hwy h3 h4
        go_wp2_with (at_builtin; refine wpList_append_row2 rfl (.tmp 21) (.tmp 23) 26 rfl (w.heap.size + 1) 3 inf (.int .i64 0) 1 8 Try.underlying26 HI.out.1 HI.out.2.1 HI.out.2.2.1 HI.out.2.2.2 rfl _ _ _ (by rfl) hrow _ 1 [.int .i64 x] (by rfl) hsrc (by have := HN.out; omega) (by have := HN.out; unfold maxLen; omega) (by have := HN.out; omega) (by have := HA.out.2.2.2.2.2.2; rw [World.size_alloc]; omega) ?_; intro v' w' r' k' at'; obtain ⟨p', c', hv', -⟩ := Row.shape r'; subst hv'; have HX := @hideH _ (And.intro r' k'); clear r' k' at')
        have hown : ∀ z ∈ (Value.slice p out.length c).ownBlock.toList, w.heap.size + 1 ≤ z := fun z hz => (HA.out.2.2.1.lt (x := z) (by simpa using hz)).1
        have ks : Kept [] w w' := (HA.out.2.1.then HA.out.2.2.2.1).trans HX.out.2 fun z hz => .inr (by have := hown z hz; omega)
        have hrg2 : w'.ranges Try.prog 3 (plainElem Try.prog 3) bm w.heap.size 16 D (fun z => left z && !z.sameKey (.int .i64 x)) cnt1 := ranges_kept (HA.out.2.2.2.2.1.alloc _) HX.out.2 (fun q => by have := hown _ q; omega) (fun q => by have := hown _ q; omega)
        go_roundw
        case rel =>
          refine ⟨_, cnt1, out ++ [x], ⟨_, _, _, rfl⟩, hrg2, HA.out.1, ?_, ks, by have q1 := HX.out.2.size; rw [World.size_alloc] at q1; have q2 := HA.out.2.2.2.2.2.2; omega⟩
          have q := HX.out.1
          unfold Ns
          rw [List.length_append, show i64s (out ++ [x]) = i64s out ++ [.int .i64 x] by simp [i64s]]
          exact q
        case measure => rw [hrg2.left_eq, hrg.left_eq]; exact HA.out.2.2.2.2.2.1
      · have hyb' : (y == b) = false := by simpa using hyb
        have hC := hh.out.2.1.past (x := x) (by rw [← ey]; exact hyb)
        have HA := @hideH _ (And.intro hC (And.intro k1 (And.intro n1 (And.intro hrg1 (And.intro hlt1 hsz)))))
        clear hC k1 k1b hN n1 hrg1 hlt1 hsz hg1 hs1 ey ex0 hyb hat hlx hwx hwy h3 h4
        go_wp2
        go_roundw
        case rel => exact ⟨_, cnt1, out, ⟨_, _, _, rfl⟩, HA.out.2.2.2.1, HA.out.1, HA.out.2.2.1, HA.out.2.1, HA.out.2.2.2.2.2⟩
        case measure => rw [HA.out.2.2.2.1.left_eq, hrg.left_eq]; exact HA.out.2.2.2.2.1
end Go.Proofs.Ytijmmacpmcbmkaa

/-
  OWN WORK. lock (a map): Take.
-/
namespace Go.Proofs.Ytijmmacpmcbmkaa
open Go.RowKit Go.Maps
set_option linter.unusedVariables false
set_option linter.unusedSimpArgs false

theorem qIsPage (p : Int) (w : World) : Calls Try.prog 21 #[.int .i64 p] w fun e w' => e = .returned (.bool (decide (isP p))) ∧ w = w' := by
  by_cases c0 : p < 0
  · have e : decide (isP p) = false := decide_eq_false fun q => by have := q.1; omega
    rw [e]; clear e
    go_enter Try.func21, Try.ntmps21
    go_wp2
    go_ret
    exact ⟨by first | rfl | (simp; omega), rfl⟩
  by_cases c1 : (16 : Int) ≤ p
  · have e : decide (isP p) = false := decide_eq_false fun q => by have := q.2; omega
    rw [e]; clear e
    go_enter Try.func21, Try.ntmps21
    go_wp2
    go_ret
    exact ⟨by first | rfl | (simp; omega), rfl⟩
  have e : decide (isP p) = true := decide_eq_true ⟨by omega, by omega⟩
  rw [e]; clear e
  go_enter Try.func21, Try.ntmps21
  go_wp2
  go_ret
  exact ⟨by first | rfl | (simp; omega), rfl⟩
theorem qIsBirth (b : Int) (w : World) : Calls Try.prog 22 #[.int .i64 b] w fun e w' => e = .returned (.bool (decide (isBirth b))) ∧ w = w' := by
  by_cases c0 : b < 1
  · have e : decide (isBirth b) = false := decide_eq_false fun q => by have := q.1; omega
    rw [e]; clear e
    go_enter Try.func22, Try.ntmps22
    go_wp2
    go_ret
    exact ⟨by first | rfl | (simp; omega), rfl⟩
  by_cases c1 : (1152921504606846976 : Int) < b
  · have e : decide (isBirth b) = false := decide_eq_false fun q => by have := q.2; omega
    rw [e]; clear e
    go_enter Try.func22, Try.ntmps22
    go_wp2
    go_ret
    exact ⟨by first | rfl | (simp; omega), rfl⟩
  have e : decide (isBirth b) = true := decide_eq_true ⟨by omega, by omega⟩
  rw [e]; clear e
  go_enter Try.func22, Try.ntmps22
  go_wp2
  go_ret
  exact ⟨by first | rfl | (simp; omega), rfl⟩
theorem qTake {g : Nat} {F : List Nat} {hs : List Int} (p b : Int) (w : World) (h : LkM w g F hs) (hp : I64 p) (hb : I64 b) : Calls Try.prog 13 #[.pointer (some ⟨g, 0, none⟩), .int .i64 p, .int .i64 b] w fun e w' => e = .returned (.int .i64 (takeE hs p b)) ∧ LkM w' g F (takeH hs p b) ∧ Kept F w w' := by
  by_cases cp : isP p
  rotate_left
  · obtain ⟨e1, e2⟩ := take_place hs b cp
    rw [e1, e2]
    have HH := @hideH _ h
    have ep : decide (isP p) = false := decide_eq_false cp
    clear h cp e1 e2
    go_enter Try.func13, Try.ntmps13
    go_wp2_with (go_at_call 21; refine (qIsPage p _).mono ?_; rintro r wq ⟨rfl, rfl⟩; rw [ep])
    try go_wp2
    go_ret
    exact ⟨rfl, HH.out, Kept.refl _ _⟩
  have ep : decide (isP p) = true := decide_eq_true cp
  by_cases cb : isBirth b
  rotate_left
  · obtain ⟨e1, e2⟩ := take_range hs cp cb
    rw [e1, e2]
    have HH := @hideH _ h
    have eb : decide (isBirth b) = false := decide_eq_false cb
    clear h cp e1 e2 cb
    go_enter Try.func13, Try.ntmps13
    go_wp2_with (first
      | (go_at_call 21; refine (qIsPage p _).mono ?_; rintro r wq ⟨rfl, rfl⟩; rw [ep])
      | (go_at_call 22; refine (qIsBirth b _).mono ?_; rintro r wq ⟨rfl, rfl⟩; rw [eb]))
    try go_wp2
    go_ret
    exact ⟨rfl, HH.out, Kept.refl _ _⟩
  have eb : decide (isBirth b) = true := decide_eq_true cb
  obtain ⟨k, hk, epk⟩ := isP_nat cp
  obtain ⟨bm, D, rfl, hB, hO, hT, hK⟩ := h
  have c0c := hB.cell (j := 0) rfl
  have hlt := hB.lt
  have hne := LkM.ne hB hO
  have hkey := keyOf_int_mk (P := Try.prog) (k := 3) Try.underlying3 (wf_of_i64 hp)
  have hval := plainElem_int (H := Unit) (P := Try.prog) (e := 3) Try.underlying3 (wf_of_i64 hb)
  have hat0 := hT.atk p hp
  have hhas0 := hT.has p hp
  obtain ⟨x, hx⟩ : ∃ x, x = whoL hs p := ⟨_, rfl⟩
  rw [← hx] at hat0 hhas0
  have hxk : x = hs.getD k 0 := by rw [hx, epk]; exact whoL_nat hs hk
  have HT := @hideH _ (And.intro hT (And.intro hK (And.intro hB (And.intro hne (And.intro hat0 (And.intro hxk (And.intro epk (And.intro hk (And.intro cb hO)))))))))
  clear hT hK hB hne hat0 hx hxk epk hk cb cp
  by_cases x0 : x = 0
  · have hh : Maps.has D (.int .i64 p) = false := by rw [hhas0, x0]; rfl
    have HN := @hideH _ (show takeE hs p b = 0 ∧ takeH hs p b = hs.set k b by rw [HT.out.2.2.2.2.2.2.1]; exact take_ok hs HT.out.2.2.2.2.2.2.2.1 HT.out.2.2.2.2.2.2.2.2.1 (.inl (by rw [← HT.out.2.2.2.2.2.1]; exact x0)))
    clear hhas0 x0
    rw [HN.out.1, HN.out.2]
    go_enter Try.func13, Try.ntmps13
    go_wp2_with (first
      | (go_at_call 21; refine (qIsPage p _).mono ?_; rintro r wq ⟨rfl, rfl⟩; rw [ep])
      | (go_at_call 22; refine (qIsBirth b _).mono ?_; rintro r wq ⟨rfl, rfl⟩; rw [eb])
      | (at_lookup; refine wpList_lookup_own_ok_int w rfl _ _ 47 rfl 3 3 .i64 keyL Try.underlying47 Try.underlying3 (zeroI _) bm 16 D rfl hO _ _ rfl hkey ?_; intro c hat hwc; clear hat hwc; rw [hh])
      | (at_mapUpdate; refine wpList_mapUpdate_in w rfl _ _ _ 47 rfl 3 3 keyL Try.underlying47 _ bm 16 D rfl hO (by decide) _ _ _ rfl rfl hkey _ _ hval ?_; intro w1 hown1 hturn1; have H1 := @hideH _ (And.intro hown1 hturn1.grown); clear hown1 hturn1))
    have k1 : Kept [g, bm] w w1 := (Kept.refl [g, bm] w).grown H1.out.2 (fun k hk => .inl (by cases hk; simp))
    have k1b : Kept [bm] w w1 := (Kept.refl [bm] w).grown H1.out.2 (fun k hk => .inl (by cases hk; simp))
    have hTn : Tells (D.put (.int .i64 p) (.lit (.int .i64 b))) (hs.set k b) := by rw [HT.out.2.2.2.2.2.2.1]; exact HT.out.1.put hO.isMap HT.out.2.1.len HT.out.2.2.2.2.2.2.2.1 (by have := HT.out.2.2.2.2.2.2.2.2.1.1; omega)
    try go_wp2
    go_ret
    exact ⟨rfl, ⟨bm, _, rfl, HT.out.2.2.1.kept k1b (by simpa using HT.out.2.2.2.1), own16 H1.out.1 hTn, hTn, by have q := HT.out.2.1.take p b; rw [HN.out.2] at q; exact q⟩, k1⟩
  · have hh : Maps.has D (.int .i64 p) = true := by rw [hhas0]; exact decide_eq_true x0
    by_cases xb : x = b
    · have HN := @hideH _ (show takeE hs p b = 0 ∧ takeH hs p b = hs.set k b by rw [HT.out.2.2.2.2.2.2.1]; exact take_ok hs HT.out.2.2.2.2.2.2.2.1 HT.out.2.2.2.2.2.2.2.2.1 (.inr (by rw [← HT.out.2.2.2.2.2.1]; exact xb)))
      have hat0 : D.atKey (.int .i64 p) (.lit (.int .i64 0)) = .lit (.int .i64 b) := by rw [← xb]; exact HT.out.2.2.2.2.1
      clear hhas0 x0 xb
      rw [HN.out.1, HN.out.2]
      have hbb : (b != b) = false := by simp
      go_enter Try.func13, Try.ntmps13
      go_wp2_with (first
        | (go_at_call 21; refine (qIsPage p _).mono ?_; rintro r wq ⟨rfl, rfl⟩; rw [ep])
        | (go_at_call 22; refine (qIsBirth b _).mono ?_; rintro r wq ⟨rfl, rfl⟩; rw [eb])
        | (at_lookup; refine wpList_lookup_own_ok_int w rfl _ _ 47 rfl 3 3 .i64 keyL Try.underlying47 Try.underlying3 (zeroI _) bm 16 D rfl hO _ _ rfl hkey ?_; intro c hat hwc; obtain rfl : b = c := (by rw [hat0] at hat; simpa using hat); clear hat hwc; rw [hh])
        | (at_mapUpdate; refine wpList_mapUpdate_in w rfl _ _ _ 47 rfl 3 3 keyL Try.underlying47 _ bm 16 D rfl hO (by decide) _ _ _ rfl rfl hkey _ _ hval ?_; intro w1 hown1 hturn1; have H1 := @hideH _ (And.intro hown1 hturn1.grown); clear hown1 hturn1))
      have k1 : Kept [g, bm] w w1 := (Kept.refl [g, bm] w).grown H1.out.2 (fun k hk => .inl (by cases hk; simp))
      have k1b : Kept [bm] w w1 := (Kept.refl [bm] w).grown H1.out.2 (fun k hk => .inl (by cases hk; simp))
      have hTn : Tells (D.put (.int .i64 p) (.lit (.int .i64 b))) (hs.set k b) := by rw [HT.out.2.2.2.2.2.2.1]; exact HT.out.1.put hO.isMap HT.out.2.1.len HT.out.2.2.2.2.2.2.2.1 (by have := HT.out.2.2.2.2.2.2.2.2.1.1; omega)
      try go_wp2
      go_ret
      exact ⟨rfl, ⟨bm, _, rfl, HT.out.2.2.1.kept k1b (by simpa using HT.out.2.2.2.1), own16 H1.out.1 hTn, hTn, by have q := HT.out.2.1.take p b; rw [HN.out.2] at q; exact q⟩, k1⟩
    · have HN := @hideH _ (show takeE hs p b = 150 ∧ takeH hs p b = hs by rw [HT.out.2.2.2.2.2.2.1]; exact take_busy hs HT.out.2.2.2.2.2.2.2.1 HT.out.2.2.2.2.2.2.2.2.1 (by rw [← HT.out.2.2.2.2.2.1]; exact x0) (by rw [← HT.out.2.2.2.2.2.1]; exact xb))
      have hat0 : D.atKey (.int .i64 p) (.lit (.int .i64 0)) = .lit (.int .i64 x) := HT.out.2.2.2.2.1
      have hxb : (x != b) = true := by simpa using xb
      clear hhas0 x0 xb
      rw [HN.out.1, HN.out.2]
      go_enter Try.func13, Try.ntmps13
      go_wp2_with (first
        | (go_at_call 21; refine (qIsPage p _).mono ?_; rintro r wq ⟨rfl, rfl⟩; rw [ep])
        | (go_at_call 22; refine (qIsBirth b _).mono ?_; rintro r wq ⟨rfl, rfl⟩; rw [eb])
        | (at_lookup; refine wpList_lookup_own_ok_int w rfl _ _ 47 rfl 3 3 .i64 keyL Try.underlying47 Try.underlying3 (zeroI _) bm 16 D rfl hO _ _ rfl hkey ?_; intro c hat hwc; obtain rfl : x = c := (by rw [hat0] at hat; simpa using hat); clear hat hwc; rw [hh]))
      try go_wp2
      go_ret
      exact ⟨rfl, ⟨bm, D, rfl, HT.out.2.2.1, hO, HT.out.1, HT.out.2.1⟩, Kept.refl _ _⟩
end Go.Proofs.Ytijmmacpmcbmkaa

/-
  OWN WORK. The document's Locks (layer 15): what each call answers.
-/
namespace Go.Proofs.Ytijmmacpmcbmkaa
open Go.RowKit
set_option linter.unusedVariables false
set_option linter.unusedSimpArgs false

/-- the document's Locks at block g -/
def Rk (w : World) (g : Nat) (hs : List Int) : Prop := Blk w g 53 (i64s hs)
theorem Rk.kept {w w' : World} {g : Nat} {hs : List Int} {S : List Nat} (h : Rk w g hs) (k : Kept S w w') (hS : g ∉ S) : Rk w' g hs := Blk.kept h k hS
theorem Rk.at {w : World} {g : Nat} {hs : List Int} (h : Rk w g hs) {k : Nat} (hk : k < hs.length) : w.cell? ⟨g, k, none⟩ = some (.int .i64 (hs.getD k 0)) := Blk.cell h (i64s_at hk)
theorem Rk.set {w : World} {g : Nat} {hs : List Int} (h : Rk w g hs) (k : Nat) (x : Int) : Rk (w.setCell ⟨g, k, none⟩ (.int .i64 x)) g (hs.set k x) ∧ Kept [g] w (w.setCell ⟨g, k, none⟩ (.int .i64 x)) := by
  obtain ⟨a, b⟩ := Blk.set h k (.int .i64 x)
  exact ⟨by rw [i64s_set] at a; exact a, b⟩
theorem rIs (p : Int) (w : World) : Calls Try.prog 30 #[.int .i64 p] w fun e w' => e = .returned (.bool (decide (isP p))) ∧ w' = w := by
  go_enter Try.func30, Try.ntmps30
  by_cases h : isP p
  · have h1 : (0 : Int) ≤ p := h.1
    have h2 : p < (16 : Int) := h.2
    rw [decide_eq_true h]
    clear h
    go_wp2
    go_ret
    exact ⟨by simp, by simp⟩
  · rw [decide_eq_false h]
    by_cases h1 : (0 : Int) ≤ p
    · have h2 : ¬ p < (16 : Int) := fun c => h ⟨h1, c⟩
      clear h
      go_wp2
      go_ret
      exact ⟨by simp, by simp⟩
    · clear h
      go_wp2
      go_ret
      exact ⟨by simp, by simp⟩
theorem rNew (w : World) : Calls Try.prog 17 #[] w fun e w' => e = .returned (.pointer (some ⟨w.heap.size, 0, none⟩)) ∧ Rk w' w.heap.size (List.replicate 16 0) ∧ Kept [] w w' := by
  go_enter Try.func17, Try.ntmps17
  go_wp2
  go_ret
  exact ⟨rfl, Blk.new w _ _, (Kept.refl [] w).alloc _⟩
set_option maxRecDepth 20000 in
theorem rHolder (g : Nat) (hs : List Int) (p : Int) (w : World) (h : Rk w g hs) (hl : hs.length = 16) : Calls Try.prog 26 #[.pointer (some ⟨g, 0, none⟩), .int .i64 p] w fun e w' => e = .returned (.int .i64 (whoL hs p)) ∧ w' = w := by
  go_enter Try.func26, Try.ntmps26
  go_wp2_with fail
  refine (rIs p w).mono ?_
  rintro e w1 ⟨rfl, hw⟩
  rw [hw]
  clear hw w1
  by_cases hp : isP p
  · rw [decide_eq_true hp]
    obtain ⟨k, hk, rfl⟩ := isP_nat hp
    have c := h.at (k := k) (by omega)
    obtain ⟨x, hx⟩ : ∃ x, x = hs.getD k 0 := ⟨_, rfl⟩
    rw [← hx] at c
    have HE := @hideH _ ((whoL_nat hs hk).trans hx.symm)
    clear hx
    have h0 : (0 : Int) ≤ (k : Int) := by omega
    have h1 : (k : Int) < (16 : Int) := by omega
    go_wp2
    go_ret
    exact ⟨by rw [HE.out]; rfl, rfl⟩
  · rw [decide_eq_false hp]
    have HE := @hideH _ (whoL_out hs hp)
    go_wp2
    go_ret
    exact ⟨by rw [HE.out]; rfl, rfl⟩
set_option maxRecDepth 20000 in
theorem rGive (g : Nat) (hs : List Int) (p : Int) (w : World) (h : Rk w g hs) (hl : hs.length = 16) : Calls Try.prog 24 #[.pointer (some ⟨g, 0, none⟩), .int .i64 p] w fun e w' => e = .returned (.bool (giveB hs p)) ∧ Rk w' g (giveH hs p) ∧ Kept [g] w w' := by
  go_enter Try.func24, Try.ntmps24
  go_wp2_with fail
  refine (rIs p w).mono ?_
  rintro e w1 ⟨rfl, hw⟩
  rw [hw]
  clear hw w1
  by_cases hp : isP p
  · rw [decide_eq_true hp]
    obtain ⟨k, hk, rfl⟩ := isP_nat hp
    have c := h.at (k := k) (by omega)
    have f := Blk.free h k
    have h0 : (0 : Int) ≤ (k : Int) := by omega
    have h1 : (k : Int) < (16 : Int) := by omega
    by_cases hz : hs.getD k 0 = 0
    · have HE := @hideH _ (give_no hs (p := (k : Int)) (by rw [whoL_nat hs hk]; exact hz))
      rw [hz] at c
      clear hz
      go_wp2
      go_ret
      exact ⟨by rw [HE.out.1]; rfl, by rw [HE.out.2]; exact h, Kept.refl _ _⟩
    · have HE := @hideH _ (give_yes hs hk hz)
      have s := h.set k 0
      generalize hs.getD k 0 = x at c hz
      have hz' : (x == 0) = false := by simpa using hz
      go_wp2
      go_ret
      exact ⟨by rw [HE.out.1]; rfl, by rw [HE.out.2]; exact s.1, s.2⟩
  · rw [decide_eq_false hp]
    have HE := @hideH _ (give_no hs (whoL_out hs hp))
    go_wp2
    go_ret
    exact ⟨by rw [HE.out.1]; rfl, by rw [HE.out.2]; exact h, Kept.refl _ _⟩
set_option maxRecDepth 20000 in
theorem rTake (g : Nat) (hs : List Int) (p b : Int) (w : World) (h : Rk w g hs) (hl : hs.length = 16) : Calls Try.prog 23 #[.pointer (some ⟨g, 0, none⟩), .int .i64 p, .int .i64 b] w fun e w' => e = .returned (.int .i64 (takeE hs p b)) ∧ Rk w' g (takeH hs p b) ∧ Kept [g] w w' := by
  go_enter Try.func23, Try.ntmps23
  go_wp2_with fail
  refine (rIs p w).mono ?_
  rintro e w1 ⟨rfl, hw⟩
  rw [hw]
  clear hw w1
  by_cases hp : isP p
  · rw [decide_eq_true hp]
    by_cases hb : isBirth b
    · obtain ⟨k, hk, rfl⟩ := isP_nat hp
      have c := h.at (k := k) (by omega)
      have f := Blk.free h k
      have h0 : (0 : Int) ≤ (k : Int) := by omega
      have h1 : (k : Int) < (16 : Int) := by omega
      have b1 : ¬ b < (1 : Int) := by have := hb.1; omega
      have b2 : ¬ (1152921504606846976 : Int) < b := by have := hb.2; omega
      by_cases hz : hs.getD k 0 = 0
      · have HE := @hideH _ (take_ok hs hk hb (.inl hz))
        have s := h.set k b
        rw [hz] at c
        clear hz hb hp
        go_wp2
        go_ret
        exact ⟨by rw [HE.out.1]; rfl, by rw [HE.out.2]; exact s.1, s.2⟩
      · by_cases hy : hs.getD k 0 = b
        · have HE := @hideH _ (take_ok hs hk hb (.inr hy))
          have s := h.set k b
          rw [hy] at c hz
          have hz' : (b == 0) = false := by simpa using hz
          clear hy hb hp
          go_wp2
          go_ret
          exact ⟨by rw [HE.out.1]; rfl, by rw [HE.out.2]; exact s.1, s.2⟩
        · have HE := @hideH _ (take_busy hs hk hb hz hy)
          generalize hs.getD k 0 = x at c hz hy
          have hz' : (x != 0) = true := by simpa using hz
          have hy' : (x != b) = true := by simpa using hy
          clear hb hp
          go_wp2
          go_ret
          exact ⟨by rw [HE.out.1]; rfl, by rw [HE.out.2]; exact h, Kept.refl _ _⟩
    · have HE := @hideH _ (take_range hs hp hb)
      by_cases b1 : b < (1 : Int)
      · clear hb hp
        go_wp2
        go_ret
        exact ⟨by rw [HE.out.1]; rfl, by rw [HE.out.2]; exact h, Kept.refl _ _⟩
      · have b2 : (1152921504606846976 : Int) < b := by
          refine Int.lt_of_not_ge fun c => hb ⟨by omega, c⟩
        clear hb hp
        go_wp2
        go_ret
        exact ⟨by rw [HE.out.1]; rfl, by rw [HE.out.2]; exact h, Kept.refl _ _⟩
  · rw [decide_eq_false hp]
    have HE := @hideH _ (take_place hs b hp)
    clear hp
    go_wp2
    go_ret
    exact ⟨by rw [HE.out.1]; rfl, by rw [HE.out.2]; exact h, Kept.refl _ _⟩
theorem heldN_no (hs : List Int) (b : Int) (n : Nat) (h : ¬ (b ≠ 0 ∧ hs.getD n 0 = b)) : heldN hs b (n + 1) = heldN hs b n := by rw [heldN, if_neg h]
theorem heldN_yes (hs : List Int) (b : Int) (n : Nat) (h : b ≠ 0 ∧ hs.getD n 0 = b) : heldN hs b (n + 1) = heldN hs b n ++ [(n : Int)] := by rw [heldN, if_pos h]
set_option maxRecDepth 20000 in
set_option maxHeartbeats 1600000 in
theorem rHeld (g : Nat) (hs : List Int) (b : Int) (w : World) (h : Rk w g hs) (hl : hs.length = 16) : Calls Try.prog 27 #[.pointer (some ⟨g, 0, none⟩), .int .i64 b] w fun e w' => ∃ v, e = .returned v ∧ Ns w' w.heap.size v (heldL hs b) ∧ Kept [] w w' := by
  obtain ⟨inf, hin1, hin2, hin3, hin4⟩ := info_parts3 (show (Try.prog.info? 3).map (fun i => (i.zero, i.size, i.bytes)) = some (some (.int .i64 0), 1, 8) by kernel_rfl)
  have HI := @hideH _ (And.intro hin1 (And.intro hin2 (And.intro hin3 hin4)))
  have HR := @hideH _ h
  have HL := @hideH _ hl
  clear hin1 hin2 hin3 hin4 h hl
  go_enter Try.func27, Try.ntmps27
  go_wp2
  go_loopw [5, 6] (fun v i wr => ∃ k : Nat, k ≤ 16 ∧ i = .int .i64 k ∧ (∃ p c, v = .slice p (heldN hs b k).length c) ∧ Hid (Ns wr w.heap.size v (heldN hs b k) ∧ Kept [] w wr)) (fun _ i _ => 16 - (intOf i).toNat)
  case atStart => exact ⟨0, by omega, rfl, ⟨_, _, rfl⟩, Ns.nil _ _, Kept.refl _ _⟩
  case round =>
    obtain ⟨k, hk, rfl, ⟨p, c, rfl⟩, hh⟩ := hrel
    by_cases hkl : k < 16
    · have hkl' : (k : Int) < (16 : Int) := by omega
      have h0 : (0 : Int) ≤ (k : Int) := by omega
      have wk : IntKind.i64.wrap ((k : Int) + 1) = (k : Int) + 1 := wrap_i64_of (by omega) (by omega)
      have c0 := (HR.out.kept hh.out.2 (by simp)).at (k := k) (by have := HL.out; omega)
      obtain ⟨x, hx⟩ : ∃ x, x = hs.getD k 0 := ⟨_, rfl⟩
      rw [← hx] at c0
      by_cases hb : b = 0
      · have e := heldN_no hs b k (fun q => q.1 hb)
        have hb' : (b != 0) = false := by simpa using hb
        have HE := @hideH _ e
        clear e hb hx
        go_wp2
        go_roundw
        case rel => exact ⟨k + 1, by omega, by go_num, ⟨_, _, by rw [HE.out]⟩, by rw [HE.out]; exact hh.out.1, hh.out.2⟩
        case measure => simp [intOf]; omega
      · have hb' : (b != 0) = true := by simpa using hb
        by_cases hy : x = b
        · have HE := @hideH _ (heldN_yes hs b k ⟨hb, by rw [← hx]; exact hy⟩)
          have hy' : (x == b) = true := by simpa using hy
          have HN := @hideH _ (heldN_length hs b k)
          have hsrc := src_i64 (P := Try.prog) wr 26 3 Try.underlying26 (k : Int)
          have ka : Kept [] wr (wr.alloc (.cells #[.int .i64 (k : Int)] 3)) := (Kept.refl [] wr).alloc _
          have hrow : Row (wr.alloc (.cells #[.int .i64 (k : Int)] 3)) w.heap.size 1 (.slice p (heldN hs b k).length c) (heldN hs b k).length (i64s (heldN hs b k)) := hh.out.1.kept ka (by simp)
          clear hx hb hy
          go_wp2_with (at_builtin; refine wpList_append_row2 rfl (.tmp 23) (.tmp 25) 26 rfl w.heap.size 3 inf (.int .i64 0) 1 8 Try.underlying26 HI.out.1 HI.out.2.1 HI.out.2.2.1 HI.out.2.2.2 rfl _ _ _ (by rfl) hrow _ 1 [.int .i64 (k : Int)] (by rfl) hsrc (by have := HN.out; omega) (by have := HN.out; unfold maxLen; omega) (by have := HN.out; omega) (by have := hh.out.2.size; rw [World.size_alloc]; omega) ?_; intro v' w' r' k' at'; obtain ⟨p', c', hv', -⟩ := Row.shape r'; subst hv'; have HX := @hideH _ (And.intro r' k'); clear r' k' at')
          go_roundw
          case rel =>
            refine ⟨k + 1, by omega, by go_num, ⟨p', c', by rw [HE.out, List.length_append]; rfl⟩, ?_, ?_⟩
            · rw [HE.out]
              have q := HX.out.1
              unfold Ns
              rw [List.length_append, show i64s (heldN hs b k ++ [(k : Int)]) = i64s (heldN hs b k) ++ [.int .i64 (k : Int)] by simp [i64s]]
              exact q
            · exact (hh.out.2.then ka).trans HX.out.2 fun y hy => .inr (by have q := hh.out.1.lt (x := y) (by simpa using hy); exact q.1)
          case measure => simp [intOf]; omega
        · have HE := @hideH _ (heldN_no hs b k (fun q => hy (by rw [hx]; exact q.2)))
          have hy' : (x == b) = false := by simpa using hy
          clear hx hb hy
          go_wp2
          go_roundw
          case rel => exact ⟨k + 1, by omega, by go_num, ⟨_, _, by rw [HE.out]⟩, by rw [HE.out]; exact hh.out.1, hh.out.2⟩
          case measure => simp [intOf]; omega
    · have ek : k = 16 := by omega
      subst ek
      go_wp2
      go_ret
      exact ⟨_, rfl, hh.out.1, hh.out.2⟩
theorem heldL_at (hs : List Int) (b : Int) {j : Nat} (hj : j < (heldL hs b).length) : ∃ m : Nat, m < 16 ∧ (heldL hs b).getD j 0 = (m : Int) := by
  have hm : (heldL hs b)[j] ∈ heldN hs b 16 := List.getElem_mem hj
  obtain ⟨m, h1, h2, -⟩ := (heldN_mem hs b 16 _).1 hm
  exact ⟨m, h1, by rw [List.getD_eq_getElem?_getD, List.getElem?_eq_getElem hj]; exact h2⟩
set_option maxRecDepth 20000 in
set_option maxHeartbeats 1600000 in
theorem rDrop (g : Nat) (hs : List Int) (b : Int) (w : World) (h : Rk w g hs) (hl : hs.length = 16) : Calls Try.prog 25 #[.pointer (some ⟨g, 0, none⟩), .int .i64 b] w fun e w' => ∃ v, e = .returned v ∧ Ns w' w.heap.size v (heldL hs b) ∧ Rk w' g (dropH hs b) ∧ Kept [g] w w' := by
  have hH := rHeld g hs b w h hl
  have HL := @hideH _ hl
  have HG := @hideH _ (Blk.lt h)
  go_enter Try.func25, Try.ntmps25
  go_wp2_with fail
  refine hH.mono ?_
  clear hH
  rintro e w1 ⟨v, rfl, n1, k1⟩
  have h1 := h.kept k1 (by simp)
  obtain ⟨p, c, hv⟩ := n1.shape
  subst hv
  obtain ⟨n, hn⟩ : ∃ n, n = (heldL hs b).length := ⟨_, rfl⟩
  rw [← hn]
  have HN := @hideH _ (And.intro hn (heldN_length hs b 16))
  have HS := @hideH _ (And.intro n1 (And.intro k1 h1))
  clear n1 k1 h1 h hl hn
  go_wp2
  go_loopw [6] (fun i wr => ∃ j : Nat, j ≤ n ∧ i = .int .i64 j ∧ Hid (Rk wr g (goneTo hs (heldL hs b) j) ∧ Kept [g] w1 wr)) (fun i _ => n - (intOf i).toNat)
  case atStart => exact ⟨0, Nat.zero_le _, rfl, HS.out.2.2, Kept.refl _ _⟩
  case round =>
    obtain ⟨j, hj, rfl, hh⟩ := hrel
    by_cases hjl : j < n
    · have hjl' : (j : Int) < (n : Int) := by omega
      have h0 : (0 : Int) ≤ (j : Int) := by omega
      have wk : IntKind.i64.wrap ((j : Int) + 1) = (j : Int) + 1 := wrap_i64_of (by omega) (by have e1 := HN.out.1; have e2 := HN.out.2; unfold heldL at e1; omega)
      have jl : j < (heldL hs b).length := by rw [← HN.out.1]; exact hjl
      obtain ⟨m, hm, em⟩ := heldL_at hs b jl
      obtain ⟨gl, hp, hgl, cl, -⟩ := HS.out.1.at jl
      subst hp
      rw [em] at cl
      have hm0 : (0 : Int) ≤ (m : Int) := by omega
      have hm1 : (m : Int) < (16 : Int) := by omega
      have cl2 := hh.out.2.cell cl (by have := HG.out; simp; omega)
      go_upto_region 5 with fail
      obtain ⟨wd, hwd⟩ : ∃ wx, wx = wr.drew := ⟨_, rfl⟩
      have kd : Kept [] wr wd := by rw [hwd]; exact (Kept.refl [] wr).drew
      have rd := hh.out.1.kept kd (by simp)
      have cg := rd.at (k := m) (by rw [goneTo_length]; have := HL.out; omega)
      have fg := Blk.free rd m
      have s := rd.set m 0
      have HE := @hideH _ em
      obtain ⟨wn, hwn⟩ : ∃ wx, wx = wd.setCell ⟨g, m, none⟩ (.int .i64 0) := ⟨_, rfl⟩
      rw [← hwn] at s
      have HT := @hideH _ (And.intro s.1 ((hh.out.2.then kd).trans s.2 (by simp)))
      have hS : wd.cell? ⟨gl, j, none⟩ = some (.int .i64 (m : Int)) := kd.cell cl2 (by simp)
      clear s rd em cl cl2 hh kd
      refine wp_region_late (fun w' => w'.cell? ⟨gl, j, none⟩ = some (.int .i64 (m : Int))) 8 (by kernel_rfl) ?_
      rw [← hwd]
      clear hwd
      refine wpAnyZ_take 0 (v := ?v_0) rfl (by kernel_rfl) (by kernel_rfl) (by kernel_rfl) (by kernel_rfl) (fun _ _ _ h => h) (by rfl) ?hy_0 hS ?rest_0
      case hy_0 => (intro wx hs1; go_simp; (try with_reducible rfl))
      (try simp only [Act.put, List.setIfInBounds_toArray, List.set_cons_zero, List.set_cons_succ])
      refine wpAnyZ_take 1 (v := ?v_1) rfl (by kernel_rfl) (by kernel_rfl) (by kernel_rfl) (by kernel_rfl) (fun _ _ _ h => h) (by rfl) ?hy_1 hS ?rest_1
      case hy_1 => (intro wx hs1; go_simp; (try with_reducible rfl))
      (try simp only [Act.put, List.setIfInBounds_toArray, List.set_cons_zero, List.set_cons_succ])
      refine wpAnyZ_take 2 (v := ?v_2) rfl (by kernel_rfl) (by kernel_rfl) (by kernel_rfl) (by kernel_rfl) (fun _ _ _ h => h) (by rfl) ?hy_2 hS ?rest_2
      case hy_2 => (intro wx hs1; go_simp; (try with_reducible rfl))
      (try simp only [Act.put, List.setIfInBounds_toArray, List.set_cons_zero, List.set_cons_succ])
      refine wpAnyZ_take 3 (v := ?v_3) rfl (by kernel_rfl) (by kernel_rfl) (by kernel_rfl) (by kernel_rfl) (fun _ _ _ h => h) (by rfl) ?hy_3 hS ?rest_3
      case hy_3 => (intro wx hs1; go_simp; (try with_reducible rfl))
      (try simp only [Act.put, List.setIfInBounds_toArray, List.set_cons_zero, List.set_cons_succ])
      refine wpAnyZ_take 4 (v := ?v_4) rfl (by kernel_rfl) (by kernel_rfl) (by kernel_rfl) (by kernel_rfl) (fun _ _ _ h => h) (by rfl) ?hy_4 hS ?rest_4
      case hy_4 => (intro wx hs1; go_simp; (try with_reducible rfl))
      (try simp only [Act.put, List.setIfInBounds_toArray, List.set_cons_zero, List.set_cons_succ])
      refine wpAnyZ_one 5 rfl (by kernel_rfl) (fun K hK => ?_)
      go_simp
      refine hK _ _ (fun _ => hS) ?_
      clear hK K
      (try simp only [Act.put, List.setIfInBounds_toArray, List.set_cons_zero, List.set_cons_succ])
      refine wpAnyZ_one 6 rfl (by kernel_rfl) (fun K hK => ?_)
      go_simp
      refine hK _ _ (fun _ => hS) ?_
      clear hK K
      (try simp only [Act.put, List.setIfInBounds_toArray, List.set_cons_zero, List.set_cons_succ])
      refine wpAnyZ_one 7 rfl (by kernel_rfl) (fun K hK => ?_)
      go_simp
      refine hK _ _ (fun _ => hS) ?_
      clear hK K
      (try simp only [Act.put, List.setIfInBounds_toArray, List.set_cons_zero, List.set_cons_succ])
      refine wpAnyZ_one 8 rfl (by kernel_rfl) (fun K hK => ?_)
      go_simp
      refine hK _ _ (fun h => absurd rfl h) ?_
      clear hK K
      (try simp only [Act.put, List.setIfInBounds_toArray, List.set_cons_zero, List.set_cons_succ])
      refine wpAnyZ_done (by kernel_rfl) ?_ _
      rw [← hwn]
      clear hwn hS cg fg
      go_wp2
      go_roundw
      case rel => exact ⟨j + 1, by omega, by go_num, by rw [goneTo, HE.out]; exact HT.out.1, HT.out.2⟩
      case measure => simp [intOf]; omega
    · have ej : j = n := by omega
      subst ej
      have HQ := @hideH _ (show Rk wr g (dropH hs b) by have q := hh.out.1; rw [HN.out.1, goneTo_all HL.out] at q; exact q)
      have HV := @hideH _ (HS.out.1.kept hh.out.2 (fun x hx hm => by have := (HS.out.1.lt hx).1; have := HG.out; simp at hm; omega))
      have HK := @hideH _ ((HS.out.2.1.mono (T := [g]) (by simp)).trans hh.out.2 (by simp))
      have HN1 := @hideH _ HN.out.1
      clear hh HS HN
      go_wp2
      go_ret
      exact ⟨_, rfl, by have q := HV.out; rw [← HN1.out] at q; exact q, HQ.out, HK.out⟩
end Go.Proofs.Ytijmmacpmcbmkaa

/-
  OWN WORK. lock (a map): Drop; the face of the program's Locks.
-/
namespace Go.Proofs.Ytijmmacpmcbmkaa
open Go.RowKit Go.Maps
set_option linter.unusedVariables false
set_option linter.unusedSimpArgs false

theorem giveH_page {hs : List Int} (hl : hs.length = 16) {m : Nat} (hm : m < 16) : giveH hs (m : Int) = hs.set m 0 := by
  by_cases c : hs.getD m 0 = 0
  · rw [(give_no hs (by rw [whoL_nat hs hm]; exact c)).2]
    apply List.ext_getElem (by simp)
    intro i h1 h2
    rw [List.getElem_set]
    split
    · rename_i e
      subst e
      rw [List.getD_eq_getElem?_getD, List.getElem?_eq_getElem h1] at c
      simpa using c
    · rfl
  · exact (give_yes hs hm c).2
theorem OkH.gone {hs : List Int} (h : OkH hs) (l : List Int) : ∀ j, OkH (goneTo hs l j)
  | 0 => h
  | j + 1 => by
    have ih := OkH.gone h l j
    refine ⟨by rw [goneTo, List.length_set]; exact ih.len, fun x hx => ?_⟩
    rcases List.mem_or_eq_of_mem_set hx with q | q
    · exact ih.all x q
    · exact .inl q
set_option maxRecDepth 20000 in
set_option maxHeartbeats 1600000 in
theorem qDrop {g : Nat} {F : List Nat} {hs : List Int} (b : Int) (w : World) (h : LkM w g F hs) (hb : I64 b) : Calls Try.prog 10 #[.pointer (some ⟨g, 0, none⟩), .int .i64 b] w fun e w' => ∃ v, e = .returned v ∧ Ns w' w.heap.size v (heldL hs b) ∧ LkM w' g F (dropH hs b) ∧ Kept F w w' := by
  have hH := @hideH _ (qHeld b w h hb)
  obtain ⟨bm, D, rfl, hB, hO, hT, hK⟩ := h
  have HG := @hideH _ (And.intro hB.lt (And.intro hO.lt (And.intro (LkM.ne hB hO) (And.intro hK (And.intro hB (And.intro hO hT))))))
  clear hB hO hT hK
  go_enter Try.func10, Try.ntmps10
  go_wp2_with fail
  refine hH.out.mono ?_
  clear hH
  rintro e w1 ⟨v, rfl, n1, k1⟩
  obtain ⟨p, c, hv⟩ := n1.shape
  subst hv
  obtain ⟨n, hn⟩ : ∃ n, n = (heldL hs b).length := ⟨_, rfl⟩
  rw [← hn]
  have HN := @hideH _ (And.intro hn (heldN_length hs b 16))
  have HS := @hideH _ (And.intro n1 (And.intro k1 (And.intro (HG.out.2.2.2.2.1.kept k1 (by simp)) (And.intro (ownsMap_kept HG.out.2.2.2.2.2.1 k1 (by simp)) HG.out.2.2.2.2.2.2))))
  clear n1 k1 hn
  go_wp2
  go_loopw [13] (fun i wr => ∃ (j : Nat) (Dj : DataW Unit), j ≤ n ∧ i = .int .i64 j ∧ Hid (wr.ownsMap Try.prog 3 (plainElem Try.prog 3) bm 16 Dj ∧ Tells Dj (goneTo hs (heldL hs b) j) ∧ Kept [bm] w1 wr)) (fun i _ => n - (intOf i).toNat)
  case atStart => exact ⟨0, D, Nat.zero_le _, rfl, HS.out.2.2.2.1, HS.out.2.2.2.2, Kept.refl _ _⟩
  case round =>
    obtain ⟨j, Dj, hj, rfl, hh⟩ := hrel
    by_cases hjl : j < n
    · have hjl' : (j : Int) < (n : Int) := by omega
      have h0 : (0 : Int) ≤ (j : Int) := by omega
      have wk : IntKind.i64.wrap ((j : Int) + 1) = (j : Int) + 1 := wrap_i64_of (by omega) (by have e1 := HN.out.1; have e2 := HN.out.2; unfold heldL at e1; omega)
      have jl : j < (heldL hs b).length := by rw [← HN.out.1]; exact hjl
      obtain ⟨m, hm, em⟩ := heldL_at hs b jl
      obtain ⟨gl, hp, hgl, cl, -⟩ := HS.out.1.at jl
      subst hp
      rw [em] at cl
      have cl2 := hh.out.2.2.cell cl (by have := HG.out.2.1; simp; omega)
      have cg := (HS.out.2.2.1.kept hh.out.2.2 (by simpa using HG.out.2.2.1)).cell (j := 0) rfl
      have hO := hh.out.1
      have hmi : I64 (m : Int) := isP_i64 (isP_of hm)
      have hkey := keyOf_int_mk (P := Try.prog) (k := 3) Try.underlying3 (wf_of_i64 hmi)
      have HE := @hideH _ (show Tells (Dj.del (.int .i64 (m : Int))) (goneTo hs (heldL hs b) (j + 1)) by
        have q := hh.out.2.1.del (p := (m : Int)) (by rw [goneTo_length]; exact HG.out.2.2.2.1.len) hmi
        rw [giveH_page (by rw [goneTo_length]; exact HG.out.2.2.2.1.len) hm] at q
        rw [goneTo, em]
        exact q)
      clear cl em jl
      go_wp2_with (at_delete; refine wpList_delete_own _ rfl _ _ 47 3 rfl 3 keyL Try.underlying47 _ bm 16 Dj rfl hO _ _ rfl hkey ?_; intro w2 hown2 hturn2; have H2 := @hideH _ (And.intro hown2 hturn2.grown); clear hown2 hturn2)
      try go_wp2
      go_roundw
      case rel => exact ⟨j + 1, _, by omega, by go_num, own16 H2.out.1 HE.out, HE.out, hh.out.2.2.grown H2.out.2 (fun k hk => .inl (by cases hk; simp))⟩
      case measure => simp [intOf]; omega
    · have hjn : j = n := by omega
      subst hjn
      have hjl' : ¬ (j : Int) < (j : Int) := by omega
      go_wp2
      go_ret
      have hsub : ∀ x, (Value.slice p j c).ownBlock = some x → x ∉ [bm] := fun x hx => by have q := HS.out.1.lt (x := x) (by rw [← HN.out.1]; exact hx); have := HG.out.2.1; simp; omega
      have q := hh.out.2.1
      rw [HN.out.1, goneTo_all HG.out.2.2.2.1.len] at q
      refine ⟨_, rfl, ?_, ⟨bm, Dj, rfl, HS.out.2.2.1.kept hh.out.2.2 (by simpa using HG.out.2.2.1), hh.out.1, q, HG.out.2.2.2.1.drop b⟩, (HS.out.2.1.mono (by simp)).trans hh.out.2.2 (fun x hx => .inl (by simp at hx; simp [hx]))⟩
      have n2 := HS.out.1
      rw [← HN.out.1] at n2
      exact n2.kept hh.out.2.2 hsub
theorem lkOps : LkOps LkM := ⟨fun h k hS => h.kept k hS, fun h => h.lt, fun h => by obtain ⟨b, D, rfl, h1, h2, h3, h4⟩ := h; exact h4, qNew, qTake, qGive, qHolder, qHeld, qDrop⟩
end Go.Proofs.Ytijmmacpmcbmkaa

/-
  OWN WORK. THE STATEMENT, out of the walk.
-/
namespace Go.Proofs.Ytijmmacpmcbmkaa.lockGoes
open Go.ChangeShapes Go.WideShapes Go.ChangeAt Go.RowKit
set_option linter.unusedVariables false
set_option maxRecDepth 100000 in
theorem contract (H : Type) (enc : TypeId × Value → H) (W : World) (base : Nat) (args : Array Value) (ds gs : List (DataW H)) (before : List MemPlace)
    (hval : ∀ (j : Nat) t v, Try.f5.params[j]? = some t → args[j]? = some v → Value.okWide Try.prog W .any base t v)
    (hW : DataW.Whole enc Try.prog Try.f5.params.toList Rows.lockGoesSpec.vars false W args.toList ds gs before) (hsz : (DataW.weightsEach Try.prog (Try.f5.params.toList ++ Rows.lockGoesSpec.plain.varTypes Try.prog) (ds ++ gs)).all (· ≤ reachBytes) = true) :
    Calls Try.prog 5 args W fun e W' => ∃ v, e = .returned v ∧ Rows.lockGoesSpec.post enc Try.prog Try.f5 false true false false W args v W' := by
  have hW' := hW
  obtain ⟨p, q, hA0, hV, rfl, hfz, hnd⟩ := hW
  have hA : DataW.TrodAll enc Try.prog W 0 (fun _ => true) true Try.f5.params.toList args.toList ds p := hA0
  rw [Try.params5] at hA hval hsz
  obtain ⟨v0, vs0, d0, ds0, p0, q0, hargs, rfl, rfl, h0, r0⟩ := trodAll_cons hA
  obtain ⟨v1, vs1, d1, ds1, p1, q1, rfl, rfl, rfl, h1, r1⟩ := trodAll_cons r0
  obtain ⟨v2, vs2, d2, ds2, p2, q2, rfl, rfl, rfl, h2, r2⟩ := trodAll_cons r1
  obtain ⟨rfl, rfl, rfl⟩ := trodAll_nil r2
  obtain rfl : args = #[v0, v1, v2] := by cases args; simp_all
  obtain ⟨rfl, rfl⟩ := trodVars_none hV
  obtain ⟨ao0, len0, cap0, rfl⟩ := okWide_slice Try.underlying22 (hval 0 22 v0 rfl rfl)
  have lt0 : ∀ x ∈ p0, x.block < W.heap.size := by obtain ⟨m, hm⟩ := h0; exact DataW.trod_lt m _ _ _ hm
  obtain ⟨l0, hl0, B0⟩ := steps_open Try.underlying22 Try.underlying44 (by kernel_rfl) rfl rfl rfl rfl (by kernel_rfl) (by kernel_rfl) (by kernel_rfl) (by kernel_rfl) (by kernel_rfl) (by kernel_rfl) (by kernel_rfl) (by kernel_rfl) h0
  obtain ⟨a1, rfl, rfl, rfl, w1⟩ := open_int Try.underlying3 (hval 1 3 v1 rfl rfl) h1
  have bd1 := bounds_i64 w1
  obtain ⟨a2, rfl, rfl, rfl, w2⟩ := open_int Try.underlying3 (hval 2 3 v2 rfl rfl) h2
  have bd2 := bounds_i64 w2
  clear hA0
  refine (lockGoes_walk lkOps _ l0 a1 a2 W B0 (i64_of_wf w1) (i64_of_wf w2)).mono fun e W' ⟨he, kp⟩ => ?_
  subst he
  have bel := kp.below
  exact ⟨_, rfl, _, _, _, [], _, [], hW', trodAll_mk1 (shut_bool Try.underlying4 _), (trodAll_cons_mk (Below.trod laidOut (by kernel_rfl) (of_decide_eq_true (by kernel_rfl)) h0 bel lt0) (trodAll_cons_mk (shut_int Try.underlying3 w1) (trodAll_cons_mk (shut_int Try.underlying3 w2) trodAll_mk0))), rfl, bel.frame _, fun h => by cases h⟩

set_option maxRecDepth 100000 in
theorem lifted (os : Os) (started : os.Started) (H : Type) (enc : TypeId × Value → H) :
    ReturnsInHanded {} Try.checked os 5 .any (Rows.lockGoesSpec.pre6 enc Try.prog Try.f5 Rows.lockGoesRow.domain false) (Rows.lockGoesSpec.post enc Try.prog Try.f5 false true false false) := by
  refine returnsInHanded_of_change_sized (C := Try.checked) own started (by kernel_rfl) Try.func5
    (ChangeSpec.witness6 (enc := enc) (C := Try.checked) false ⟨#[], #[.slice none 0 0, .int .i64 0, .int .i64 0], []⟩ 8 (by kernel_rfl) (by kernel_rfl) (by kernel_rfl) (by kernel_rfl)) ?_
  intro W base args ds gs before hval hW _ hsz _
  exact contract H enc W base args ds gs before hval hW hsz

theorem proved : Rows.LockGoesSaid :=
  OpenClaim.holds_of_wide 5 Try.f5 rfl rfl rfl rfl rfl rfl rfl ⟨rfl, rfl, rfl, rfl, rfl⟩ rfl rfl rfl rfl rfl (by kernel_rfl) Try.func5 (by kernel_rfl)
    (of_decide_eq_true (by kernel_rfl)) (by unfold Func.isWrapper; first | (rw [if_pos (by decide +kernel)]; kernel_rfl) | (rw [if_neg (by decide +kernel)]; exact ⟨rfl, rfl⟩))
    (fun os started H enc _ => lifted os started H enc)
#print axioms proved
end Go.Proofs.Ytijmmacpmcbmkaa.lockGoes

