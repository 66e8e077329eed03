import Derived.Test.YtnjfahgmebmakaaGreatDoorC1
/-
  OWN WORK. The model (layer 18) in plain words: how much there is: each step adds one at most.
-/
namespace Go.Proofs.YtnjfahgmebmakaaGreatDoor
set_option linter.unusedVariables false
theorem chsN_append (a b : List Tn) : chsN (a ++ b) = chsN a + chsN b := by
  induction a with
  | nil => simp [chsN]
  | cons t r ih => simp only [List.cons_append, chsN, ih]; omega
theorem chsN_at {l : List Tn} {k : Nat} {x : Tn} (hk : l[k]? = some x) : chsN l = chsN (l.take k) + x.chs.length + chsN (l.drop (k + 1)) := by
  conv => lhs; rw [split_at hk]
  rw [chsN_append]; simp only [chsN]; omega
theorem chsN_set {l : List Tn} {k : Nat} {x : Tn} (hk : l[k]? = some x) (y : Tn) : chsN (l.set k y) + x.chs.length = chsN l + y.chs.length := by
  rw [chsN_at hk, set_split hk, chsN_append]; simp only [chsN]; omega
theorem chsN_erase {l : List Tn} {k : Nat} {x : Tn} (hk : l[k]? = some x) : chsN (l.eraseIdx k) + x.chs.length = chsN l := by
  rw [chsN_at hk, erase_split, chsN_append]; omega
theorem findO_idx {c : Cf} {s : St} (ok : OkS c s) {id : Int} {t : Tn} (h : findO s.opn id = some t) : ∃ k : Nat, s.opn[k]? = some t := List.getElem?_of_mem (findO_some h).1
theorem ask_find {c : Cf} {s : St} {id key : Int} (h : askE c s id key = 0) : ∃ t, findO s.opn id = some t := by
  unfold askE at h
  split at h
  · exact absurd h (by decide)
  · rename_i q
    cases e : findO s.opn id with
    | none => rw [e] at q; simp at q
    | some t => exact ⟨t, rfl⟩
theorem cnt_chg {c : Cf} {s : St} (ok : OkS c s) {k : Nat} {t : Tn} (hk : s.opn[k]? = some t) (p : Int) (x : Chg) : cnt (chgS c s t p x) ≤ cnt s + 1 := by
  by_cases h : 0 < lenC s t x
  · cases hf : fitsS c s (38 + 2 * lenC s t x) (46 + lenC s t x) with
    | true =>
      rw [(chg_fit (page := p) ok hk rfl h hf).2]
      have := chsN_set hk (heldT ⟨t.id, t.pages, t.chs ++ [x], t.lens ++ [lenC s t x]⟩ p)
      rw [(heldT_id _ _).2.2.1, List.length_append] at this
      unfold cnt; simp at this ⊢; omega
    | false =>
      rw [(chg_not (page := p) ok hk rfl h hf).2]
      have := chsN_erase hk
      unfold cnt; dsimp only; omega
  · rw [(chg_zero (page := p) ok hk rfl h).2]
    have := chsN_set hk (heldT t p)
    rw [(heldT_id _ _).2.2.1] at this
    unfold cnt; dsimp only; omega
theorem cnt_step {c : Cf} {S : St} (ok : OkS c S) (o : OpR) : cnt (stS c S o) ≤ cnt S + 1 := by
  unfold stS
  by_cases q1 : o.kind = 1
  · rw [if_pos q1]
    unfold begS
    split
    · unfold cnt; dsimp only; rw [chsN_append]; simp [chsN]
    · omega
  rw [if_neg q1]
  by_cases q2 : o.kind = 2
  · rw [if_pos q2]
    by_cases h : askE c S o.id o.key = 0
    · obtain ⟨t, ht⟩ := ask_find h
      obtain ⟨k, hk⟩ := findO_idx ok ht
      rw [(get_yes ok h hk ht).2]
      have := chsN_set hk (heldT t (o.key % c.pages))
      rw [(heldT_id _ _).2.2.1] at this
      unfold cnt; dsimp only; omega
    · rw [(get_no h).2]; omega
  rw [if_neg q2]
  by_cases q3 : o.kind = 3
  · rw [if_pos q3]
    by_cases h : askE c S o.id o.key = 0
    · obtain ⟨t, ht⟩ := ask_find h
      obtain ⟨k, hk⟩ := findO_idx ok ht
      cases hb : full c S t o.key with
      | true => rw [(put_full (v := o.v) h ht hb).2]; omega
      | false => rw [(put_chg (v := o.v) h ht hb).2]; exact cnt_chg ok hk _ _
    · rw [(put_no (v := o.v) h).2.1]; omega
  rw [if_neg q3]
  by_cases q4 : o.kind = 4
  · rw [if_pos q4]
    by_cases h : askE c S o.id o.key = 0
    · obtain ⟨t, ht⟩ := ask_find h
      obtain ⟨k, hk⟩ := findO_idx ok ht
      cases hb : (seesT S t o.key).2 with
      | true => rw [(del_chg h ht hb).2.2]; exact cnt_chg ok hk _ _
      | false =>
        rw [(del_none ok hk h ht hb).2.2]
        have := chsN_set hk (heldT t (o.key % c.pages))
        rw [(heldT_id _ _).2.2.1] at this
        unfold cnt; dsimp only; omega
    · rw [(put_no (v := 0) h).2.2.2.2]; omega
  rw [if_neg q4]
  by_cases q5 : o.kind = 5
  · rw [if_pos q5]
    cases h : findO S.opn o.id with
    | none => rw [(abo_none h).2.2]; omega
    | some t =>
      obtain ⟨k, hk⟩ := findO_idx ok h
      rw [(abo_some ok hk h).2.2]
      have := chsN_erase hk
      unfold cnt; dsimp only; rw [List.flatten_append, List.length_append, List.length_append]; simp; omega
  rw [if_neg q5]
  by_cases q6 : o.kind = 6
  · rw [if_pos q6]
    cases h : findO S.opn o.id with
    | none => rw [(abo_none h).2.1]; omega
    | some t =>
      obtain ⟨k, hk⟩ := findO_idx ok h
      rw [(abo_some ok hk h).2.1]
      have := chsN_erase hk
      unfold cnt; dsimp only; omega
  rw [if_neg q6]
  by_cases q7 : o.kind = 7
  · rw [if_pos q7]; unfold chkS; split <;> (unfold cnt; first | omega | (dsimp only; omega))
  rw [if_neg q7]
  by_cases q8 : o.kind = 8
  · rw [if_pos q8]; unfold renS; split <;> (unfold cnt; first | omega | (dsimp only; omega))
  rw [if_neg q8]; omega
end Go.Proofs.YtnjfahgmebmakaaGreatDoor

/-
  OWN WORK. The model (layer 18) in plain words: all that are open are aborted, one after the other.
-/
namespace Go.Proofs.YtnjfahgmebmakaaGreatDoor
set_option linter.unusedVariables false
def abosS (S : St) (l : List Int) : St := l.foldl aboS S
theorem find_dropO (l : List Tn) (id x : Int) : findO (dropO l id) x = if x = id then none else findO l x := by
  induction l with
  | nil => simp [findO, dropO]
  | cons t r ih =>
    unfold findO dropO at *
    by_cases c : t.id = id
    · rw [List.filter_cons, if_neg (by simp [c]), ih, List.find?_cons]
      by_cases e : x = id
      · simp [e]
      · rw [if_neg e, if_neg e, show (t.id == x) = false by rw [c]; simpa using Ne.symm e]
    · rw [List.filter_cons, if_pos (by simpa using c), List.find?_cons, List.find?_cons]
      by_cases e : t.id = x
      · rw [show (t.id == x) = true by simpa using e, if_neg (by rw [← e]; exact c)]
      · rw [show (t.id == x) = false by simpa using e]
        exact ih
theorem abo_find (S : St) (id x : Int) : findO (aboS S id).opn x = if x = id then none else findO S.opn x := by
  unfold aboS
  cases e : findO S.opn id with
  | none =>
    simp only
    split
    · rename_i c; rw [c, e]
    · rfl
  | some t =>
    simp only [undoS]
    rw [find_dropO, (findO_some e).2]
theorem abo_done (S : St) (id : Int) : (aboS S id).done = S.done := by
  unfold aboS
  split <;> rfl
theorem chsN_filter (p : Tn → Bool) (l : List Tn) : chsN (l.filter p) ≤ chsN l := by
  induction l with
  | nil => simp [chsN]
  | cons t r ih =>
    rw [List.filter_cons]
    split <;> simp only [chsN] <;> omega
theorem abo_cnt (S : St) (id : Int) : cnt (aboS S id) ≤ cnt S := by
  unfold cnt
  rw [abo_done]
  have : chsN (aboS S id).opn ≤ chsN S.opn := by
    unfold aboS
    split
    · exact Nat.le_refl _
    · exact chsN_filter _ _
  omega
theorem abos_find (S : St) (l : List Int) (x : Int) : findO (abosS S l).opn x = if x ∈ l then none else findO S.opn x := by
  induction l generalizing S with
  | nil => simp [abosS]
  | cons y r ih =>
    have : abosS S (y :: r) = abosS (aboS S y) r := rfl
    rw [this, ih, abo_find]
    by_cases h1 : x ∈ r
    · rw [if_pos h1, if_pos (by simp [h1])]
    · rw [if_neg h1]
      by_cases h2 : x = y
      · rw [if_pos h2, if_pos (by simp [h2])]
      · rw [if_neg h2, if_neg (by simp [h1, h2])]
theorem abos_done (S : St) (l : List Int) : (abosS S l).done = S.done := by
  induction l generalizing S with
  | nil => rfl
  | cons y r ih => exact (ih (aboS S y)).trans (abo_done S y)
theorem abos_take (S : St) {l : List Int} {i : Nat} {x : Int} (h : l[i]? = some x) : abosS S (l.take (i + 1)) = aboS (abosS S (l.take i)) x := by
  unfold abosS
  rw [List.take_add_one, h, List.foldl_append]
  rfl
theorem ids_mem {c : Cf} {S : St} (h : OkS c S) {x : Int} : x ∈ idsS S ↔ (findO S.opn x).isSome = true := by
  unfold idsS
  rw [mem_idsTo]
  refine ⟨fun q => q.2, fun q => ⟨?_, q⟩⟩
  obtain ⟨t, ht⟩ := Option.isSome_iff_exists.1 q
  have h1 := h.ids t (findO_some ht).1
  rw [(findO_some ht).2] at h1
  unfold isId at h1
  omega
theorem up_take {l : List Int} (h : l.Pairwise (· < ·)) {i : Nat} {x : Int} (hx : l[i]? = some x) : x ∉ l.take i := fun hm => by
  obtain ⟨hl, rfl⟩ := List.getElem?_eq_some_iff.1 hx
  obtain ⟨j, hj, e⟩ := List.getElem_of_mem hm
  rw [List.length_take] at hj
  rw [List.getElem_take] at e
  have := List.pairwise_iff_getElem.1 h j i (by omega) hl (by omega)
  omega
theorem abos_next {c : Cf} {S : St} (h : OkS c S) {i : Nat} {x : Int} (hx : (idsS S)[i]? = some x) : endE (abosS S ((idsS S).take i)) x = 0 := by
  unfold endE
  rw [abos_find, if_neg (up_take (idsS_up S) hx), if_pos ((ids_mem h).1 (List.mem_of_getElem? hx))]
theorem abos_all {c : Cf} {S : St} (h : OkS c S) : (abosS S (idsS S)).opn = [] := by
  cases e : (abosS S (idsS S)).opn with
  | nil => rfl
  | cons t r =>
    have q : (findO (abosS S (idsS S)).opn t.id).isSome = true := findO_mem.2 (by rw [e]; simp)
    rw [abos_find] at q
    split at q
    · simp at q
    · rename_i hn
      exact absurd ((ids_mem h).2 q) hn
theorem idsS_none {S : St} (h : S.opn = []) : idsS S = [] := by
  have : ∀ n, idsTo S.opn n = [] := fun n => by
    induction n with
    | zero => rfl
    | succ n ih => unfold idsTo; rw [ih, h]; simp [findO]
  exact this 64
theorem abos_cnt (S : St) (l : List Int) : cnt (abosS S l) ≤ cnt S := by
  induction l generalizing S with
  | nil => exact Nat.le_refl _
  | cons y r ih => exact Nat.le_trans (ih (aboS S y)) (abo_cnt S y)
theorem ids_range {S : St} {i : Nat} {x : Int} (hx : (idsS S)[i]? = some x) : 1 ≤ x ∧ x ≤ 64 := by
  have := (mem_idsTo.1 (List.mem_of_getElem? hx)).1
  omega
end Go.Proofs.YtnjfahgmebmakaaGreatDoor

/-
  OWN WORK (by mkpno.py). Scripts (layer 18): rows of five cells.
-/
namespace Go.Proofs.YtnjfahgmebmakaaGreatDoor
open Go.RowKit
set_option linter.unusedVariables false
set_option linter.unusedSimpArgs false

def OpR.cs (s : OpR) : List Value := [.int .i64 s.kind, .int .i64 s.id, .int .i64 s.key, .int .u64 s.v, .int .i64 s.n]
def OpAt (w : World) (a : Addr) (s : OpR) : Prop := (∀ (j : Nat) u, s.cs[j]? = some u → w.cell? (a.add j) = some u) ∧ s.ok
/-- v is a slice of these -/
def Ops (w : World) (v : Value) (ss : List OpR) : Prop :=
  ∃ (p : Option Addr) (c : Nat), v = .slice p ss.length c ∧ ss.length ≤ c ∧ c ≤ maxLen ∧ (p = none → c = 0) ∧ ∀ a, p = some a → ∀ (i : Nat) s, ss[i]? = some s → OpAt w (a.add (i * 5)) s
theorem OpAt.kept {w w' : World} {a : Addr} {s : OpR} (h : OpAt w a s) (k : Kept [] w w') : OpAt w' a s := ⟨fun j u hj => k.cell (h.1 j u hj) (by simp), h.2⟩
theorem Ops.kept {w w' : World} {v : Value} {ss : List OpR} (h : Ops w v ss) (k : Kept [] w w') : Ops w' v ss := by
  obtain ⟨p, c, e, h1, h2, h3, h4⟩ := h
  exact ⟨p, c, e, h1, h2, h3, fun a ha i s hs => (h4 a ha i s hs).kept k⟩
theorem Ops.shape {w : World} {v : Value} {ss : List OpR} (h : Ops w v ss) : ∃ p c, v = .slice p ss.length c ∧ ss.length ≤ maxLen := by
  obtain ⟨p, c, e, h1, h2, -⟩ := h
  exact ⟨p, c, e, by omega⟩
theorem Ops.at {w : World} {v : Value} {ss : List OpR} (h : Ops w v ss) {k : Nat} {s : OpR} (hk : ss[k]? = some s) :
    ∃ b o c, v = .slice (some ⟨b, o, none⟩) ss.length c ∧ (w.cell? ⟨b, o + k * 5, none⟩ = some (.int .i64 s.kind) ∧ w.cell? ⟨b, o + k * 5 + 1, none⟩ = some (.int .i64 s.id) ∧ w.cell? ⟨b, o + k * 5 + 2, none⟩ = some (.int .i64 s.key) ∧ w.cell? ⟨b, o + k * 5 + 3, none⟩ = some (.int .u64 s.v) ∧ w.cell? ⟨b, o + k * 5 + 4, none⟩ = some (.int .i64 s.n)) ∧ s.ok := by
  obtain ⟨p, c, rfl, h1, h2, h3, h4⟩ := h
  have hkl := (List.getElem?_eq_some_iff.1 hk).1
  cases p with
  | none => have := h3 rfl; omega
  | some a =>
    have h0 := (h4 a rfl 0 ss[0] (List.getElem?_eq_getElem (by omega))).1 0 _ rfl
    have hs := spot_of_cell h0
    have hs' : a.spot = none := by
      unfold Addr.add at hs
      split at hs <;> simp_all
    obtain ⟨g, g4⟩ := h4 a rfl k s hk
    obtain ⟨b, o, sp⟩ := a
    simp only at hs'
    subst hs'
    have hA : (⟨b, o, none⟩ : Addr).add (k * 5) = ⟨b, o + k * 5, none⟩ := add_none (a := ⟨b, o, none⟩) rfl (k * 5)
    rw [hA] at g
    have q : ∀ (j : Nat) u, s.cs[j]? = some u → w.cell? ⟨b, o + k * 5 + j, none⟩ = some u := fun j u hj => by have := g j u hj; rw [add_none (a := ⟨b, o + k * 5, none⟩) rfl] at this; exact this
    exact ⟨b, o, c, rfl, ⟨q 0 _ rfl, q 1 _ rfl, q 2 _ rfl, q 3 _ rfl, q 4 _ rfl⟩, g4⟩
end Go.Proofs.YtnjfahgmebmakaaGreatDoor

/-
  OWN WORK (by mkpnn.py). The document's New with its blocks; the law's alive (layer 18), for any State.
-/
namespace Go.Proofs.YtnjfahgmebmakaaGreatDoor
open Go.RowKit
set_option linter.unusedVariables false
set_option linter.unusedSimpArgs false

theorem fresh_go {w a b : World} {F F' : List Nat} (hF : ∀ x ∈ F, w.heap.size ≤ x) (k : Kept [] w a) (f : Fr a F F') (k' : Kept F a b) : (∀ x ∈ F', w.heap.size ≤ x) ∧ Kept [] w b :=
  ⟨fun x hx => by
    rcases f x hx with q | q
    · exact hF x q
    · have := k.size; omega, k.trans k' (fun y hy => .inr (hF y hy))⟩
/-- the law's own Config -/
def c18 : Cf := ⟨2, 2, 1024, 2, 2, 100⟩
def a0 : St := ⟨[], [], 0⟩
def a1 : St := begS c18 a0 3
def a2 : St := putS c18 a1 3 8 5
def a3 : St := begS c18 a2 3
def a4 : St := getS c18 a3 3 8
theorem c18_may : mayC c18 := by unfold mayC c18; decide
theorem a_ans : begE c18 a0 3 = 0 ∧ putE c18 a1 3 8 5 = 0 ∧ begE c18 a2 3 = 160 ∧ a3.used = 90 ∧ keptO a3.opn = 154 ∧ getA c18 a3 3 8 = (5, true, 0) ∧ endE a4 3 = 0 := by decide +kernel
theorem a_small : small a0 ∧ small a1 ∧ small a2 ∧ small a3 ∧ small a4 := by unfold small; decide +kernel
theorem small_any (w : World) : Calls Tryz.prog 31 #[] w fun e w' => e = .returned (.agg #[.int .i64 c18.pages, .int .i64 c18.slots, .int .i64 c18.log, .int .i64 c18.frames, .int .i64 c18.table, .int .i64 c18.keys]) ∧ Kept [] w w' := by
  go_enter Tryz.func31, Tryz.ntmps31
  go_wp2
  obtain ⟨w1, hw1⟩ : ∃ wx, wx = w.alloc (.cells #[.int .i64 2, .int .i64 2, .int .i64 1024, .int .i64 2, .int .i64 2, .int .i64 100] 25) := ⟨_, rfl⟩
  have B : Blk w1 w.heap.size 25 [.int .i64 2, .int .i64 2, .int .i64 1024, .int .i64 2, .int .i64 2, .int .i64 100] := by rw [hw1]; exact Blk.new w _ _
  have k1 : Kept [] w w1 := by rw [hw1]; exact (Kept.refl [] w).alloc _
  rw [← hw1]
  refine bodyPost_ret (v := .agg #[.int .i64 2, .int .i64 2, .int .i64 1024, .int .i64 2, .int .i64 2, .int .i64 100]) (results_cell_row Tryz.results31 _ w1 w.heap.size 25 _ (0, 0) _ (by rfl) B Tryz.underlying25 rfl (by kernel_rfl)) rfl ?_
  exact ⟨rfl, k1⟩
variable {Ks : List Nat} {Vr : World → Prop} {Pn : World → Nat → List Nat → Cf → St → Prop} (O : PnOps Ks Vr Pn)
include O
set_option maxRecDepth 20000 in
set_option maxHeartbeats 6400000 in
theorem alive_any (w : World) (hv : Vr w) : Calls Tryz.prog 9 #[] w fun e w' => e = .returned (.bool true) ∧ Kept [] w w' := by
  have HA := @hideH _ a_ans
  have HV := @hideH _ hv
  clear hv
  have HSM := @hideH _ a_small
  go_enter Tryz.func9, Tryz.ntmps9
  go_wp2_with fail
  refine (small_any _).mono ?_
  rintro e w1 ⟨rfl, k1⟩
  go_wp2_with fail
  refine (O.new c18 _ (O.vkept HV.out k1 (by simp))).mono ?_
  rintro e w2 (⟨-, g, F, rfl, p, hF, k2⟩ | ⟨hm, -⟩)
  rotate_left
  · exact absurd c18_may hm
  have HF := @hideH _ (show (∀ x ∈ F, w.heap.size ≤ x) ∧ Kept [] w w2 from ⟨fun x hx => Nat.le_trans k1.size (hF x hx), k1.then k2⟩)
  have HP := @hideH _ (show Pn w2 g F c18 a0 from p)
  clear p hF k1 k2
  go_wp2_with fail
  refine (num_any _ _).mono ?_
  rintro e wb ⟨rfl, hwb⟩
  rw [hwb]
  clear hwb

  go_wp2_with fail
  refine (O.begin_ 3 _ (O.vkept HV.out HF.out.2 (by simp)) HP.out HSM.out.1 (by unfold I64; omega)).mono ?_
  rintro e w3 ⟨F', rfl, p', f', k'⟩
  replace HF := @hideH _ (fresh_go HF.out.1 HF.out.2 f' k')
  replace HP := @hideH _ (show Pn w3 g F' c18 a1 from p')
  clear p' f' k' F w2
  obtain ⟨F, rfl⟩ : ∃ F, F = F' := ⟨_, rfl⟩
  rw [HA.out.1]
  go_wp2_with fail
  refine (num_any _ _).mono ?_
  rintro e wb ⟨rfl, hwb⟩
  rw [hwb]
  clear hwb
  go_wp2_with fail
  refine (O.put 3 8 5 _ (O.vkept HV.out HF.out.2 (by simp)) HP.out HSM.out.2.1 (by unfold I64; omega) (by unfold I64; omega) (by unfold u64; omega)).mono ?_
  rintro e w4 ⟨F', rfl, p', f', k'⟩
  replace HF := @hideH _ (fresh_go HF.out.1 HF.out.2 f' k')
  replace HP := @hideH _ (show Pn w4 g F' c18 a2 from p')
  clear p' f' k' F w3
  obtain ⟨F, rfl⟩ : ∃ F, F = F' := ⟨_, rfl⟩
  rw [HA.out.2.1]
  go_wp2_with fail
  refine (num_any _ _).mono ?_
  rintro e wb ⟨rfl, hwb⟩
  rw [hwb]
  clear hwb
  go_wp2_with fail
  refine (O.begin_ 3 _ (O.vkept HV.out HF.out.2 (by simp)) HP.out HSM.out.2.2.1 (by unfold I64; omega)).mono ?_
  rintro e w5 ⟨F', rfl, p', f', k'⟩
  replace HF := @hideH _ (fresh_go HF.out.1 HF.out.2 f' k')
  replace HP := @hideH _ (show Pn w5 g F' c18 a3 from p')
  clear p' f' k' F w4
  obtain ⟨F, rfl⟩ : ∃ F, F = F' := ⟨_, rfl⟩
  rw [HA.out.2.2.1]
  go_wp2_with fail
  refine (num_any _ _).mono ?_
  rintro e wb ⟨rfl, hwb⟩
  rw [hwb]
  clear hwb
  go_wp2_with fail
  refine (O.used _ (O.vkept HV.out HF.out.2 (by simp)) HP.out).mono ?_
  rintro e w6 ⟨rfl, k6⟩
  replace HF := @hideH _ (And.intro HF.out.1 (HF.out.2.then k6))
  replace HP := @hideH _ (O.kept HP.out k6 (by simp))
  clear k6 w5
  rw [HA.out.2.2.2.1, HA.out.2.2.2.2.1]
  go_wp2_with fail
  refine (O.get 3 8 _ (O.vkept HV.out HF.out.2 (by simp)) HP.out HSM.out.2.2.2.1 (by unfold I64; omega) (by unfold I64; omega)).mono ?_
  rintro e w7 ⟨F', rfl, p', f', k'⟩
  replace HF := @hideH _ (fresh_go HF.out.1 HF.out.2 f' k')
  replace HP := @hideH _ (show Pn w7 g F' c18 a4 from p')
  clear p' f' k' F w6
  obtain ⟨F, rfl⟩ : ∃ F, F = F' := ⟨_, rfl⟩
  rw [HA.out.2.2.2.2.2.1]
  go_wp2_with fail
  refine (num_any _ _).mono ?_
  rintro e wb ⟨rfl, hwb⟩
  rw [hwb]
  clear hwb
  go_wp2_with fail
  refine (O.commit 3 _ (O.vkept HV.out HF.out.2 (by simp)) HP.out HSM.out.2.2.2.2 (by unfold I64; omega)).mono ?_
  rintro e w8 ⟨F', rfl, p', f', k'⟩
  replace HF := @hideH _ (fresh_go HF.out.1 HF.out.2 f' k')
  replace HP := @hideH _ (show Pn w8 g F' c18 (comS a4 3) from p')
  clear p' f' k' F w7
  obtain ⟨F, rfl⟩ : ∃ F, F = F' := ⟨_, rfl⟩
  rw [HA.out.2.2.2.2.2.2]
  go_wp2_with fail
  refine (num_any _ _).mono ?_
  rintro e wb ⟨rfl, hwb⟩
  rw [hwb]
  clear hwb
  go_wp2
  go_ret
  exact ⟨rfl, HF.out.2⟩
end Go.Proofs.YtnjfahgmebmakaaGreatDoor

/-
  OWN WORK (by mkpnr.py). The law's does, rest, played (layer 18), for any State.
-/
namespace Go.Proofs.YtnjfahgmebmakaaGreatDoor
open Go.RowKit
set_option linter.unusedVariables false
set_option linter.unusedSimpArgs false

/-- the error that a step answers -/
def erS (c : Cf) (S : St) (o : OpR) : Int := if o.kind = 1 then begE c S o.id else if o.kind = 2 then (getA c S o.id o.key).2.2 else if o.kind = 3 then putE c S o.id o.key o.v else if o.kind = 4 then delE c S o.id o.key else if o.kind = 5 then endE S o.id else if o.kind = 6 then endE S o.id else if o.kind = 7 then chkE c S o.n else if o.kind = 8 then renE S else 0
theorem tmod_neg18 {n t : Int} (ht : 0 < t) : (n.tmod t < 0 → n.tmod t + t = n % t) ∧ (¬ n.tmod t < 0 → n.tmod t = n % t) ∧ -t < n.tmod t ∧ n.tmod t < t := by
  have h1 := Int.emod_nonneg n (show t ≠ 0 by omega)
  have h2 := Int.emod_lt_of_pos n ht
  have h3 : n.tmod t = if 0 ≤ n ∨ t ∣ n then n % t else n % t - t := by
    rw [Int.tmod_eq_emod]
    by_cases hc : 0 ≤ n ∨ t ∣ n
    · rw [if_pos hc, if_pos hc]; omega
    · rw [if_neg hc, if_neg hc]; omega
  split at h3
  · exact ⟨fun c => by omega, fun _ => h3, by omega, by omega⟩
  · rename_i hc
    have : n % t ≠ 0 := fun q => hc (.inr (Int.dvd_of_emod_eq_zero q))
    exact ⟨fun _ => by omega, fun c => by omega, by omega, by omega⟩
set_option maxRecDepth 20000 in
set_option maxHeartbeats 1600000 in
theorem rest_any (n t : Int) (w : World) (ht : 0 < t) (ht2 : t ≤ 2000000) : Calls Tryz.prog 20 #[.int .i64 n, .int .i64 t] w fun e w' => e = .returned (.int .i64 (n % t)) ∧ w' = w := by
  obtain ⟨h1, h2, h3, h4⟩ := tmod_neg18 (n := n) ht
  have wk : IntKind.i64.wrap (n.tmod t) = n.tmod t := wrap_i64_of (by omega) (by omega)
  have wk2 : IntKind.i64.wrap (n.tmod t + t) = n.tmod t + t := wrap_i64_of (by omega) (by omega)
  have t0 : (t == 0) = false := by simp; omega
  have t0' : ¬ t = 0 := by omega
  obtain ⟨q, hq⟩ : ∃ q, q = n % t := ⟨_, rfl⟩
  rw [← hq] at h1 h2 ⊢
  have HQ := @hideH _ (And.intro h1 h2)
  clear hq h1 h2 ht2
  by_cases c : n.tmod t < 0
  · have hc := HQ.out.1 c
    have HC := @hideH _ hc
    clear hc h3 h4
    go_enter Tryz.func20, Tryz.ntmps20
    go_wp2
    go_ret
    exact ⟨by rw [← HC.out]; rfl, rfl⟩
  · have hc := HQ.out.2 c
    have HC := @hideH _ hc
    clear hc h3 h4
    go_enter Tryz.func20, Tryz.ntmps20
    go_wp2
    go_ret
    exact ⟨by rw [← HC.out]; rfl, rfl⟩
variable {Ks : List Nat} {Vr : World → Prop} {Pn : World → Nat → List Nat → Cf → St → Prop} (O : PnOps Ks Vr Pn)
include O
set_option maxRecDepth 20000 in
set_option maxHeartbeats 6400000 in
theorem does_any {g : Nat} {F : List Nat} {c : Cf} {S : St} (o : OpR) (w : World) (hv : Vr w) (h : Pn w g F c S) (hs : small S) (ho : o.ok) : Calls Tryz.prog 30 #[.pointer (some ⟨g, 0, none⟩), o.v5] w fun e w' => e = .returned (.int .i64 (erS c S o)) ∧ ∃ F', Pn w' g F' c (stS c S o) ∧ Fr w F F' ∧ Kept F w w' := by
  show Calls Tryz.prog 30 #[.pointer (some ⟨g, 0, none⟩), .agg #[.int .i64 o.kind, .int .i64 o.id, .int .i64 o.key, .int .u64 o.v, .int .i64 o.n]] w _
  obtain ⟨w1, hw1⟩ : ∃ wx, wx = w.alloc (.cells #[.int .i64 o.kind, .int .i64 o.id, .int .i64 o.key, .int .u64 o.v, .int .i64 o.n] 66) := ⟨_, rfl⟩
  have k1 : Kept [] w w1 := by rw [hw1]; exact (Kept.refl [] w).alloc _
  have X1 : Blk w1 w.heap.size 66 [.int .i64 o.kind, .int .i64 o.id, .int .i64 o.key, .int .u64 o.v, .int .i64 o.n] := by rw [hw1]; exact Blk.new w _ _
  have y0 := X1.cell (j := 0) rfl
  have y1 := X1.cell (j := 1) rfl
  have y2 := X1.cell (j := 2) rfl
  have y3 := X1.cell (j := 3) rfl
  have y4 := X1.cell (j := 4) rfl
  have HV := @hideH _ (O.vkept hv k1 (by simp))
  have HP := @hideH _ (O.kept h k1 (by simp))
  have HK1 := @hideH _ k1
  have HSM := @hideH _ hs
  have HO := @hideH _ ho
  clear h hs ho k1 X1 hv
  go_enter Tryz.func30, Tryz.ntmps30
  go_upto_region 1 with fail
  rw [← hw1]
  clear hw1
  by_cases q1 : o.kind = 1
  · skip
    have q1' : (o.kind == 1) = true := by simpa using q1
    have HE := @hideH _ (show stS c S o = begS c S o.id ∧ erS c S o = begE c S o.id from ⟨by unfold stS;  rw [if_pos q1], by unfold erS;  rw [if_pos q1]⟩)
    clear q1
    go_wp2_with fail
    refine (O.begin_ o.id _ HV.out HP.out HSM.out HO.out.1).mono ?_
    rintro e w2 ⟨F', rfl, p', f', k'⟩
    have HFN := @hideH _ (And.intro p' (And.intro (f'.old HK1.out.size) ((HK1.out.mono (T := F) (by simp)).trans k' (fun y hy => .inl hy))))
    clear p' f' k' y0 y1 y2 y3 y4
    go_wp2_with fail
    refine (num_any _ _).mono ?_
    rintro e wb ⟨rfl, hwb⟩
    rw [hwb]
    clear hwb
    go_wp2
    go_ret
    exact ⟨by rw [HE.out.2]; first | done | rfl, F', by rw [HE.out.1]; exact HFN.out.1, HFN.out.2.1, HFN.out.2.2⟩
  have q1' : (o.kind == 1) = false := by simpa using q1
  by_cases q2 : o.kind = 2
  · skip
    have q2' : (o.kind == 2) = true := by simpa using q2
    have HE := @hideH _ (show stS c S o = getS c S o.id o.key ∧ erS c S o = (getA c S o.id o.key).2.2 from ⟨by unfold stS; rw [if_neg q1]; rw [if_pos q2], by unfold erS; rw [if_neg q1]; rw [if_pos q2]⟩)
    clear q1
    clear q2
    go_wp2_with fail
    refine (O.get o.id o.key _ HV.out HP.out HSM.out HO.out.1 HO.out.2.1).mono ?_
    rintro e w2 ⟨F', rfl, p', f', k'⟩
    have HFN := @hideH _ (And.intro p' (And.intro (f'.old HK1.out.size) ((HK1.out.mono (T := F) (by simp)).trans k' (fun y hy => .inl hy))))
    clear p' f' k' y0 y1 y2 y3 y4
    go_wp2_with fail
    refine (num_any _ _).mono ?_
    rintro e wb ⟨rfl, hwb⟩
    rw [hwb]
    clear hwb
    go_wp2
    go_ret
    exact ⟨by rw [HE.out.2]; first | done | rfl, F', by rw [HE.out.1]; exact HFN.out.1, HFN.out.2.1, HFN.out.2.2⟩
  have q2' : (o.kind == 2) = false := by simpa using q2
  by_cases q3 : o.kind = 3
  · skip
    have q3' : (o.kind == 3) = true := by simpa using q3
    have HE := @hideH _ (show stS c S o = putS c S o.id o.key o.v ∧ erS c S o = putE c S o.id o.key o.v from ⟨by unfold stS; rw [if_neg q1]; rw [if_neg q2]; rw [if_pos q3], by unfold erS; rw [if_neg q1]; rw [if_neg q2]; rw [if_pos q3]⟩)
    clear q1
    clear q2
    clear q3
    go_wp2_with fail
    refine (O.put o.id o.key o.v _ HV.out HP.out HSM.out HO.out.1 HO.out.2.1 HO.out.2.2.1).mono ?_
    rintro e w2 ⟨F', rfl, p', f', k'⟩
    have HFN := @hideH _ (And.intro p' (And.intro (f'.old HK1.out.size) ((HK1.out.mono (T := F) (by simp)).trans k' (fun y hy => .inl hy))))
    clear p' f' k' y0 y1 y2 y3 y4
    go_wp2_with fail
    refine (num_any _ _).mono ?_
    rintro e wb ⟨rfl, hwb⟩
    rw [hwb]
    clear hwb
    go_wp2
    go_ret
    exact ⟨by rw [HE.out.2]; first | done | rfl, F', by rw [HE.out.1]; exact HFN.out.1, HFN.out.2.1, HFN.out.2.2⟩
  have q3' : (o.kind == 3) = false := by simpa using q3
  by_cases q4 : o.kind = 4
  · skip
    have q4' : (o.kind == 4) = true := by simpa using q4
    have HE := @hideH _ (show stS c S o = delS c S o.id o.key ∧ erS c S o = delE c S o.id o.key from ⟨by unfold stS; rw [if_neg q1]; rw [if_neg q2]; rw [if_neg q3]; rw [if_pos q4], by unfold erS; rw [if_neg q1]; rw [if_neg q2]; rw [if_neg q3]; rw [if_pos q4]⟩)
    clear q1
    clear q2
    clear q3
    clear q4
    go_wp2_with fail
    refine (O.delete o.id o.key _ HV.out HP.out HSM.out HO.out.1 HO.out.2.1).mono ?_
    rintro e w2 ⟨F', rfl, p', f', k'⟩
    have HFN := @hideH _ (And.intro p' (And.intro (f'.old HK1.out.size) ((HK1.out.mono (T := F) (by simp)).trans k' (fun y hy => .inl hy))))
    clear p' f' k' y0 y1 y2 y3 y4
    go_wp2_with fail
    refine (num_any _ _).mono ?_
    rintro e wb ⟨rfl, hwb⟩
    rw [hwb]
    clear hwb
    go_wp2
    go_ret
    exact ⟨by rw [HE.out.2]; first | done | rfl, F', by rw [HE.out.1]; exact HFN.out.1, HFN.out.2.1, HFN.out.2.2⟩
  have q4' : (o.kind == 4) = false := by simpa using q4
  by_cases q5 : o.kind = 5
  · skip
    have q5' : (o.kind == 5) = true := by simpa using q5
    have HE := @hideH _ (show stS c S o = comS S o.id ∧ erS c S o = endE S o.id from ⟨by unfold stS; rw [if_neg q1]; rw [if_neg q2]; rw [if_neg q3]; rw [if_neg q4]; rw [if_pos q5], by unfold erS; rw [if_neg q1]; rw [if_neg q2]; rw [if_neg q3]; rw [if_neg q4]; rw [if_pos q5]⟩)
    clear q1
    clear q2
    clear q3
    clear q4
    clear q5
    go_wp2_with fail
    refine (O.commit o.id _ HV.out HP.out HSM.out HO.out.1).mono ?_
    rintro e w2 ⟨F', rfl, p', f', k'⟩
    have HFN := @hideH _ (And.intro p' (And.intro (f'.old HK1.out.size) ((HK1.out.mono (T := F) (by simp)).trans k' (fun y hy => .inl hy))))
    clear p' f' k' y0 y1 y2 y3 y4
    go_wp2_with fail
    refine (num_any _ _).mono ?_
    rintro e wb ⟨rfl, hwb⟩
    rw [hwb]
    clear hwb
    go_wp2
    go_ret
    exact ⟨by rw [HE.out.2]; first | done | rfl, F', by rw [HE.out.1]; exact HFN.out.1, HFN.out.2.1, HFN.out.2.2⟩
  have q5' : (o.kind == 5) = false := by simpa using q5
  by_cases q6 : o.kind = 6
  · skip
    have q6' : (o.kind == 6) = true := by simpa using q6
    have HE := @hideH _ (show stS c S o = aboS S o.id ∧ erS c S o = endE S o.id from ⟨by unfold stS; rw [if_neg q1]; rw [if_neg q2]; rw [if_neg q3]; rw [if_neg q4]; rw [if_neg q5]; rw [if_pos q6], by unfold erS; rw [if_neg q1]; rw [if_neg q2]; rw [if_neg q3]; rw [if_neg q4]; rw [if_neg q5]; rw [if_pos q6]⟩)
    clear q1
    clear q2
    clear q3
    clear q4
    clear q5
    clear q6
    go_wp2_with fail
    refine (O.abort o.id _ HV.out HP.out HSM.out HO.out.1).mono ?_
    rintro e w2 ⟨F', rfl, p', f', k'⟩
    have HFN := @hideH _ (And.intro p' (And.intro (f'.old HK1.out.size) ((HK1.out.mono (T := F) (by simp)).trans k' (fun y hy => .inl hy))))
    clear p' f' k' y0 y1 y2 y3 y4
    go_wp2_with fail
    refine (num_any _ _).mono ?_
    rintro e wb ⟨rfl, hwb⟩
    rw [hwb]
    clear hwb
    go_wp2
    go_ret
    exact ⟨by rw [HE.out.2]; first | done | rfl, F', by rw [HE.out.1]; exact HFN.out.1, HFN.out.2.1, HFN.out.2.2⟩
  have q6' : (o.kind == 6) = false := by simpa using q6
  by_cases q7 : o.kind = 7
  · skip
    have q7' : (o.kind == 7) = true := by simpa using q7
    have HE := @hideH _ (show stS c S o = chkS c S o.n ∧ erS c S o = chkE c S o.n from ⟨by unfold stS; rw [if_neg q1]; rw [if_neg q2]; rw [if_neg q3]; rw [if_neg q4]; rw [if_neg q5]; rw [if_neg q6]; rw [if_pos q7], by unfold erS; rw [if_neg q1]; rw [if_neg q2]; rw [if_neg q3]; rw [if_neg q4]; rw [if_neg q5]; rw [if_neg q6]; rw [if_pos q7]⟩)
    clear q1
    clear q2
    clear q3
    clear q4
    clear q5
    clear q6
    clear q7
    go_wp2_with fail
    refine (O.check o.n _ HV.out HP.out HSM.out HO.out.2.2.2).mono ?_
    rintro e w2 ⟨F', rfl, p', f', k'⟩
    have HFN := @hideH _ (And.intro p' (And.intro (f'.old HK1.out.size) ((HK1.out.mono (T := F) (by simp)).trans k' (fun y hy => .inl hy))))
    clear p' f' k' y0 y1 y2 y3 y4
    go_wp2_with fail
    refine (num_any _ _).mono ?_
    rintro e wb ⟨rfl, hwb⟩
    rw [hwb]
    clear hwb
    go_wp2
    go_ret
    exact ⟨by rw [HE.out.2]; first | done | rfl, F', by rw [HE.out.1]; exact HFN.out.1, HFN.out.2.1, HFN.out.2.2⟩
  have q7' : (o.kind == 7) = false := by simpa using q7
  by_cases q8 : o.kind = 8
  · skip
    have q8' : (o.kind == 8) = true := by simpa using q8
    have HE := @hideH _ (show stS c S o = renS S ∧ erS c S o = renE S from ⟨by unfold stS; rw [if_neg q1]; rw [if_neg q2]; rw [if_neg q3]; rw [if_neg q4]; rw [if_neg q5]; rw [if_neg q6]; rw [if_neg q7]; rw [if_pos q8], by unfold erS; rw [if_neg q1]; rw [if_neg q2]; rw [if_neg q3]; rw [if_neg q4]; rw [if_neg q5]; rw [if_neg q6]; rw [if_neg q7]; rw [if_pos q8]⟩)
    clear q1
    clear q2
    clear q3
    clear q4
    clear q5
    clear q6
    clear q7
    clear q8
    go_wp2_with fail
    refine (O.renew _ HV.out HP.out HSM.out).mono ?_
    rintro e w2 ⟨F', rfl, p', f', k'⟩
    have HFN := @hideH _ (And.intro p' (And.intro (f'.old HK1.out.size) ((HK1.out.mono (T := F) (by simp)).trans k' (fun y hy => .inl hy))))
    clear p' f' k' y0 y1 y2 y3 y4
    go_wp2_with fail
    refine (num_any _ _).mono ?_
    rintro e wb ⟨rfl, hwb⟩
    rw [hwb]
    clear hwb
    go_wp2
    go_ret
    exact ⟨by rw [HE.out.2]; first | done | rfl, F', by rw [HE.out.1]; exact HFN.out.1, HFN.out.2.1, HFN.out.2.2⟩
  have q8' : (o.kind == 8) = false := by simpa using q8
  have HE := @hideH _ (show stS c S o = S ∧ erS c S o = 0 from ⟨by unfold stS; rw [if_neg q1]; rw [if_neg q2]; rw [if_neg q3]; rw [if_neg q4]; rw [if_neg q5]; rw [if_neg q6]; rw [if_neg q7]; rw [if_neg q8], by unfold erS; rw [if_neg q1]; rw [if_neg q2]; rw [if_neg q3]; rw [if_neg q4]; rw [if_neg q5]; rw [if_neg q6]; rw [if_neg q7]; rw [if_neg q8]⟩)
  clear q1 q2 q3 q4 q5 q6 q7 q8
  go_wp2
  go_ret
  exact ⟨by rw [HE.out.2]; first | done | rfl, F, by rw [HE.out.1]; exact HP.out, Fr.refl _ _, HK1.out.mono (by simp)⟩
end Go.Proofs.YtnjfahgmebmakaaGreatDoor

