import Derived.Recover
import Derived.Test.YtebcmcmboomgfaaC4
/-
  OWN WORK (by mkrec6.py). The document's records (tidemarkref09): the tape: row.
-/
namespace Go.Proofs.Ytebcmcmboomgfaa
open Go.RowKit
set_option linter.unusedVariables false
set_option linter.unusedSimpArgs false

/-- what row answers -/
def TookRow (g n at' : Nat) (tv : Value) (l : List UInt8) (bad : Bool) (w : World) (e : Ending) (w' : World) : Prop := ∃ (u : Value) (x : List UInt8) (n2 : Nat) (b2 : Bool), e = .returned u ∧ Tp w' g tv l n2 b2 ∧ w'.ownsRow w.heap.size 5 1 u x.length (u8s x) ∧ Kept [g] w w' ∧ Hid ((raw n (l.drop at') = some (x, l.drop n2) ∧ b2 = bad) ∨ (raw n (l.drop at') = none ∧ x = [] ∧ b2 = true))
theorem TookRow.of {g n at' : Nat} {tv : Value} {l : List UInt8} {bad : Bool} {w : World} {e : Ending} {w' : World} (u : Value) (x : List UInt8) (n2 : Nat) (b2 : Bool) (h1 : e = .returned u) (h2 : Tp w' g tv l n2 b2) (h5 : w'.ownsRow w.heap.size 5 1 u x.length (u8s x)) (h3 : Kept [g] w w') (h4 : (raw n (l.drop at') = some (x, l.drop n2) ∧ b2 = bad) ∨ (raw n (l.drop at') = none ∧ x = [] ∧ b2 = true)) : TookRow g n at' tv l bad w e w' := ⟨u, x, n2, b2, h1, h2, h5, h3, h4⟩
set_option maxRecDepth 20000 in
set_option maxHeartbeats 6400000 in
theorem rTRow (g n at' : Nat) (tv : Value) (l : List UInt8) (bad : Bool) (w : World) (h : Tp w g tv l at' bad) (hn : n ≤ 100000) :
    Calls Try.prog 38 #[.pointer (some ⟨g, 0, none⟩), .int .i64 (n : Int)] w (TookRow g n at' tv l bad w) := by
  haveI HNE : ∀ w2, Nonempty (Calm w2) := calmNe
  obtain ⟨p, c, rfl, -⟩ := id h.2.1
  have HT := @hideH _ h
  obtain ⟨bT, bs, hat, hne⟩ := h
  have HBT := @hideH _ bT
  have hmx : l.length ≤ maxLen := by obtain ⟨_, _, e, h1, h2, _⟩ := bs; cases e; exact Nat.le_trans h1 h2
  have HMX := @hideH _ hmx
  have HN := @hideH _ hn
  have HAT := @hideH _ hat
  have HBS := @hideH _ bs
  have c0 := bT.cell (j := 0) rfl
  have c1 := bT.cell (j := 1) rfl
  have wl : IntKind.i64.wrap ((l.length : Int) - (at' : Int)) = ((l.length - at' : Nat) : Int) := by rw [show (l.length : Int) - (at' : Int) = ((l.length - at' : Nat) : Int) by omega]; exact wrap_i64_of (by omega) (by unfold maxLen at hmx; omega)
  clear bT bs hne hmx hn hat
  by_cases hs : l.length - at' < n
  · have hs' : ((l.length - at' : Nat) : Int) < (n : Int) := by omega
    have hnum := @hideH _ (show raw n (l.drop at') = none by unfold raw; rw [if_pos (by rw [List.length_drop]; exact hs)])
    go_enter Try.func38, Try.ntmps38
    go_upto_region 1 with fail
    have s_c0 := fun (s : Calm w) => s.kept.cell c0 (by simp)
    have s_c1 := fun (s : Calm w) => s.kept.cell c1 (by simp)
    clear c0 c1
    have KR := @hideH _ (Kept.refl [] w)
    refine wp_region_calm KR.out (by kernel_rfl) (by kernel_rfl) ?_
    repeat (go_big_quiet_step (fail))
    refine wpQuiet_nil ?_
    intro _ hw'
    obtain ⟨sq, hw''⟩ := hw'
    subst hw''
    have ks := sq.kept
    generalize sq.at = wx at ks ⊢
    clear sq
    clear KR s_c0 s_c1
    have fx := (HBT.out.kept ks (by simp)).free 2
    have cx := (HBT.out.kept ks (by simp)).cell (j := 2) rfl
    have FIN := @hideH _ (HT.out.kept ks).spoil
    have KS := @hideH _ ks
    clear ks wl
    go_wp2
    go_ret
    exact TookRow.of (.slice none 0 0) [] at' true rfl FIN.out.1 (by simpa [u8s] using World.ownsRow_nil _ w.heap.size 5 1) ((KS.out.mono (by simp)).trans FIN.out.2 (fun x hx => .inl hx)) (.inr ⟨hnum.out, rfl, rfl⟩)
  · have hs' : ¬ ((l.length - at' : Nat) : Int) < (n : Int) := by omega
    have HS := @hideH _ (show at' + n ≤ l.length by have := HAT.out; omega)
    go_enter Try.func38, Try.ntmps38
    go_upto_region 1 with fail
    have s_c0 := fun (s : Calm w) => s.kept.cell c0 (by simp)
    have s_c1 := fun (s : Calm w) => s.kept.cell c1 (by simp)
    clear c0 c1
    have KR := @hideH _ (Kept.refl [] w)
    refine wp_region_calm KR.out (by kernel_rfl) (by kernel_rfl) ?_
    repeat (go_big_quiet_step (fail))
    refine wpQuiet_nil ?_
    intro _ hw'
    obtain ⟨sq, hw''⟩ := hw'
    subst hw''
    have ks := sq.kept
    generalize sq.at = wx at ks ⊢
    clear sq
    clear KR s_c0 s_c1
    have KS := @hideH _ ks
    have c0 := ks.cell (HBT.out.cell (j := 0) rfl) (by simp)
    have c1 := ks.cell (HBT.out.cell (j := 1) rfl) (by simp)
    obtain ⟨p2, hcut, hmid⟩ := (HBS.out.kept ks).mid (P := Try.prog) 22 5 Try.underlying22 (by kernel_rfl) at' n HS.out
    have wa : IntKind.i64.wrap ((at' : Int) + (n : Int)) = (at' : Int) + (n : Int) := wrap_i64_of (by omega) (by have e1 := HMX.out; have e2 := HS.out; unfold maxLen at e1; omega)
    obtain ⟨X, hX⟩ : ∃ X, X = (l.drop at').take n := ⟨_, rfl⟩
    have HX := @hideH _ (show X = (l.drop at').take n ∧ X.length = n by refine ⟨hX, ?_⟩; rw [hX, List.length_take, List.length_drop]; have := HS.out; omega)
    rw [← hX] at hmid
    have hcap := @hideH _ (show 0 + X.length ≤ 140737488355328 by rw [HX.out.2]; have := HN.out; omega)
    have kx : Kept [] wx wx.drew := (Kept.refl [] wx).drew
    have HM := @hideH _ hmid
    clear ks wl hX hmid
    go_upto_region 5 with fail
    go_region_held3 (fun w' => w'.cell? ⟨g, 0, none⟩ = some (.slice p l.length c) ∧ w'.cell? ⟨g, 1, none⟩ = some (.int .i64 (at' : Int)))
      (first | (with_reducible exact ⟨kx.cell c0 (by simp), kx.cell c1 (by simp)⟩) | fail)
      (first | (refine step_append_bs (by rfl) (.tmp 21) (.tmp 36) 22 (by rfl) wx.heap.size 5 Try.underlying22 (by kernel_rfl) (.slice none 0 0) 0 [] (by rfl) (World.ownsRow_nil _ _ _ _) (.slice p2 n (c - at')) X (by rfl) (HM.out.kept kx) hcap.out kx.size ?_; intro v5 w5 o5 g5 at5; replace kx : Kept [] wx w5 := kx.grown g5 (fun x hx => by simp [Value.ownBlock] at hx)) | fail)
    rw [Nat.zero_add, List.nil_append] at o5
    have K5 := @hideH _ (KS.out.then kx)
    have ecast : ((at' + n : Nat) : Int) = (at' : Int) + (n : Int) := by omega
    obtain ⟨hT1, hK1⟩ := (HT.out.kept K5.out).set (at' + n) HS.out
    rw [ecast] at hT1 hK1
    have hgl := HBT.out.lt
    have o6 := own_of_kept o5 hK1 (fun x hx hm => by simp at hm; have e1 := own_ge o5 x hx; have e2 := KS.out.size; omega)
    have HT1 := @hideH _ hT1
    have HK1 := @hideH _ ((K5.out.mono (by simp)).trans hK1 (fun x hx => .inl hx))
    have HO := @hideH _ o6
    have FIN := @hideH _ (show raw n (l.drop at') = some (X, l.drop (at' + n)) by unfold raw; rw [if_neg (by rw [List.length_drop]; have := HS.out; omega), ← HX.out.1, List.drop_drop])
    have d0 := (HBT.out.kept K5.out (by simp)).cell (j := 1) rfl
    have d1 := (HBT.out.kept K5.out (by simp)).free 1
    obtain ⟨p5, q5, rfl⟩ := own_shape2 o5
    have HSZ := @hideH _ (show w.heap.size ≤ wx.heap.size from KS.out.size)
    clear hT1 hK1 o5 o6 g5 at5 kx c0 c1 ecast hgl HM hcut
    go_wp2
    go_ret
    exact TookRow.of _ X (at' + n) bad rfl HT1.out (own_baseK HO.out HSZ.out) HK1.out (.inl ⟨FIN.out, rfl⟩)
end Go.Proofs.Ytebcmcmboomgfaa

/-
  OWN WORK. The document's records (tidemarkref09): the state of Parse.
-/
namespace Go.Proofs.Ytebcmcmboomgfaa
open Go.RowKit
set_option linter.unusedVariables false
set_option linter.unusedSimpArgs false

/-- what is still to be read gives the whole; or it is spoilt, and there is no record -/
def Pg (l : List UInt8) (F : Ps Rcd) (n : Nat) (bad : Bool) : Prop := (bad = false ∧ pAll l = F (l.drop n)) ∨ (bad = true ∧ pAll l = none)
theorem Pg.start (l : List UInt8) : Pg l pAll 0 false := .inl ⟨rfl, rfl⟩
theorem Pg.num {l : List UInt8} {k n n2 v : Nat} {bad b2 : Bool} {G : Nat → Ps Rcd} (h : Pg l ((num k).bind G) n bad) (t : (num k (l.drop n) = some (v, l.drop n2) ∧ b2 = bad) ∨ (num k (l.drop n) = none ∧ v = 0 ∧ b2 = true)) : Pg l (G v) n2 b2 := by
  rcases t with ⟨t, rfl⟩ | ⟨t, -, rfl⟩
  · rcases h with ⟨h1, h2⟩ | h
    · exact .inl ⟨h1, by rw [h2, Ps.bind_of t]⟩
    · exact .inr h
  · refine .inr ⟨rfl, ?_⟩
    rcases h with ⟨h1, h2⟩ | h
    · rw [h2]; unfold Ps.bind; rw [t]
    · exact h.2
theorem Pg.raw {l x : List UInt8} {k n n2 : Nat} {bad b2 : Bool} {G : List UInt8 → Ps Rcd} (h : Pg l ((raw k).bind G) n bad) (t : (raw k (l.drop n) = some (x, l.drop n2) ∧ b2 = bad) ∨ (raw k (l.drop n) = none ∧ x = [] ∧ b2 = true)) : Pg l (G x) n2 b2 := by
  rcases t with ⟨t, rfl⟩ | ⟨t, -, rfl⟩
  · rcases h with ⟨h1, h2⟩ | h
    · exact .inl ⟨h1, by rw [h2, Ps.bind_of t]⟩
    · exact .inr h
  · refine .inr ⟨rfl, ?_⟩
    rcases h with ⟨h1, h2⟩ | h
    · rw [h2]; unfold Ps.bind; rw [t]
    · exact h.2
theorem Pg.bad {l : List UInt8} {F : Ps Rcd} {n : Nat} (h : Pg l F n true) : parseR l = none := by
  rcases h with ⟨h, -⟩ | ⟨-, h⟩
  · cases h
  · unfold parseR; rw [h]
theorem Pg.short {l : List UInt8} {r : Rcd} {n : Nat} {bad : Bool} (h : Pg l (Ps.ret r) n bad) (hn : n ≠ l.length) (hl : n ≤ l.length) : parseR l = none := by
  rcases h with ⟨-, h⟩ | ⟨-, h⟩
  · unfold parseR
    rw [h]
    unfold Ps.ret
    cases e : l.drop n with
    | nil => have := List.drop_eq_nil_iff.1 e; omega
    | cons a t => rfl
  · unfold parseR; rw [h]
theorem Pg.wrong {l : List UInt8} {r : Rcd} {n : Nat} {bad : Bool} (h : Pg l (Ps.ret r) n bad) (hr : ¬ r.Right) : parseR l = none := by
  rcases h with ⟨-, h⟩ | ⟨-, h⟩
  · unfold parseR
    rw [h]
    unfold Ps.ret
    cases e : l.drop n with
    | nil => simp [hr]
    | cons a t => rfl
  · unfold parseR; rw [h]
theorem Pg.done {l : List UInt8} {r : Rcd} {n : Nat} (h : Pg l (Ps.ret r) n false) (hn : n = l.length) (hr : r.Right) : parseR l = some r := by
  rcases h with ⟨-, h⟩ | ⟨h, -⟩
  · unfold parseR
    rw [h, hn, List.drop_length]
    unfold Ps.ret
    simp [hr]
  · cases h
theorem took_small {k n n2 v : Nat} {l : List UInt8} {bad b2 : Bool} (t : (num k (l.drop n) = some (v, l.drop n2) ∧ b2 = bad) ∨ (num k (l.drop n) = none ∧ v = 0 ∧ b2 = true)) : v ≤ topLsn ∧ v < 256 ^ k := by
  rcases t with ⟨t, -⟩ | ⟨-, rfl, -⟩
  · exact (num_some t).2
  · exact ⟨Nat.zero_le _, Nat.pow_pos (by omega)⟩
def zero11 : List Value := [.int .i64 0, .int .i64 0, .int .i64 0, .int .i64 0, .int .i64 0, .int .i64 0, .slice none 0 0, .slice none 0 0, .int .i64 0, .slice none 0 0, .slice none 0 0]
/-- Parse's tape (block g), record (block R) and result (block A) -/
structure PS (w wz : World) (g R A : Nat) (tv : Value) (l : List UInt8) (n : Nat) (bad : Bool) (cs : List Value) : Prop where
  tape : Tp wz g tv l n bad
  rcd : Blk wz R 26 cs
  res : Blk wz A 26 zero11
  kept : Kept [] w wz
  low : w.heap.size ≤ g ∧ w.heap.size ≤ R ∧ w.heap.size ≤ A
  ne : g ≠ R ∧ g ≠ A ∧ R ≠ A
  bs : Bs w tv l
theorem PS.took {w wz w' : World} {g R A n n2 : Nat} {tv : Value} {l : List UInt8} {bad b2 : Bool} {cs : List Value} (h : PS w wz g R A tv l n bad cs) (t : Tp w' g tv l n2 b2) (k : Kept [g] wz w') : PS w w' g R A tv l n2 b2 cs :=
  ⟨t, h.rcd.kept k (by simpa using fun e => h.ne.1 e.symm), h.res.kept k (by simpa using fun e => h.ne.2.1 e.symm), h.kept.trans k (fun x hx => .inr (by simp at hx; rw [hx]; exact h.low.1)), h.low, h.ne, h.bs⟩
theorem PS.set {w wz : World} {g R A n : Nat} {tv : Value} {l : List UInt8} {bad : Bool} {cs : List Value} (h : PS w wz g R A tv l n bad cs) (j : Nat) (v : Value) : PS w (wz.setCell ⟨R, j, none⟩ v) g R A tv l n bad (cs.set j v) := by
  obtain ⟨b, k⟩ := h.rcd.set j v
  have k0 : Kept [] w (wz.setCell ⟨R, j, none⟩ v) := h.kept.trans k (fun x hx => .inr (by simp at hx; rw [hx]; exact h.low.2.1))
  obtain ⟨t1, t2, t3, t4⟩ := h.tape
  exact ⟨⟨t1.kept k (by simpa using h.ne.1), h.bs.kept k0, t3, t4⟩, b, h.res.kept k (by simpa using fun e => h.ne.2.2 e.symm), k0, h.low, h.ne, h.bs⟩
theorem PS.then {w wz w' : World} {g R A n : Nat} {tv : Value} {l : List UInt8} {bad : Bool} {cs : List Value} (h : PS w wz g R A tv l n bad cs) (k : Kept [] wz w') : PS w w' g R A tv l n bad cs :=
  ⟨h.tape.kept k, h.rcd.kept k (by simp), h.res.kept k (by simp), h.kept.then k, h.low, h.ne, h.bs⟩
end Go.Proofs.Ytebcmcmboomgfaa

/-
  OWN WORK. The document's records (tidemarkref09): the state of Parse, of a checkpoint's lists.
-/
namespace Go.Proofs.Ytebcmcmboomgfaa
open Go.RowKit
set_option linter.unusedVariables false
set_option linter.unusedSimpArgs false

theorem Ps.bind_assoc {α β γ : Type} (p : Ps α) (f : α → Ps β) (h : β → Ps γ) : (p.bind f).bind h = p.bind fun a => (f a).bind h := by
  funext l
  unfold Ps.bind
  cases p l with
  | none => rfl
  | some x => rfl
theorem Ps.ret_bind {α β : Type} (a : α) (f : α → Ps β) : (Ps.ret a).bind f = f a := rfl
theorem many_row {β : Type} (m : Nat) (F : List RowR → Ps β) : (many pRow (m + 1)).bind F = (num 8).bind fun b => (num 1).bind fun i => (num 1).bind fun s => (num 8).bind fun l => (num 8).bind fun n => (many pRow m).bind fun more => F (⟨b, i, s, l, n⟩ :: more) := by
  show ((pRow.bind fun a => (many pRow m).bind fun xs => Ps.ret (a :: xs)).bind F) = _
  unfold pRow
  simp only [Ps.bind_assoc, Ps.ret_bind]
theorem many_rec {β : Type} (m : Nat) (F : List RecR → Ps β) : (many pRec (m + 1)).bind F = (num 1).bind fun p => (num 8).bind fun l => (many pRec m).bind fun more => F (⟨p, l⟩ :: more) := by
  show ((pRec.bind fun a => (many pRec m).bind fun xs => Ps.ret (a :: xs)).bind F) = _
  unfold pRec
  simp only [Ps.bind_assoc, Ps.ret_bind]
/-- another block is written -/
theorem PS.other {w wz w' : World} {g R A n X : Nat} {tv : Value} {l : List UInt8} {bad : Bool} {cs : List Value} (h : PS w wz g R A tv l n bad cs) (k : Kept [X] wz w') (h1 : X ≠ g ∧ X ≠ R ∧ X ≠ A) (h2 : w.heap.size ≤ X) : PS w w' g R A tv l n bad cs := by
  have k0 : Kept [] w w' := h.kept.trans k (fun x hx => .inr (by simp at hx; rw [hx]; exact h2))
  obtain ⟨t1, t2, t3, t4⟩ := h.tape
  exact ⟨⟨t1.kept k (by simpa using fun e => h1.1 e.symm), h.bs.kept k0, t3, t4⟩, h.rcd.kept k (by simpa using fun e => h1.2.1 e.symm), h.res.kept k (by simpa using fun e => h1.2.2 e.symm), k0, h.low, h.ne, h.bs⟩
theorem src_row {P : Program} (w : World) (t e : TypeId) (ht : P.underlying t = some (.slice e)) (x : RowR) : Src P 5 t (.slice (some ⟨w.heap.size, 0, none⟩) 1 1) 1 (rcells [x]) (w.alloc (.cells #[.int .i64 x.birth, .int .i64 x.id, .int .i64 x.state, .int .i64 x.last, .int .i64 x.next] e)) := by
  refine Src.ofSlice _ ht _ _ _ _ rfl (fun j u hj => ?_) (rcells_one _)
  rw [add_none rfl]
  have hlt := (List.getElem?_eq_some_iff.1 hj).1
  rcases j with _ | _ | _ | _ | _ | j
  · simp [rcells] at hj; subst hj; simp [go_sem]
  · simp [rcells] at hj; subst hj; simp [go_sem]
  · simp [rcells] at hj; subst hj; simp [go_sem]
  · simp [rcells] at hj; subst hj; simp [go_sem]
  · simp [rcells] at hj; subst hj; simp [go_sem]
  · simp [rcells] at hlt; omega
theorem src_rec {P : Program} (w : World) (t e : TypeId) (ht : P.underlying t = some (.slice e)) (x : RecR) : Src P 2 t (.slice (some ⟨w.heap.size, 0, none⟩) 1 1) 1 (dcells [x]) (w.alloc (.cells #[.int .i64 x.page, .int .i64 x.lsn] e)) := by
  refine Src.ofSlice _ ht _ _ _ _ rfl (fun j u hj => ?_) (dcells_one _)
  rw [add_none rfl]
  have hlt := (List.getElem?_eq_some_iff.1 hj).1
  rcases j with _ | _ | j
  · simp [dcells] at hj; subst hj; simp [go_sem]
  · simp [dcells] at hj; subst hj; simp [go_sem]
  · simp [dcells] at hlt; omega
end Go.Proofs.Ytebcmcmboomgfaa

/-
  OWN WORK. record's Parse: what stands in memory while it reads.
-/
namespace Go.Proofs.Ytebcmcmboomgfaa
open Go.RowKit
set_option linter.unusedVariables false
set_option linter.unusedSimpArgs false

/-- no byte lies in block k -/
def NoB (w : World) (k : Nat) : Prop := ∀ a : Addr, a.block = k → ∀ x : Int, w.cell? a ≠ some (.int .u8 x)
def plain8 (cs : List Value) : Prop := ∀ c ∈ cs, ∀ x : Int, c ≠ .int .u8 x
theorem plain8.set {cs : List Value} (h : plain8 cs) (j : Nat) {v : Value} (hv : ∀ x : Int, v ≠ .int .u8 x) : plain8 (cs.set j v) := fun c hc x e => by
  rcases List.mem_or_eq_of_mem_set hc with q | q
  · exact h c q x e
  · exact hv x (q ▸ e)
theorem Blk.noB {w : World} {g : Nat} {t : TypeId} {cs : List Value} (h : Blk w g t cs) (hp : plain8 cs) : NoB w g := by
  intro a ha x hx
  subst ha
  have h' : w.heap[a.block]? = some (.cells cs.toArray t (0, 0)) := h
  simp only [World.cell?, h'] at hx
  split at hx
  · cases hx
  · rw [List.getElem?_toArray] at hx
    exact hp _ (List.mem_of_getElem? hx) x rfl
theorem Bs.keptNo {w w' : World} {v : Value} {l : List UInt8} {S : List Nat} (h : Bs w v l) (k : Kept S w w') (hS : ∀ x ∈ S, NoB w x ∨ w.heap.size ≤ x) : Bs w' v l := h.carry fun a x hx _ => k.cell hx fun hm => by
  rcases hS _ hm with hb | hb
  · exact hb a rfl _ hx
  · have := lt_of_cell hx; omega
theorem RdL.keptNo {bb : Nat} {w w' : World} {g : Nat} {l : List UInt8} {S : List Nat} (h : RdL bb w g l) (k : Kept S w w') (hS : ∀ x ∈ S, x ≠ g ∧ (NoB w x ∨ bb ≤ x)) : RdL bb w' g l := by
  have hl := h.rd.lt
  obtain ⟨p, n, c, h1, h2, h3⟩ := h
  refine ⟨p, n, c, (k.block g hl (fun hm => (hS g hm).1 rfl)).trans h1, h2.carry fun a x hx hb => k.cell hx fun hm => ?_, h3⟩
  rcases (hS _ hm).2 with q | q
  · exact q a rfl _ hx
  · have := h3 a.block hb; omega
/-- the reader g with l left; the record's block R; the source's box B -/
structure TS (bb : Nat) (w0 w : World) (g R B : Nat) (l : List UInt8) (cs : List Value) : Prop where
  rd : Rs bb w g l
  blk : Blk w R 26 cs
  p8 : plain8 cs
  ne : g ≠ R
  box : Blk w B 64 [.pointer (some ⟨g, 0, none⟩)]
  bne : B ≠ g ∧ B ≠ R
  kept : Kept [g, R] w0 w
theorem TS.start {bb : Nat} {w : World} {g R : Nat} {l : List UInt8} {cs : List Value} (hr : Rs bb w g l) (hb : Blk w R 26 cs) (p8 : plain8 cs) (hne : g ≠ R) : TS bb w (w.alloc (.cells #[.pointer (some ⟨g, 0, none⟩)] 64)) g R w.heap.size l cs :=
  ⟨hr.alloc _, hb.kept ((Kept.refl [] w).alloc _) (by simp), p8, hne, Blk.new w _ _, ⟨by have := hr.rd.lt; omega, by have := hb.lt; omega⟩, (Kept.refl _ w).alloc _⟩
theorem TS.took {bb : Nat} {w0 w w' : World} {g R B : Nat} {l r : List UInt8} {cs : List Value} (h : TS bb w0 w g R B l cs) (hr : Rs bb w' g r) (k : Kept [g] w w') : TS bb w0 w' g R B r cs :=
  ⟨hr, h.blk.kept k (by simp; exact fun e => h.ne e.symm), h.p8, h.ne, h.box.kept k (by simp; exact h.bne.1), h.bne, h.kept.trans k (fun x hx => .inl (by simp at hx ⊢; exact .inl hx))⟩
theorem TS.both {bb : Nat} {w0 w w' : World} {g R B : Nat} {l r : List UInt8} {cs cs' : List Value} (h : TS bb w0 w g R B l cs) (hr : Rs bb w' g r) (hb : Blk w' R 26 cs') (hp : plain8 cs') (k : Kept [g, R] w w') : TS bb w0 w' g R B r cs' :=
  ⟨hr, hb, hp, h.ne, h.box.kept k (by simp; exact ⟨h.bne.1, h.bne.2⟩), h.bne, h.kept.trans k (fun x hx => .inl hx)⟩
theorem TS.set {bb : Nat} {w0 w : World} {g R B : Nat} {l : List UInt8} {cs : List Value} (h : TS bb w0 w g R B l cs) (j : Nat) (v : Value) (hv : ∀ x : Int, v ≠ .int .u8 x) : TS bb w0 (w.setCell ⟨R, j, none⟩ v) g R B l (cs.set j v) := by
  obtain ⟨hb, k⟩ := h.blk.set j v
  exact ⟨h.rd.keptNo k (by simp; exact ⟨fun e => h.ne e.symm, .inl (h.blk.noB h.p8)⟩), hb, h.p8.set j hv, h.ne, h.box.kept k (by simp; exact h.bne.2), h.bne, h.kept.trans k (fun x hx => .inl (by simp at hx ⊢; exact .inr hx))⟩
theorem TS.then {bb : Nat} {w0 w w' : World} {g R B : Nat} {l : List UInt8} {cs : List Value} (h : TS bb w0 w g R B l cs) (k : Kept [] w w') : TS bb w0 w' g R B l cs :=
  ⟨h.rd.kept k, h.blk.kept k (by simp), h.p8, h.ne, h.box.kept k (by simp), h.bne, h.kept.then k⟩
/-- blocks that are none of these, and not below bb -/
theorem TS.others {bb : Nat} {w0 w w' : World} {g R B : Nat} {l : List UInt8} {cs : List Value} {S : List Nat} (h : TS bb w0 w g R B l cs) (k : Kept S w w') (hS : ∀ x ∈ S, bb ≤ x ∧ x ≠ g ∧ x ≠ R ∧ x ≠ B ∧ w0.heap.size ≤ x) : TS bb w0 w' g R B l cs :=
  ⟨h.rd.keptNo k fun x hx => ⟨(hS x hx).2.1, .inr (hS x hx).1⟩, h.blk.kept k fun hm => (hS R hm).2.2.1 rfl, h.p8, h.ne, h.box.kept k fun hm => (hS B hm).2.2.2.1 rfl, h.bne, h.kept.trans k fun x hx => .inr (hS x hx).2.2.2.2⟩
theorem TS.bx {bb : Nat} {w0 w : World} {g R B : Nat} {l : List UInt8} {cs : List Value} (h : TS bb w0 w g R B l cs) : w.cell? ⟨B, 0, none⟩ = some (.pointer (some ⟨g, 0, none⟩)) := h.box.cell (j := 0) rfl
theorem kept_gR {w0 w w' : World} {g R : Nat} (k : Kept [g, R] w0 w) (k2 : Kept [g] w w') : Kept [g, R] w0 w' := k.trans k2 (fun x hx => .inl (by simp at hx ⊢; exact .inl hx))
def Rcd.cl (r : Rcd) (V : RV) : List Value := [.int .i64 r.kind, .int .i64 r.birth, .int .i64 r.prev, .int .i64 r.id, .int .i64 r.page, .int .i64 r.frm, V.vb, V.va, .int .i64 r.next, V.vr, V.vd]
def nilV : RV := ⟨.slice none 0 0, .slice none 0 0, .slice none 0 0, .slice none 0 0⟩
def Apartv (u v : Value) : Prop := ∀ x, u.ownBlock = some x → v.ownBlock ≠ some x
theorem Apartv.nil_l (v : Value) : Apartv (.slice none 0 0) v := fun x h => by cases h
theorem Apartv.nil_r (v : Value) : Apartv v (.slice none 0 0) := fun x h e => by cases e
/-- a record whose lists lie in memory of their own, from base on -/
structure OwnR (base : Nat) (w : World) (V : RV) (r : Rcd) : Prop where
  before : w.ownsRow base 5 1 V.vb r.before.length (u8s r.before)
  after : w.ownsRow base 5 1 V.va r.after.length (u8s r.after)
  rows : Row w base 5 V.vr r.rows.length (rcells r.rows)
  dirty : Row w base 2 V.vd r.dirty.length (dcells r.dirty)
  ba : Apartv V.vb V.va
  br : Apartv V.vb V.vr
  bd : Apartv V.vb V.vd
  ar : Apartv V.va V.vr
  ad : Apartv V.va V.vd
  rd : Apartv V.vr V.vd
theorem own_nil (w : World) (base : Nat) : w.ownsRow base 5 1 (.slice none 0 0) 0 (u8s []) := by simpa [u8s] using World.ownsRow_nil w base 5 1
theorem OwnR.see {base : Nat} {w : World} {V : RV} {r : Rcd} (h : OwnR base w V r) : SeeR w V r := ⟨Bs.ofOwn h.before, Bs.ofOwn h.after, h.rows.cs, h.dirty.cs⟩
theorem OwnR.kept {base : Nat} {w w' : World} {V : RV} {r : Rcd} {S : List Nat} (h : OwnR base w V r) (k : Kept S w w') (hS : ∀ x, (V.vb.ownBlock = some x ∨ V.va.ownBlock = some x ∨ V.vr.ownBlock = some x ∨ V.vd.ownBlock = some x) → x ∉ S) : OwnR base w' V r :=
  ⟨own_of_kept h.before k fun x hx => hS x (.inl hx), own_of_kept h.after k fun x hx => hS x (.inr (.inl hx)), h.rows.kept k fun x hx => hS x (.inr (.inr (.inl hx))), h.dirty.kept k fun x hx => hS x (.inr (.inr (.inr hx))), h.ba, h.br, h.bd, h.ar, h.ad, h.rd⟩
theorem OwnR.mono {base base' : Nat} {w : World} {V : RV} {r : Rcd} (h : OwnR base w V r) (hb : base' ≤ base) : OwnR base' w V r :=
  ⟨own_mono h.before hb, own_mono h.after hb, h.rows.mono hb, h.dirty.mono hb, h.ba, h.br, h.bd, h.ar, h.ad, h.rd⟩
theorem OwnR.ge {base : Nat} {w : World} {V : RV} {r : Rcd} (h : OwnR base w V r) {x : Nat} (hx : V.vb.ownBlock = some x ∨ V.va.ownBlock = some x ∨ V.vr.ownBlock = some x ∨ V.vd.ownBlock = some x) : base ≤ x ∧ x < w.heap.size := by
  rcases hx with q | q | q | q
  · exact ⟨own_ge h.before x q, own_lt h.before x q⟩
  · exact ⟨own_ge h.after x q, own_lt h.after x q⟩
  · exact h.rows.lt x q
  · exact h.dirty.lt x q
/-- a record with no list -/
theorem OwnR.bare (base : Nat) (w : World) (k b p i g f n : Int) : OwnR base w nilV ⟨k, b, p, i, g, f, [], [], n, [], []⟩ :=
  ⟨own_nil w base, own_nil w base, Row.nil w base 5, Row.nil w base 2, .nil_l _, .nil_l _, .nil_l _, .nil_l _, .nil_l _, .nil_l _⟩
/-- how a kind's reader ends -/
def Out (bb : Nat) (w w' : World) (g R : Nat) (o : Option (Rcd × List UInt8)) (e : Ending) : Prop :=
  (∃ x r V B, o = some (x, r) ∧ e = .returned (.tuple #[]) ∧ TS bb w w' g R B r (x.cl V) ∧ OwnR w.heap.size w' V x) ∨ (o = none ∧ Gave e ∧ Kept [g, R] w w')
theorem qNum1 (bb g : Nat) (l : List UInt8) (w : World) (hr : Rs bb w g l) : Calls Try.prog 54 #[src g, .int .i64 1] w fun e w' => (∃ (v : Nat) (r : List UInt8), num 1 l = some (v, r) ∧ e = .returned (.int .i64 (v : Int)) ∧ Rs bb w' g r ∧ Kept [g] w w') ∨ (num 1 l = none ∧ Gave e ∧ Kept [g] w w') := by
  cases h : num 1 l with
  | none => exact (qNum1_none bb g l w hr h).mono fun e w' q => .inr ⟨rfl, q⟩
  | some y => obtain ⟨v, r⟩ := y; exact (qNum1_some bb g v l r w hr h).mono fun e w' q => .inl ⟨v, r, rfl, q⟩
theorem qNum2 (bb g : Nat) (l : List UInt8) (w : World) (hr : Rs bb w g l) : Calls Try.prog 54 #[src g, .int .i64 2] w fun e w' => (∃ (v : Nat) (r : List UInt8), num 2 l = some (v, r) ∧ e = .returned (.int .i64 (v : Int)) ∧ Rs bb w' g r ∧ Kept [g] w w') ∨ (num 2 l = none ∧ Gave e ∧ Kept [g] w w') := by
  cases h : num 2 l with
  | none => exact (qNum2_none bb g l w hr h).mono fun e w' q => .inr ⟨rfl, q⟩
  | some y => obtain ⟨v, r⟩ := y; exact (qNum2_some bb g v l r w hr h).mono fun e w' q => .inl ⟨v, r, rfl, q⟩
theorem qEt (bb g : Nat) (l : List UInt8) (w : World) (hr : Rs bb w g l) : Calls Try.prog 57 #[src g] w fun e w' => (∃ (v : Nat) (r : List UInt8), num 8 l = some (v, r) ∧ e = .returned (.int .i64 (v : Int)) ∧ Rs bb w' g r ∧ Kept [g] w w') ∨ (num 8 l = none ∧ Gave e ∧ Kept [g] w w') := by
  cases h : num 8 l with
  | none => exact (qEt_none bb g l w hr h).mono fun e w' q => .inr ⟨rfl, q⟩
  | some y => obtain ⟨v, r⟩ := y; exact (qEt_some bb g v l r w hr h).mono fun e w' q => .inl ⟨v, r, rfl, q⟩
theorem qRaw (bb g n : Nat) (l : List UInt8) (w : World) (hr : Rs bb w g l) (hl : l.length ≤ 140737488355328) : Calls Try.prog 84 #[src g, .int .i64 (n : Int)] w fun e w' => (∃ (u : Value) (x r : List UInt8), raw n l = some (x, r) ∧ e = .returned u ∧ w'.ownsRow w.heap.size 5 1 u x.length (u8s x) ∧ Rs bb w' g r ∧ Kept [g] w w') ∨ (raw n l = none ∧ Gave e ∧ Kept [g] w w') := by
  cases h : raw n l with
  | none => exact (qRaw_none bb g n l w hr h).mono fun e w' q => .inr ⟨rfl, q⟩
  | some y => obtain ⟨x, r⟩ := y; exact (qRaw_some bb g n l x r w hr h hl).mono fun e w' ⟨u, q⟩ => .inl ⟨u, x, r, rfl, q⟩
theorem num_len {n v : Nat} {l r : List UInt8} (h : num n l = some (v, r)) : r.length ≤ l.length := by rw [(num_low h).2.2.1, List.length_drop]; omega
theorem raw_len {n : Nat} {l x r : List UInt8} (h : raw n l = some (x, r)) : r.length ≤ l.length := by rw [(raw_parts h).2.2, List.length_drop]; omega
theorem slice_not8 (p : Option Addr) (n c : Nat) : ∀ x : Int, Value.slice p n c ≠ .int .u8 x := fun x e => by cases e
theorem int_not8 (z : Int) : ∀ x : Int, Value.int .i64 z ≠ .int .u8 x := fun x e => by cases e
end Go.Proofs.Ytebcmcmboomgfaa

/-
  OWN WORK (by mkpr6.py). record: takeBegin, takeNothing, takeRange, takeUpdate, takeUndo.
-/
namespace Go.Proofs.Ytebcmcmboomgfaa
open Go.RowKit
set_option linter.unusedVariables false
set_option linter.unusedSimpArgs false

theorem Ps.bind_none {α β : Type} {p : Ps α} {f : α → Ps β} {l : List UInt8} (h : p l = none) : p.bind f l = none := by
  unfold Ps.bind
  rw [h]
def bareR (k b p : Int) : Rcd := ⟨k, b, p, 0, 0, 0, [], [], 0, [], []⟩
theorem plain_bare (k b p : Int) : plain8 ((bareR k b p).cl nilV) := by
  intro c hc x e
  simp [bareR, Rcd.cl, nilV] at hc
  rcases hc with q | q | q | q | q | q | q <;> (rw [q] at e; cases e)
theorem own_past {w w' : World} {b n : Nat} {v : Value} {xs : List Value} {S : List Nat} (h : w.ownsRow b 5 1 v n xs) (k : Kept S w w') (hS : ∀ x ∈ S, x < b) : w'.ownsRow b 5 1 v n xs :=
  own_of_kept h k fun x hx hm => by have := own_ge h x hx; have := hS x hm; omega
/-- page, from, how many -/
def pRg : Ps (Nat × Nat × Nat) := (num 1).bind fun a => (num 2).bind fun f => (num 2).bind fun n => Ps.ret (a, f, n)
theorem pTail_upd (b p : Nat) : pTail 2 b p = pRg.bind fun q => (raw q.2.2).bind fun x => (raw q.2.2).bind fun y => Ps.ret ⟨2, b, p, 0, q.1, q.2.1, x, y, 0, [], []⟩ := by
  unfold pRg pTail
  simp only [Ps.bind_assoc, Ps.ret_bind]
  rfl
theorem pTail_und (b p : Nat) : pTail 3 b p = pRg.bind fun q => (raw q.2.2).bind fun y => (num 8).bind fun z => Ps.ret ⟨3, b, p, 0, q.1, q.2.1, [], y, z, [], []⟩ := by
  unfold pRg pTail
  simp only [Ps.bind_assoc, Ps.ret_bind]
  rfl

theorem qNothing (bb g R : Nat) (k b p : Nat) (l : List UInt8) (w : World) (hr : Rs bb w g l) (hb : Blk w R 26 ((bareR k b p).cl nilV)) (hne : g ≠ R) (hk : k = 4 ∨ k = 5 ∨ k = 6) : Calls Try.prog 75 #[src g, .pointer (some ⟨R, 0, none⟩)] w fun e w' => Out bb w w' g R (pTail k b p l) e := by
  have S1 := TS.start hr hb (plain_bare _ _ _) hne
  have e0 : pTail k b p l = some (bareR k b p, l) := by unfold pTail; rw [if_neg (by omega), if_neg (by omega), if_neg (by omega), if_neg (by omega)]; rfl
  unfold src
  go_enter Try.func75, Try.ntmps75
  go_wp2
  go_end0
  exact .inl ⟨_, _, _, _, e0, rfl, S1, OwnR.bare _ _ _ _ _ _ _ _ _⟩
set_option maxHeartbeats 800000 in
theorem qBegin (bb g R : Nat) (b p : Nat) (l : List UInt8) (w : World) (hr : Rs bb w g l) (hb : Blk w R 26 ((bareR 1 b p).cl nilV)) (hne : g ≠ R) : Calls Try.prog 72 #[src g, .pointer (some ⟨R, 0, none⟩)] w fun e w' => Out bb w w' g R (pTail 1 b p l) e := by
  have S1 := TS.start hr hb (plain_bare _ _ _) hne
  clear hr hb hne
  obtain ⟨w1, hw1⟩ : ∃ w1, w1 = w.alloc (.cells #[.pointer (some ⟨g, 0, none⟩)] 64) := ⟨_, rfl⟩
  rw [← hw1] at S1
  have b1 := S1.bx
  unfold src
  go_enter Try.func72, Try.ntmps72
  go_upto_region 1 with fail
  rw [← hw1]
  clear hw1
  go_wp2_with fail
  have hc := qNum1 bb g l w1 S1.rd
  unfold src at hc
  refine hc.mono ?_
  clear hc
  rintro e w2 (⟨v, r, h1, rfl, hr2, k2⟩ | ⟨hz, ⟨xz, rfl⟩, kz⟩)
  rotate_left
  · exact ⟨rfl, .inr ⟨Ps.bind_none hz, ⟨_, rfl⟩, kept_gR S1.kept kz⟩⟩
  have S2 := S1.took hr2 k2
  have c3 := S2.blk.cell (j := 3) rfl
  have f3 := S2.blk.free 3
  have FIN := @hideH _ (show Out bb w (w2.setCell ⟨R, 3, none⟩ (.int .i64 (v : Int))) g R (pTail 1 b p l) (.returned (.tuple #[])) from .inl ⟨⟨1, b, p, v, 0, 0, [], [], 0, [], []⟩, r, nilV, _, (by show ((num 1).bind _) l = _; rw [Ps.bind_of h1]; rfl), rfl, S2.set 3 _ (int_not8 _), OwnR.bare _ _ _ _ _ _ _ _ _⟩)
  clear S1 S2 hr2 k2 h1
  go_wp2
  go_end0
  exact FIN.out
set_option maxHeartbeats 1600000 in
theorem qRange (bb g R : Nat) (l : List UInt8) (cs : List Value) (w : World) (hr : Rs bb w g l) (hb : Blk w R 26 cs) (p8 : plain8 cs) (hn : cs.length = 11) (hne : g ≠ R) : Calls Try.prog 83 #[src g, .pointer (some ⟨R, 0, none⟩)] w fun e w' => (∃ (a f n : Nat) (r : List UInt8), pRg l = some ((a, f, n), r) ∧ e = .returned (.int .i64 (n : Int)) ∧ Rs bb w' g r ∧ Blk w' R 26 ((cs.set 4 (.int .i64 a)).set 5 (.int .i64 f)) ∧ Kept [g, R] w w') ∨ (pRg l = none ∧ Gave e ∧ Kept [g, R] w w') := by
  have S1 := TS.start hr hb p8 hne
  clear hr hb hne p8
  obtain ⟨w1, hw1⟩ : ∃ w1, w1 = w.alloc (.cells #[.pointer (some ⟨g, 0, none⟩)] 64) := ⟨_, rfl⟩
  rw [← hw1] at S1
  have b1 := S1.bx
  unfold src
  go_enter Try.func83, Try.ntmps83
  go_upto_region 1 with fail
  rw [← hw1]
  clear hw1
  go_wp2_with fail
  have hc := qNum1 bb g l w1 S1.rd
  unfold src at hc
  refine hc.mono ?_
  clear hc
  rintro e w2 (⟨a, r1, h1, rfl, hr2, k2⟩ | ⟨hz, ⟨xz, rfl⟩, kz⟩)
  rotate_left
  · exact ⟨rfl, .inr ⟨Ps.bind_none hz, ⟨_, rfl⟩, kept_gR S1.kept kz⟩⟩
  have S2 := S1.took hr2 k2
  clear S1 hr2 k2 b1
  obtain ⟨oc, c2⟩ : ∃ oc, w2.cell? ⟨R, 4, none⟩ = some oc := ⟨_, S2.blk.cell (j := 4) (List.getElem?_eq_getElem (by omega))⟩
  have f2 := S2.blk.free 4
  obtain ⟨w3, hw3⟩ : ∃ wx, wx = w2.setCell ⟨R, 4, none⟩ (.int .i64 (a : Int)) := ⟨_, rfl⟩
  have S3 := S2.set 4 (.int .i64 (a : Int)) (int_not8 _)
  have KS3 := @hideH _ (S2.blk.set 4 (.int .i64 (a : Int))).2
  rw [← hw3] at S3 KS3
  have b3 := S3.bx
  clear S2
  go_upto_region 2 with fail
  rw [← hw3]
  clear hw3 c2 f2
  go_wp2_with fail
  have hc := qNum2 bb g r1 w3 S3.rd
  unfold src at hc
  refine hc.mono ?_
  clear hc
  rintro e w4 (⟨f, r2, h2, rfl, hr4, k4⟩ | ⟨hz, ⟨xz, rfl⟩, kz⟩)
  rotate_left
  · exact ⟨rfl, .inr ⟨(by unfold pRg; rw [Ps.bind_of h1, Ps.bind_none hz]), ⟨_, rfl⟩, kept_gR S3.kept kz⟩⟩
  have S4 := S3.took hr4 k4
  clear S3 hr4 k4 b3
  obtain ⟨oc, c4⟩ : ∃ oc, w4.cell? ⟨R, 5, none⟩ = some oc := ⟨_, S4.blk.cell (j := 5) (List.getElem?_eq_getElem (by rw [List.length_set]; omega))⟩
  have f4 := S4.blk.free 5
  obtain ⟨w5, hw5⟩ : ∃ wx, wx = w4.setCell ⟨R, 5, none⟩ (.int .i64 (f : Int)) := ⟨_, rfl⟩
  have S5 := S4.set 5 (.int .i64 (f : Int)) (int_not8 _)
  have KS5 := @hideH _ (S4.blk.set 5 (.int .i64 (f : Int))).2
  rw [← hw5] at S5 KS5
  have b5 := S5.bx
  clear S4
  go_upto_region 3 with fail
  rw [← hw5]
  clear hw5 c4 f4
  go_wp2_with fail
  have hc := qNum2 bb g r2 w5 S5.rd
  unfold src at hc
  refine hc.mono ?_
  clear hc
  rintro e w6 (⟨n, r3, h3, rfl, hr6, k6⟩ | ⟨hz, ⟨xz, rfl⟩, kz⟩)
  rotate_left
  · exact ⟨rfl, .inr ⟨(by unfold pRg; rw [Ps.bind_of h1, Ps.bind_of h2, Ps.bind_none hz]), ⟨_, rfl⟩, kept_gR S5.kept kz⟩⟩
  have S6 := S5.took hr6 k6
  clear S5 hr6 k6 b5
  have FIN := @hideH _ (And.intro (show pRg l = some ((a, f, n), r3) by unfold pRg; rw [Ps.bind_of h1, Ps.bind_of h2, Ps.bind_of h3]; rfl) (And.intro S6.rd (And.intro S6.blk S6.kept)))
  clear S6 h1 h2 h3
  go_wp2
  go_ret
  exact .inl ⟨a, f, n, r3, FIN.out.1, rfl, FIN.out.2⟩
set_option maxHeartbeats 1600000 in
theorem qUpdate (bb g R : Nat) (b p : Nat) (l : List UInt8) (w : World) (hr : Rs bb w g l) (hb : Blk w R 26 ((bareR 2 b p).cl nilV)) (hne : g ≠ R) (hl : l.length ≤ 140737488355328) : Calls Try.prog 73 #[src g, .pointer (some ⟨R, 0, none⟩)] w fun e w' => Out bb w w' g R (pTail 2 b p l) e := by
  have S1 := TS.start hr hb (plain_bare _ _ _) hne
  clear hr hb
  have HLN := @hideH _ hl
  clear hl
  obtain ⟨w1, hw1⟩ : ∃ w1, w1 = w.alloc (.cells #[.pointer (some ⟨g, 0, none⟩)] 64) := ⟨_, rfl⟩
  rw [← hw1] at S1
  have b1 := S1.bx
  unfold src
  go_enter Try.func73, Try.ntmps73
  go_upto_region 1 with fail
  rw [← hw1]
  clear hw1
  go_wp2_with fail
  have hc := qRange bb g R l _ w1 S1.rd S1.blk S1.p8 rfl hne
  unfold src at hc
  refine hc.mono ?_
  clear hc
  rintro e w2 (⟨a, f, n, r1, h1, rfl, hr2, hb2, k2⟩ | ⟨hz, ⟨xz, rfl⟩, kz⟩)
  rotate_left
  · exact ⟨rfl, .inr ⟨(by rw [pTail_upd]; exact Ps.bind_none hz), ⟨_, rfl⟩, S1.kept.trans kz (fun x hx => .inl hx)⟩⟩
  have S2 := S1.both hr2 hb2 ((S1.p8.set 4 (int_not8 _)).set 5 (int_not8 _)) k2
  have b2 := S2.bx
  have HGR := @hideH _ (And.intro S1.rd.rd.lt S1.blk.lt)
  have L1 := @hideH _ (show r1.length ≤ 140737488355328 from Nat.le_trans (by unfold pRg at h1; obtain ⟨_, q1, e1, h⟩ := Ps.bind_some.1 h1; obtain ⟨_, q2, e2, h⟩ := Ps.bind_some.1 h; obtain ⟨_, q3, e3, h⟩ := Ps.bind_some.1 h; simp [Ps.ret] at h; have m1 := num_len e1; have m2 := num_len e2; have m3 := num_len e3; rw [h.2] at m3; omega) HLN.out)
  have Z2 := @hideH _ (And.intro (Nat.le_trans S1.kept.size k2.size) k2.size)
  clear S1 hr2 hb2 k2 b1
  go_upto_region 2 with fail
  go_wp2_with fail
  have hc := qRaw bb g n r1 w2 S2.rd L1.out
  unfold src at hc
  refine hc.mono ?_
  clear hc
  rintro e w3 (⟨u1, x, r2, h2, rfl, o3, hr3, k3⟩ | ⟨hz, ⟨xz, rfl⟩, kz⟩)
  rotate_left
  · exact ⟨rfl, .inr ⟨(by rw [pTail_upd, Ps.bind_of h1, Ps.bind_none hz]), ⟨_, rfl⟩, kept_gR S2.kept kz⟩⟩
  have S3 := S2.took hr3 k3
  obtain ⟨p3, c3', rfl⟩ := own_shape2 o3
  have Z3 := @hideH _ k3.size
  have O3 := @hideH _ o3
  have L2 := @hideH _ (Nat.le_trans (raw_len h2) L1.out)
  clear S2 hr3 k3 b2 o3
  obtain ⟨oc, c3⟩ : ∃ oc, w3.cell? ⟨R, 6, none⟩ = some oc := ⟨_, S3.blk.cell (j := 6) (rfl)⟩
  have f3 := S3.blk.free 6
  obtain ⟨w4, hw4⟩ : ∃ wx, wx = w3.setCell ⟨R, 6, none⟩ (.slice p3 x.length c3') := ⟨_, rfl⟩
  have S4 := S3.set 6 (.slice p3 x.length c3') (slice_not8 _ _ _)
  have KS4 := @hideH _ (S3.blk.set 6 (.slice p3 x.length c3')).2
  rw [← hw4] at S4 KS4
  have b4 := S4.bx
  clear S3
  go_upto_region 3 with fail
  rw [← hw4]
  clear hw4 c3 f3
  go_wp2_with fail
  have hc := qRaw bb g n r2 w4 S4.rd L2.out
  unfold src at hc
  refine hc.mono ?_
  clear hc
  rintro e w5 (⟨u2, y, r3, h3, rfl, o5, hr5, k5⟩ | ⟨hz, ⟨xz, rfl⟩, kz⟩)
  rotate_left
  · exact ⟨rfl, .inr ⟨(by rw [pTail_upd, Ps.bind_of h1, Ps.bind_of h2, Ps.bind_none hz]), ⟨_, rfl⟩, kept_gR S4.kept kz⟩⟩
  have S5 := S4.took hr5 k5
  obtain ⟨p5, c5', rfl⟩ := own_shape2 o5
  have Z5 := @hideH _ k5.size
  have O5 := @hideH _ o5
  have K45 := @hideH _ k5
  clear S4 hr5 k5 b4 o5
  have S6 := S5.set 7 (.slice p5 y.length c5') (slice_not8 _ _ _)
  have k6 := (S5.blk.set 7 (.slice p5 y.length c5')).2
  have c5 := S5.blk.cell (j := 7) rfl
  have f5 := S5.blk.free 7
  have lo : ∀ x ∈ [g, R], x < w2.heap.size := fun x hx => by have e1 := HGR.out; have e2 := Z2.out.2; simp at hx; rcases hx with q | q <;> omega
  have loR : ∀ x ∈ [R], x < w2.heap.size := fun x hx => lo x (by simp at hx ⊢; exact .inr hx)
  have loG : ∀ x ∈ [g], x < w2.heap.size := fun x hx => lo x (by simp at hx ⊢; exact .inl hx)
  have FIN := @hideH _ (show Out bb w (w5.setCell ⟨R, 7, none⟩ (.slice p5 y.length c5')) g R (pTail 2 b p l) (.returned (.tuple #[])) from .inl ⟨⟨2, b, p, 0, a, f, x, y, 0, [], []⟩, r3, ⟨.slice p3 x.length c3', .slice p5 y.length c5', .slice none 0 0, .slice none 0 0⟩, _, (by rw [pTail_upd, Ps.bind_of h1, Ps.bind_of h2, Ps.bind_of h3]; rfl), rfl, S6,
    ⟨own_mono (own_past (own_past (own_past O3.out KS4.out loR) K45.out loG) k6 loR) Z2.out.1, own_mono (own_past O5.out k6 (fun x hx => Nat.lt_of_lt_of_le (loR x hx) (Nat.le_trans Z3.out KS4.out.size))) (Nat.le_trans Z2.out.1 (Nat.le_trans Z3.out KS4.out.size)), Row.nil _ _ 5, Row.nil _ _ 2, (fun q hq e => by have e1 := own_lt O3.out q hq; have e2 := own_ge O5.out q e; have e3 := KS4.out.size; omega), .nil_r _, .nil_r _, .nil_r _, .nil_r _, .nil_l _⟩⟩)
  clear S5 S6 k6 lo loR loG h1 h2 h3
  go_wp2
  go_end0
  exact FIN.out
set_option maxHeartbeats 1600000 in
theorem qUndo (bb g R : Nat) (b p : Nat) (l : List UInt8) (w : World) (hr : Rs bb w g l) (hb : Blk w R 26 ((bareR 3 b p).cl nilV)) (hne : g ≠ R) (hl : l.length ≤ 140737488355328) : Calls Try.prog 74 #[src g, .pointer (some ⟨R, 0, none⟩)] w fun e w' => Out bb w w' g R (pTail 3 b p l) e := by
  have S1 := TS.start hr hb (plain_bare _ _ _) hne
  clear hr hb
  have HLN := @hideH _ hl
  clear hl
  obtain ⟨w1, hw1⟩ : ∃ w1, w1 = w.alloc (.cells #[.pointer (some ⟨g, 0, none⟩)] 64) := ⟨_, rfl⟩
  rw [← hw1] at S1
  have b1 := S1.bx
  unfold src
  go_enter Try.func74, Try.ntmps74
  go_upto_region 1 with fail
  rw [← hw1]
  clear hw1
  go_wp2_with fail
  have hc := qRange bb g R l _ w1 S1.rd S1.blk S1.p8 rfl hne
  unfold src at hc
  refine hc.mono ?_
  clear hc
  rintro e w2 (⟨a, f, n, r1, h1, rfl, hr2, hb2, k2⟩ | ⟨hz, ⟨xz, rfl⟩, kz⟩)
  rotate_left
  · exact ⟨rfl, .inr ⟨(by rw [pTail_und]; exact Ps.bind_none hz), ⟨_, rfl⟩, S1.kept.trans kz (fun x hx => .inl hx)⟩⟩
  have S2 := S1.both hr2 hb2 ((S1.p8.set 4 (int_not8 _)).set 5 (int_not8 _)) k2
  have b2 := S2.bx
  have HGR := @hideH _ (And.intro S1.rd.rd.lt S1.blk.lt)
  have L1 := @hideH _ (show r1.length ≤ 140737488355328 from Nat.le_trans (by unfold pRg at h1; obtain ⟨_, q1, e1, h⟩ := Ps.bind_some.1 h1; obtain ⟨_, q2, e2, h⟩ := Ps.bind_some.1 h; obtain ⟨_, q3, e3, h⟩ := Ps.bind_some.1 h; simp [Ps.ret] at h; have m1 := num_len e1; have m2 := num_len e2; have m3 := num_len e3; rw [h.2] at m3; omega) HLN.out)
  have Z2 := @hideH _ (And.intro (Nat.le_trans S1.kept.size k2.size) k2.size)
  clear S1 hr2 hb2 k2 b1
  go_upto_region 2 with fail
  go_wp2_with fail
  have hc := qRaw bb g n r1 w2 S2.rd L1.out
  unfold src at hc
  refine hc.mono ?_
  clear hc
  rintro e w3 (⟨u1, y, r2, h2, rfl, o3, hr3, k3⟩ | ⟨hz, ⟨xz, rfl⟩, kz⟩)
  rotate_left
  · exact ⟨rfl, .inr ⟨(by rw [pTail_und, Ps.bind_of h1, Ps.bind_none hz]), ⟨_, rfl⟩, kept_gR S2.kept kz⟩⟩
  have S3 := S2.took hr3 k3
  obtain ⟨p3, c3', rfl⟩ := own_shape2 o3
  have Z3 := @hideH _ k3.size
  have O3 := @hideH _ o3
  clear S2 hr3 k3 b2 o3
  obtain ⟨oc, c3⟩ : ∃ oc, w3.cell? ⟨R, 7, none⟩ = some oc := ⟨_, S3.blk.cell (j := 7) (rfl)⟩
  have f3 := S3.blk.free 7
  obtain ⟨w4, hw4⟩ : ∃ wx, wx = w3.setCell ⟨R, 7, none⟩ (.slice p3 y.length c3') := ⟨_, rfl⟩
  have S4 := S3.set 7 (.slice p3 y.length c3') (slice_not8 _ _ _)
  have KS4 := @hideH _ (S3.blk.set 7 (.slice p3 y.length c3')).2
  rw [← hw4] at S4 KS4
  have b4 := S4.bx
  clear S3
  go_upto_region 3 with fail
  rw [← hw4]
  clear hw4 c3 f3
  go_wp2_with fail
  have hc := qEt bb g r2 w4 S4.rd
  unfold src at hc
  refine hc.mono ?_
  clear hc
  rintro e w5 (⟨z, r3, h3, rfl, hr5, k5⟩ | ⟨hz, ⟨xz, rfl⟩, kz⟩)
  rotate_left
  · exact ⟨rfl, .inr ⟨(by rw [pTail_und, Ps.bind_of h1, Ps.bind_of h2, Ps.bind_none hz]), ⟨_, rfl⟩, kept_gR S4.kept kz⟩⟩
  have S5 := S4.took hr5 k5
  have K45 := @hideH _ k5
  clear S4 hr5 k5 b4
  have S6 := S5.set 8 (.int .i64 (z : Int)) (int_not8 _)
  have k6 := (S5.blk.set 8 (.int .i64 (z : Int))).2
  have c5 := S5.blk.cell (j := 8) rfl
  have f5 := S5.blk.free 8
  have lo : ∀ x ∈ [g, R], x < w2.heap.size := fun x hx => by have e1 := HGR.out; have e2 := Z2.out.2; simp at hx; rcases hx with q | q <;> omega
  have loR : ∀ x ∈ [R], x < w2.heap.size := fun x hx => lo x (by simp at hx ⊢; exact .inr hx)
  have loG : ∀ x ∈ [g], x < w2.heap.size := fun x hx => lo x (by simp at hx ⊢; exact .inl hx)
  have FIN := @hideH _ (show Out bb w (w5.setCell ⟨R, 8, none⟩ (.int .i64 (z : Int))) g R (pTail 3 b p l) (.returned (.tuple #[])) from .inl ⟨⟨3, b, p, 0, a, f, [], y, z, [], []⟩, r3, ⟨.slice none 0 0, .slice p3 y.length c3', .slice none 0 0, .slice none 0 0⟩, _, (by rw [pTail_und, Ps.bind_of h1, Ps.bind_of h2, Ps.bind_of h3]; rfl), rfl, S6,
    ⟨own_nil _ _, own_mono (own_past (own_past (own_past O3.out KS4.out loR) K45.out loG) k6 loR) Z2.out.1, Row.nil _ _ 5, Row.nil _ _ 2, .nil_l _, .nil_l _, .nil_l _, .nil_r _, .nil_r _, .nil_l _⟩⟩)
  clear S5 S6 k6 lo loR loG h1 h2 h3
  go_wp2
  go_end0
  exact FIN.out
end Go.Proofs.Ytebcmcmboomgfaa

/-
  OWN WORK. record's takeCheck: what stands in its two loops.
-/
namespace Go.Proofs.Ytebcmcmboomgfaa
open Go.RowKit
set_option linter.unusedVariables false
set_option linter.unusedSimpArgs false

/-- of n that are to be read k have been: rs; lr is left -/
def Mny {α : Type} (p : Ps α) (n : Nat) (l : List UInt8) (k : Nat) (rs : List α) (lr : List UInt8) : Prop := many p n l = ((many p (n - k)).bind fun more => Ps.ret (rs ++ more)) lr
theorem Mny.start {α : Type} (p : Ps α) (n : Nat) (l : List UInt8) : Mny p n l 0 [] l := by
  unfold Mny Ps.bind
  rw [Nat.sub_zero]
  cases many p n l with
  | none => rfl
  | some y => obtain ⟨a, r⟩ := y; rfl
theorem Mny.step {α : Type} {p : Ps α} {n k : Nat} {l lr l2 : List UInt8} {rs : List α} {x : α} (h : Mny p n l k rs lr) (hk : k < n) (hp : p lr = some (x, l2)) : Mny p n l (k + 1) (rs ++ [x]) l2 := by
  unfold Mny at h ⊢
  rw [show n - k = (n - (k + 1)) + 1 by omega] at h
  rw [h]
  show ((p.bind fun a => (many p (n - (k + 1))).bind fun xs => Ps.ret (a :: xs)).bind _) lr = _
  rw [Ps.bind_assoc, Ps.bind_of hp, Ps.bind_assoc]
  simp only [Ps.ret_bind, List.append_assoc, List.singleton_append]
theorem Mny.fail {α : Type} {p : Ps α} {n k : Nat} {l lr : List UInt8} {rs : List α} (h : Mny p n l k rs lr) (hk : k < n) (hp : p lr = none) : many p n l = none := by
  unfold Mny at h
  rw [show n - k = (n - (k + 1)) + 1 by omega] at h
  rw [h]
  show ((p.bind fun a => (many p (n - (k + 1))).bind fun xs => Ps.ret (a :: xs)).bind _) lr = _
  rw [Ps.bind_assoc, Ps.bind_none hp]
theorem Mny.done {α : Type} {p : Ps α} {n : Nat} {l lr : List UInt8} {rs : List α} (h : Mny p n l n rs lr) : many p n l = some (rs, lr) := by
  unfold Mny at h
  rw [Nat.sub_self] at h
  rw [h]
  show (Ps.bind (Ps.ret []) fun more => Ps.ret (rs ++ more)) lr = _
  rw [Ps.ret_bind, List.append_nil]
  rfl
section
variable {b p n m : Nat} {l l1 l2 l3 : List UInt8} {rs : List RowR}
theorem pTail_chk (b p : Nat) : pTail 7 b p = (num 1).bind fun n => (many pRow n).bind fun rs => (num 1).bind fun m => (many pRec m).bind fun ds => Ps.ret ⟨7, b, p, 0, 0, 0, [], [], 0, rs, ds⟩ := rfl
theorem pt7_no0 (hz : num 1 l = none) : pTail 7 b p l = none := by rw [pTail_chk]; exact Ps.bind_none hz
theorem pt7_no1 (h : num 1 l = some (n, l1)) (hz : many pRow n l1 = none) : pTail 7 b p l = none := by rw [pTail_chk, Ps.bind_of h]; exact Ps.bind_none hz
theorem pt7_no2 (h : num 1 l = some (n, l1)) (h2 : many pRow n l1 = some (rs, l2)) (hz : num 1 l2 = none) : pTail 7 b p l = none := by rw [pTail_chk, Ps.bind_of h, Ps.bind_of h2]; exact Ps.bind_none hz
theorem pt7_no3 (h : num 1 l = some (n, l1)) (h2 : many pRow n l1 = some (rs, l2)) (h3 : num 1 l2 = some (m, l3)) (hz : many pRec m l3 = none) : pTail 7 b p l = none := by rw [pTail_chk, Ps.bind_of h, Ps.bind_of h2, Ps.bind_of h3]; exact Ps.bind_none hz
theorem pt7_yes {ds : List RecR} {l4 : List UInt8} (h : num 1 l = some (n, l1)) (h2 : many pRow n l1 = some (rs, l2)) (h3 : num 1 l2 = some (m, l3)) (h4 : many pRec m l3 = some (ds, l4)) : pTail 7 b p l = some (⟨7, b, p, 0, 0, 0, [], [], 0, rs, ds⟩, l4) := by rw [pTail_chk, Ps.bind_of h, Ps.bind_of h2, Ps.bind_of h3, Ps.bind_of h4]; rfl
end
section
variable {v1 v2 v3 v4 v5 : Nat} {l l1 l2 l3 l4 l5 : List UInt8}
theorem pRow_no1 (hz : num 8 l = none) : pRow l = none := Ps.bind_none hz
theorem pRow_no2 (e1 : num 8 l = some (v1, l1)) (hz : num 1 l1 = none) : pRow l = none := by unfold pRow; rw [Ps.bind_of e1]; exact Ps.bind_none hz
theorem pRow_no3 (e1 : num 8 l = some (v1, l1)) (e2 : num 1 l1 = some (v2, l2)) (hz : num 1 l2 = none) : pRow l = none := by unfold pRow; rw [Ps.bind_of e1, Ps.bind_of e2]; exact Ps.bind_none hz
theorem pRow_no4 (e1 : num 8 l = some (v1, l1)) (e2 : num 1 l1 = some (v2, l2)) (e3 : num 1 l2 = some (v3, l3)) (hz : num 8 l3 = none) : pRow l = none := by unfold pRow; rw [Ps.bind_of e1, Ps.bind_of e2, Ps.bind_of e3]; exact Ps.bind_none hz
theorem pRow_no5 (e1 : num 8 l = some (v1, l1)) (e2 : num 1 l1 = some (v2, l2)) (e3 : num 1 l2 = some (v3, l3)) (e4 : num 8 l3 = some (v4, l4)) (hz : num 8 l4 = none) : pRow l = none := by unfold pRow; rw [Ps.bind_of e1, Ps.bind_of e2, Ps.bind_of e3, Ps.bind_of e4]; exact Ps.bind_none hz
theorem pRow_yes (e1 : num 8 l = some (v1, l1)) (e2 : num 1 l1 = some (v2, l2)) (e3 : num 1 l2 = some (v3, l3)) (e4 : num 8 l3 = some (v4, l4)) (e5 : num 8 l4 = some (v5, l5)) : pRow l = some (⟨v1, v2, v3, v4, v5⟩, l5) := by unfold pRow; rw [Ps.bind_of e1, Ps.bind_of e2, Ps.bind_of e3, Ps.bind_of e4, Ps.bind_of e5]; rfl
theorem pRec_no1 (hz : num 1 l = none) : pRec l = none := Ps.bind_none hz
theorem pRec_no2 (e1 : num 1 l = some (v1, l1)) (hz : num 8 l1 = none) : pRec l = none := by unfold pRec; rw [Ps.bind_of e1]; exact Ps.bind_none hz
theorem pRec_yes (e1 : num 1 l = some (v1, l1)) (e2 : num 8 l1 = some (v2, l2)) : pRec l = some (⟨v1, v2⟩, l2) := by unfold pRec; rw [Ps.bind_of e1, Ps.bind_of e2]; rfl
end
/-- base lies behind all that was there -/
def Lo (bb base : Nat) (w : World) (g R B : Nat) : Prop := bb ≤ base ∧ g < base ∧ R < base ∧ B < base ∧ w.heap.size ≤ base
structure Ch1 (bb : Nat) (w wr : World) (g R B : Nat) (b p : Int) (base n : Nat) (l1 : List UInt8) (k : Nat) (rs : List RowR) (lr : List UInt8) (pr : Option Addr) (cr : Nat) : Prop where
  len : rs.length = k
  mny : Mny pRow n l1 k rs lr
  ts : TS bb w wr g R B lr (((bareR 7 b p).cl nilV).set 9 (.slice pr k cr))
  row : Row wr base 5 (.slice pr k cr) k (rcells rs)
  hb : base ≤ wr.heap.size
theorem Row.past {w w' : World} {base sz n : Nat} {v : Value} {cs : List Value} {S : List Nat} (h : Row w base sz v n cs) (k : Kept S w w') (hS : ∀ x ∈ S, x < base) : Row w' base sz v n cs := h.kept k fun x hx hm => by have := (h.lt x hx).1; have := hS x hm; omega
theorem Ch1.next {bb : Nat} {w w5 : World} {g R B : Nat} {b p : Int} {base n : Nat} {l1 : List UInt8} {k : Nat} {rs : List RowR} {l6 : List UInt8} {pr : Option Addr} {cr : Nat} {x : RowR} (lo : Lo bb base w g R B)
    (h5 : TS bb w w5 g R B l6 (((bareR 7 b p).cl nilV).set 9 (.slice pr k cr))) (hr : Row w5 base 5 (.slice pr k cr) k (rcells rs)) (hl : rs.length = k) (hb : base ≤ w5.heap.size) (hm : Mny pRow n l1 (k + 1) (rs ++ [x]) l6) {o : Obj} {v' : Value} {w' : World}
    (r' : Row w' base 5 v' (k + 1) (rcells rs ++ rcells [x])) (k' : Kept (Value.slice pr k cr).ownBlock.toList (w5.alloc o) w') :
    ∃ p' c', v' = .slice p' (k + 1) c' ∧ TS bb w w' g R B l6 (((bareR 7 b p).cl nilV).set 9 (.slice pr k cr)) ∧ Ch1 bb w (w'.setCell ⟨R, 9, none⟩ (.slice p' (k + 1) c')) g R B b p base n l1 (k + 1) (rs ++ [x]) l6 p' c' := by
  obtain ⟨p', c', rfl, -⟩ := r'.shape
  obtain ⟨lo1, lo2, lo3, lo4, lo5⟩ := lo
  have t1 := (h5.then ((Kept.refl [] w5).alloc o)).others k' fun x hx => by
    have e := (hr.lt x (by simpa using hx)).1
    exact ⟨by omega, by omega, by omega, by omega, by omega⟩
  have kR := (t1.blk.set 9 (.slice p' (k + 1) c')).2
  have t2 := t1.set 9 (.slice p' (k + 1) c') (slice_not8 _ _ _)
  rw [List.set_set] at t2
  refine ⟨p', c', rfl, t1, by simp [hl], hm, t2, ?_, ?_⟩
  · rw [rcells_append]
    exact r'.past kR (by simp; omega)
  · have e1 := kR.size
    have e2 := k'.size
    rw [World.size_alloc] at e2
    omega
structure Ch2 (bb : Nat) (w wr : World) (g R B : Nat) (b p : Int) (base base2 nr : Nat) (rs : List RowR) (pr : Option Addr) (cr : Nat) (m : Nat) (l3 : List UInt8) (q : Nat) (ds : List RecR) (lr : List UInt8) (pd : Option Addr) (cd : Nat) : Prop where
  len : ds.length = q
  mny : Mny pRec m l3 q ds lr
  ts : TS bb w wr g R B lr ((((bareR 7 b p).cl nilV).set 9 (.slice pr nr cr)).set 10 (.slice pd q cd))
  rows : Row wr base 5 (.slice pr nr cr) nr (rcells rs)
  row : Row wr base2 2 (.slice pd q cd) q (dcells ds)
  hb : base2 ≤ wr.heap.size
  far : ∀ x, (Value.slice pr nr cr).ownBlock = some x → x < base2
theorem Ch2.next {bb : Nat} {w w5 : World} {g R B : Nat} {b p : Int} {base base2 nr : Nat} {rs : List RowR} {pr : Option Addr} {cr : Nat} {m : Nat} {l3 : List UInt8} {q : Nat} {ds : List RecR} {l6 : List UInt8} {pd : Option Addr} {cd : Nat} {x : RecR} (lo : Lo bb base w g R B) (lo2 : base ≤ base2)
    (h5 : TS bb w w5 g R B l6 ((((bareR 7 b p).cl nilV).set 9 (.slice pr nr cr)).set 10 (.slice pd q cd))) (hrr : Row w5 base 5 (.slice pr nr cr) nr (rcells rs)) (hr : Row w5 base2 2 (.slice pd q cd) q (dcells ds)) (hl : ds.length = q) (hb : base2 ≤ w5.heap.size) (far : ∀ x, (Value.slice pr nr cr).ownBlock = some x → x < base2) (hm : Mny pRec m l3 (q + 1) (ds ++ [x]) l6) {o : Obj} {v' : Value} {w' : World}
    (r' : Row w' base2 2 v' (q + 1) (dcells ds ++ dcells [x])) (k' : Kept (Value.slice pd q cd).ownBlock.toList (w5.alloc o) w') :
    ∃ p' c', v' = .slice p' (q + 1) c' ∧ TS bb w w' g R B l6 ((((bareR 7 b p).cl nilV).set 9 (.slice pr nr cr)).set 10 (.slice pd q cd)) ∧ Ch2 bb w (w'.setCell ⟨R, 10, none⟩ (.slice p' (q + 1) c')) g R B b p base base2 nr rs pr cr m l3 (q + 1) (ds ++ [x]) l6 p' c' := by
  obtain ⟨p', c', rfl, -⟩ := r'.shape
  obtain ⟨lo1, lo3, lo4, lo5, lo6⟩ := lo
  have ge : ∀ x ∈ (Value.slice pd q cd).ownBlock.toList, base2 ≤ x := fun x hx => (hr.lt x (by simpa using hx)).1
  have t1 := (h5.then ((Kept.refl [] w5).alloc o)).others k' fun x hx => by
    have e := ge x hx
    exact ⟨by omega, by omega, by omega, by omega, by omega⟩
  have rr1 := (hrr.kept ((Kept.refl [] w5).alloc o) (by simp)).kept k' fun x hx hm => by have e1 := far x hx; have e2 := ge x hm; omega
  have kR := (t1.blk.set 10 (.slice p' (q + 1) c')).2
  have t2 := t1.set 10 (.slice p' (q + 1) c') (slice_not8 _ _ _)
  rw [List.set_set] at t2
  refine ⟨p', c', rfl, t1, by simp [hl], hm, t2, rr1.past kR (by simp; omega), ?_, ?_, far⟩
  · rw [dcells_append]
    exact r'.past kR (by simp; omega)
  · have e1 := kR.size
    have e2 := k'.size
    rw [World.size_alloc] at e2
    omega
end Go.Proofs.Ytebcmcmboomgfaa

/-
  OWN WORK (by mkpr7.py). record: takeCheck.
-/
namespace Go.Proofs.Ytebcmcmboomgfaa
open Go.RowKit
set_option linter.unusedVariables false
set_option linter.unusedSimpArgs false

set_option maxRecDepth 20000 in
set_option maxHeartbeats 12800000 in
theorem qCheck (bb g R : Nat) (b p : Nat) (l : List UInt8) (w : World) (hr : Rs bb w g l) (hb : Blk w R 26 ((bareR 7 b p).cl nilV)) (hne : g ≠ R) (hbb : bb ≤ w.heap.size) : Calls Try.prog 76 #[src g, .pointer (some ⟨R, 0, none⟩)] w fun e w' => Out bb w w' g R (pTail 7 b p l) e := by
  have S1 := TS.start hr hb (plain_bare _ _ _) hne
  obtain ⟨w1, hw1⟩ : ∃ w1, w1 = w.alloc (.cells #[.pointer (some ⟨g, 0, none⟩)] 64) := ⟨_, rfl⟩
  have LO := @hideH _ (show Lo bb w1.heap.size w g R w.heap.size from (by have e1 := hr.rd.lt; have e2 := hb.lt; rw [hw1, World.size_alloc]; exact ⟨by omega, by omega, by omega, by omega, by omega⟩))
  clear hr hb hne hbb
  rw [← hw1] at S1
  have b1 := S1.bx
  obtain ⟨inf, hin1, hin2, hin3, hin4⟩ := info_parts3 (show (Try.prog.info? 66).map (fun i => (i.zero, i.size, i.bytes)) = some (some (.agg #[.int .i64 0, .int .i64 0, .int .i64 0, .int .i64 0, .int .i64 0]), 5, 40) by kernel_rfl)
  have HI := @hideH _ (And.intro hin1 (And.intro hin2 (And.intro hin3 hin4)))
  obtain ⟨inf2, hjn1, hjn2, hjn3, hjn4⟩ := info_parts3 (show (Try.prog.info? 68).map (fun i => (i.zero, i.size, i.bytes)) = some (some (.agg #[.int .i64 0, .int .i64 0]), 2, 16) by kernel_rfl)
  have HI2 := @hideH _ (And.intro hjn1 (And.intro hjn2 (And.intro hjn3 hjn4)))
  clear hin1 hin2 hin3 hin4 hjn1 hjn2 hjn3 hjn4
  unfold src
  go_enter Try.func76, Try.ntmps76
  go_upto_region 1 with fail
  rw [← hw1]
  clear hw1
  go_wp2_with fail
  have hc := qNum1 bb g l w1 S1.rd
  unfold src at hc
  refine hc.mono ?_
  clear hc
  rintro e w2 (⟨n, l1, h1, rfl, hr2, k2⟩ | ⟨hz, ⟨xz, rfl⟩, kz⟩)
  rotate_left
  · exact ⟨rfl, .inr ⟨pt7_no0 hz, ⟨_, rfl⟩, kept_gR S1.kept kz⟩⟩
  have C0 := @hideH _ (show Ch1 bb w w2 g R w.heap.size b p w1.heap.size n l1 0 [] l1 none 0 from ⟨rfl, Mny.start _ _ _, S1.took hr2 k2, Row.nil _ _ _, k2.size⟩)
  have HN := @hideH _ (show n < 256 by have := (num_some h1).2.2; simpa using this)
  have H1 := @hideH _ h1
  clear S1 b1 hr2 k2 h1
  go_wp2
  go_loopw [6] (fun vi wr => ∃ (k : Nat) (rs : List RowR) (lr : List UInt8) (pr : Option Addr) (cr : Nat), k ≤ n ∧ vi = .int .i64 k ∧ Hid (Ch1 bb w wr g R w.heap.size b p w1.heap.size n l1 k rs lr pr cr)) (fun vi _ => n - (intOf vi).toNat)
  case atStart => exact ⟨0, [], l1, none, 0, Nat.zero_le _, rfl, C0⟩
  case round =>
    clear C0
    obtain ⟨k, rs, lr, pr, cr, hk, rfl, hh⟩ := hrel
    by_cases hkl : k < n
    · have hkl' : (k : Int) < (n : Int) := by omega
      have wk : IntKind.i64.wrap ((k : Int) + 1) = (k : Int) + 1 := wrap_i64_of (by omega) (by have := HN.out; omega)
      have HK := @hideH _ hkl
      have hsub : (0 : Int) ≤ (k : Int) := by omega
      have HH := hh
      clear hh
      go_upto_region 3 with fail
      refine wp_region_late (fun w' => w'.cell? ⟨R, 9, none⟩ = some (.slice pr k cr) ∧ w'.cell? ⟨w.heap.size, 0, none⟩ = some (.pointer (some ⟨g, 0, none⟩))) 20 (by kernel_rfl) ?_
      have T0 := HH.out.ts.then (Kept.refl [] _).drew
      have hS : (fun w' : World => w'.cell? ⟨R, 9, none⟩ = some (.slice pr k cr) ∧ w'.cell? ⟨w.heap.size, 0, none⟩ = some (.pointer (some ⟨g, 0, none⟩))) _ := ⟨T0.blk.cell (j := 9) rfl, T0.bx⟩
      dsimp only at hS
      refine wpAnyZ_take 0 (v := ?va0) rfl (by kernel_rfl) (by kernel_rfl) (by kernel_rfl) (by kernel_rfl) (fun _ _ _ h => h) (by rfl) ?hya0 hS ?resta0
      case hya0 => (intro wx hSx; obtain ⟨hs1, hs2⟩ := hSx; go_simp; (try with_reducible rfl))
      (try simp only [Act.put, List.setIfInBounds_toArray, List.set_cons_zero, List.set_cons_succ])
      refine wpAnyZ_take 1 (v := ?va1) rfl (by kernel_rfl) (by kernel_rfl) (by kernel_rfl) (by kernel_rfl) (fun _ _ _ h => h) (by rfl) ?hya1 hS ?resta1
      case hya1 => (intro wx hSx; obtain ⟨hs1, hs2⟩ := hSx; go_simp; (try with_reducible rfl))
      (try simp only [Act.put, List.setIfInBounds_toArray, List.set_cons_zero, List.set_cons_succ])
      refine wpAnyZ_take 2 (v := ?va2) rfl (by kernel_rfl) (by kernel_rfl) (by kernel_rfl) (by kernel_rfl) (fun _ _ _ h => h) (by rfl) ?hya2 hS ?resta2
      case hya2 => (intro wx hSx; obtain ⟨hs1, hs2⟩ := hSx; go_simp; (try with_reducible rfl))
      (try simp only [Act.put, List.setIfInBounds_toArray, List.set_cons_zero, List.set_cons_succ])
      refine wpAnyZ_take 3 (v := ?va3) rfl (by kernel_rfl) (by kernel_rfl) (by kernel_rfl) (by kernel_rfl) (fun _ _ _ h => h) (by rfl) ?hya3 hS ?resta3
      case hya3 => (intro wx hSx; obtain ⟨hs1, hs2⟩ := hSx; go_simp; (try with_reducible rfl))
      (try simp only [Act.put, List.setIfInBounds_toArray, List.set_cons_zero, List.set_cons_succ])
      refine wpAnyZ_take 4 (v := ?va4) rfl (by kernel_rfl) (by kernel_rfl) (by kernel_rfl) (by kernel_rfl) (fun _ _ _ h => h) (by rfl) ?hya4 hS ?resta4
      case hya4 => (intro wx hSx; obtain ⟨hs1, hs2⟩ := hSx; go_simp; (try with_reducible rfl))
      (try simp only [Act.put, List.setIfInBounds_toArray, List.set_cons_zero, List.set_cons_succ])
      refine wpAnyZ_take 5 (v := ?va5) rfl (by kernel_rfl) (by kernel_rfl) (by kernel_rfl) (by kernel_rfl) (fun _ _ _ h => h) (by rfl) ?hya5 hS ?resta5
      case hya5 => (intro wx hSx; obtain ⟨hs1, hs2⟩ := hSx; go_simp; (try with_reducible rfl))
      (try simp only [Act.put, List.setIfInBounds_toArray, List.set_cons_zero, List.set_cons_succ])
      refine wpAnyZ_take 7 (v := ?va7) rfl (by kernel_rfl) (by kernel_rfl) (by kernel_rfl) (by kernel_rfl) (fun _ _ _ h => h) (by rfl) ?hya7 hS ?resta7
      case hya7 => (intro wx hSx; obtain ⟨hs1, hs2⟩ := hSx; go_simp; (try with_reducible rfl))
      (try simp only [Act.put, List.setIfInBounds_toArray, List.set_cons_zero, List.set_cons_succ])
      refine wpAnyZ_take 9 (v := ?va9) rfl (by kernel_rfl) (by kernel_rfl) (by kernel_rfl) (by kernel_rfl) (fun _ _ _ h => h) (by rfl) ?hya9 hS ?resta9
      case hya9 => (intro wx hSx; obtain ⟨hs1, hs2⟩ := hSx; go_simp; (try with_reducible rfl))
      (try simp only [Act.put, List.setIfInBounds_toArray, List.set_cons_zero, List.set_cons_succ])
      refine wpAnyZ_take 11 (v := ?va11) rfl (by kernel_rfl) (by kernel_rfl) (by kernel_rfl) (by kernel_rfl) (fun _ _ _ h => h) (by rfl) ?hya11 hS ?resta11
      case hya11 => (intro wx hSx; obtain ⟨hs1, hs2⟩ := hSx; go_simp; (try with_reducible rfl))
      (try simp only [Act.put, List.setIfInBounds_toArray, List.set_cons_zero, List.set_cons_succ])
      refine wpAnyZ_take 13 (v := ?va13) rfl (by kernel_rfl) (by kernel_rfl) (by kernel_rfl) (by kernel_rfl) (fun _ _ _ h => h) (by rfl) ?hya13 hS ?resta13
      case hya13 => (intro wx hSx; obtain ⟨hs1, hs2⟩ := hSx; go_simp; (try with_reducible rfl))
      (try simp only [Act.put, List.setIfInBounds_toArray, List.set_cons_zero, List.set_cons_succ])
      refine wpAnyZ_one 6 rfl (by kernel_rfl) (fun K hK => ?_)
      go_simp
      have hc := qEt bb g lr _ T0.rd
      unfold src at hc
      refine hc.mono ?_
      clear hc
      rintro e x1 (⟨v1, la1, e1, rfl, hr1, k1⟩ | ⟨hz, ⟨xz, rfl⟩, kz⟩)
      rotate_left
      · exact ⟨rfl, .inr ⟨pt7_no1 H1.out (HH.out.mny.fail HK.out (pRow_no1 hz)), ⟨_, rfl⟩, kept_gR T0.kept kz⟩⟩
      have T1 := T0.took hr1 k1
      have hS1 : x1.cell? ⟨R, 9, none⟩ = some (.slice pr k cr) ∧ x1.cell? ⟨w.heap.size, 0, none⟩ = some (.pointer (some ⟨g, 0, none⟩)) := ⟨T1.blk.cell (j := 9) rfl, T1.bx⟩
      dsimp only
      refine hK _ _ (fun _ => hS1) ?_
      clear hK K
      (try simp only [Act.put, List.setIfInBounds_toArray, List.set_cons_zero, List.set_cons_succ])
      refine wpAnyZ_one 8 rfl (by kernel_rfl) (fun K hK => ?_)
      go_simp
      have hc := qNum1 bb g la1 _ T1.rd
      unfold src at hc
      refine hc.mono ?_
      clear hc
      rintro e x2 (⟨v2, la2, e2, rfl, hr2, k2⟩ | ⟨hz, ⟨xz, rfl⟩, kz⟩)
      rotate_left
      · exact ⟨rfl, .inr ⟨pt7_no1 H1.out (HH.out.mny.fail HK.out (pRow_no2 e1 hz)), ⟨_, rfl⟩, kept_gR T1.kept kz⟩⟩
      have T2 := T1.took hr2 k2
      have hS2 : x2.cell? ⟨R, 9, none⟩ = some (.slice pr k cr) ∧ x2.cell? ⟨w.heap.size, 0, none⟩ = some (.pointer (some ⟨g, 0, none⟩)) := ⟨T2.blk.cell (j := 9) rfl, T2.bx⟩
      dsimp only
      refine hK _ _ (fun _ => hS2) ?_
      clear hK K
      (try simp only [Act.put, List.setIfInBounds_toArray, List.set_cons_zero, List.set_cons_succ])
      refine wpAnyZ_one 10 rfl (by kernel_rfl) (fun K hK => ?_)
      go_simp
      have hc := qNum1 bb g la2 _ T2.rd
      unfold src at hc
      refine hc.mono ?_
      clear hc
      rintro e x3 (⟨v3, la3, e3, rfl, hr3, k3⟩ | ⟨hz, ⟨xz, rfl⟩, kz⟩)
      rotate_left
      · exact ⟨rfl, .inr ⟨pt7_no1 H1.out (HH.out.mny.fail HK.out (pRow_no3 e1 e2 hz)), ⟨_, rfl⟩, kept_gR T2.kept kz⟩⟩
      have T3 := T2.took hr3 k3
      have hS3 : x3.cell? ⟨R, 9, none⟩ = some (.slice pr k cr) ∧ x3.cell? ⟨w.heap.size, 0, none⟩ = some (.pointer (some ⟨g, 0, none⟩)) := ⟨T3.blk.cell (j := 9) rfl, T3.bx⟩
      dsimp only
      refine hK _ _ (fun _ => hS3) ?_
      clear hK K
      (try simp only [Act.put, List.setIfInBounds_toArray, List.set_cons_zero, List.set_cons_succ])
      refine wpAnyZ_one 12 rfl (by kernel_rfl) (fun K hK => ?_)
      go_simp
      have hc := qEt bb g la3 _ T3.rd
      unfold src at hc
      refine hc.mono ?_
      clear hc
      rintro e x4 (⟨v4, la4, e4, rfl, hr4, k4⟩ | ⟨hz, ⟨xz, rfl⟩, kz⟩)
      rotate_left
      · exact ⟨rfl, .inr ⟨pt7_no1 H1.out (HH.out.mny.fail HK.out (pRow_no4 e1 e2 e3 hz)), ⟨_, rfl⟩, kept_gR T3.kept kz⟩⟩
      have T4 := T3.took hr4 k4
      have hS4 : x4.cell? ⟨R, 9, none⟩ = some (.slice pr k cr) ∧ x4.cell? ⟨w.heap.size, 0, none⟩ = some (.pointer (some ⟨g, 0, none⟩)) := ⟨T4.blk.cell (j := 9) rfl, T4.bx⟩
      dsimp only
      refine hK _ _ (fun _ => hS4) ?_
      clear hK K
      (try simp only [Act.put, List.setIfInBounds_toArray, List.set_cons_zero, List.set_cons_succ])
      refine wpAnyZ_one 14 rfl (by kernel_rfl) (fun K hK => ?_)
      go_simp
      have hc := qEt bb g la4 _ T4.rd
      unfold src at hc
      refine hc.mono ?_
      clear hc
      rintro e x5 (⟨v5, la5, e5, rfl, hr5, k5⟩ | ⟨hz, ⟨xz, rfl⟩, kz⟩)
      rotate_left
      · exact ⟨rfl, .inr ⟨pt7_no1 H1.out (HH.out.mny.fail HK.out (pRow_no5 e1 e2 e3 e4 hz)), ⟨_, rfl⟩, kept_gR T4.kept kz⟩⟩
      have T5 := T4.took hr5 k5
      have hS5 : x5.cell? ⟨R, 9, none⟩ = some (.slice pr k cr) ∧ x5.cell? ⟨w.heap.size, 0, none⟩ = some (.pointer (some ⟨g, 0, none⟩)) := ⟨T5.blk.cell (j := 9) rfl, T5.bx⟩
      dsimp only
      refine hK _ _ (fun _ => hS5) ?_
      clear hK K
      (try simp only [Act.put, List.setIfInBounds_toArray, List.set_cons_zero, List.set_cons_succ])
      have lg : ∀ x ∈ [g], x < w1.heap.size := fun x hx => by simp at hx; rw [hx]; exact LO.out.2.1
      refine wpAnyZ_one 15 rfl (by kernel_rfl) (fun K hK => ?_)
      go_simp
      refine hK _ _ (fun _ => hS5) ?_
      clear hK K
      (try simp only [Act.put, List.setIfInBounds_toArray, List.set_cons_zero, List.set_cons_succ])
      refine wpAnyZ_one 16 rfl (by kernel_rfl) (fun K hK => ?_)
      go_simp
      have TA := T5.then ((Kept.refl [] x5).alloc (.cells #[.int .i64 (v1 : Int), .int .i64 (v2 : Int), .int .i64 (v3 : Int), .int .i64 (v4 : Int), .int .i64 (v5 : Int)] 66))
      refine hK _ _ (fun _ => ⟨TA.blk.cell (j := 9) rfl, TA.bx⟩) ?_
      clear hK K
      (try simp only [Act.put, List.setIfInBounds_toArray, List.set_cons_zero, List.set_cons_succ])
      have hsrc := src_row (P := Try.prog) x5 23 66 Try.underlying23 (⟨(v1 : Int), (v2 : Int), (v3 : Int), (v4 : Int), (v5 : Int)⟩ : RowR)
      dsimp only at hsrc
      have RW := ((((((HH.out.row.kept (Kept.refl [] wr).drew (by simp)).past k1 lg).past k2 lg).past k3 lg).past k4 lg).past k5 lg)
      have HSZ := @hideH _ (show w1.heap.size ≤ x5.heap.size by have e0 := HH.out.hb; have q1 : wr.heap.size ≤ x1.heap.size := k1.size; have q2 := k2.size; have q3 := k3.size; have q4 := k4.size; have q5 := k5.size; omega)
      refine wpAnyZ_one 17 rfl (by kernel_rfl) (fun K hK => ?_)
      refine step_append_row rfl (.tmp 12) (.tmp 24) 23 rfl w1.heap.size 66 inf (.agg #[.int .i64 0, .int .i64 0, .int .i64 0, .int .i64 0, .int .i64 0]) 5 40 Try.underlying23 HI.out.1 HI.out.2.1 HI.out.2.2.1 HI.out.2.2.2 rfl _ k (rcells rs) (by rfl) (RW.kept ((Kept.refl [] x5).alloc _) (by simp)) _ 1 (rcells [(⟨(v1 : Int), (v2 : Int), (v3 : Int), (v4 : Int), (v5 : Int)⟩ : RowR)]) (by rfl) hsrc (by have := (show k + 1 ≤ 256 by have q1 := HN.out; have q2 := HK.out; omega); omega) (by have := (show k + 1 ≤ 256 by have q1 := HN.out; have q2 := HK.out; omega); unfold maxLen; omega) (by have := (show k + 1 ≤ 256 by have q1 := HN.out; have q2 := HK.out; omega); omega) (by have := HSZ.out; rw [World.size_alloc]; omega) ?_
      intro v' w' r' k' _
      obtain ⟨p', c', rfl, TW, CN⟩ := Ch1.next LO.out T5 RW HH.out.len HSZ.out (HH.out.mny.step HK.out (pRow_yes e1 e2 e3 e4 e5)) r' k'
      have CNH := @hideH _ CN
      clear CN
      have hSW : w'.cell? ⟨R, 9, none⟩ = some _ ∧ w'.cell? ⟨w.heap.size, 0, none⟩ = some (.pointer (some ⟨g, 0, none⟩)) := ⟨TW.blk.cell (j := 9) rfl, TW.bx⟩
      refine hK _ _ (fun _ => hSW) ?_
      clear hK K
      (try simp only [Act.put, List.setIfInBounds_toArray, List.set_cons_zero, List.set_cons_succ])
      have cw := TW.blk.cell (j := 9) rfl
      have fw := TW.blk.free 9
      clear hS r' k' RW hsrc TA TW HSZ T0 T1 T2 T3 T4 T5 k1 e1 hr1 hS1 k2 e2 hr2 hS2 k3 e3 hr3 hS3 k4 e4 hr4 hS4 k5 e5 hr5 hS5
      refine wpAnyZ_one 18 rfl (by kernel_rfl) (fun K hK => ?_)
      go_simp
      refine hK _ _ (fun _ => hSW) ?_
      clear hK K
      (try simp only [Act.put, List.setIfInBounds_toArray, List.set_cons_zero, List.set_cons_succ])
      refine wpAnyZ_one 19 rfl (by kernel_rfl) (fun K hK => ?_)
      go_simp
      refine hK _ _ (fun _ => hSW) ?_
      clear hK K
      (try simp only [Act.put, List.setIfInBounds_toArray, List.set_cons_zero, List.set_cons_succ])
      refine wpAnyZ_one 20 rfl (by kernel_rfl) (fun K hK => ?_)
      go_simp
      refine hK _ _ (fun h => absurd rfl h) ?_
      clear hK K
      (try simp only [Act.put, List.setIfInBounds_toArray, List.set_cons_zero, List.set_cons_succ])
      refine wpAnyZ_done (by kernel_rfl) ?_ _
      clear hSW cw fw
      clear HH lg
      go_wp2
      go_roundw
      case rel => exact ⟨k + 1, rs ++ [⟨(v1 : Int), (v2 : Int), (v3 : Int), (v4 : Int), (v5 : Int)⟩], la5, p', c', by omega, by go_num, CNH⟩
      case measure => simp [intOf]; omega
    · have hkl' : ¬ (k : Int) < (n : Int) := by omega
      obtain rfl : k = n := by omega
      have M1 := @hideH _ hh.out.mny.done
      have b3 := hh.out.ts.bx
      have HH := hh
      clear hh
      go_wp2_with fail
      have hc := qNum1 bb g lr wr HH.out.ts.rd
      unfold src at hc
      refine hc.mono ?_
      clear hc
      rintro e w3 (⟨m, l3, h3, rfl, hr3, k3⟩ | ⟨hz, ⟨xz, rfl⟩, kz⟩)
      rotate_left
      · exact ⟨rfl, .inr ⟨pt7_no2 H1.out M1.out hz, ⟨_, rfl⟩, kept_gR HH.out.ts.kept kz⟩⟩
      have lg : ∀ x ∈ [g], x < w1.heap.size := fun x hx => by simp at hx; rw [hx]; exact LO.out.2.1
      have LB := @hideH _ (Nat.le_trans HH.out.hb k3.size)
      have C0 := @hideH _ (show Ch2 bb w w3 g R w.heap.size b p w1.heap.size w3.heap.size k rs pr cr m l3 0 [] l3 none 0 from ⟨rfl, Mny.start _ _ _, HH.out.ts.took hr3 k3, HH.out.row.past k3 lg, Row.nil _ _ _, Nat.le_refl _, fun x hx => Nat.lt_of_lt_of_le (HH.out.row.lt x hx).2 k3.size⟩)
      have HM := @hideH _ (show m < 256 by have := (num_some h3).2.2; simpa using this)
      have H3 := @hideH _ h3
      have HLR := @hideH _ HH.out.len
      clear b3 hr3 k3 h3 HH lg
      go_wp2
      go_loopw [31] (fun vi wr => ∃ (q : Nat) (ds : List RecR) (lr : List UInt8) (pd : Option Addr) (cd : Nat), q ≤ m ∧ vi = .int .i64 q ∧ Hid (Ch2 bb w wr g R w.heap.size b p w1.heap.size w3.heap.size k rs pr cr m l3 q ds lr pd cd)) (fun vi _ => m - (intOf vi).toNat)
      case atStart => exact ⟨0, [], l3, none, 0, Nat.zero_le _, rfl, C0⟩
      case round =>
        clear C0
        obtain ⟨q, ds, lr, pd, cd, hq, rfl, hh⟩ := hrel
        by_cases hql : q < m
        · have hql' : (q : Int) < (m : Int) := by omega
          have wk : IntKind.i64.wrap ((q : Int) + 1) = (q : Int) + 1 := wrap_i64_of (by omega) (by have := HM.out; omega)
          have HK := @hideH _ hql
          have HH := hh
          clear hh
          skip
          go_upto_region 7 with fail
          refine wp_region_late (fun w' => w'.cell? ⟨R, 10, none⟩ = some (.slice pd q cd) ∧ w'.cell? ⟨w.heap.size, 0, none⟩ = some (.pointer (some ⟨g, 0, none⟩))) 14 (by kernel_rfl) ?_
          have T0 := HH.out.ts.then (Kept.refl [] _).drew
          have hS : (fun w' : World => w'.cell? ⟨R, 10, none⟩ = some (.slice pd q cd) ∧ w'.cell? ⟨w.heap.size, 0, none⟩ = some (.pointer (some ⟨g, 0, none⟩))) _ := ⟨T0.blk.cell (j := 10) rfl, T0.bx⟩
          dsimp only at hS
          refine wpAnyZ_take 0 (v := ?vb0) rfl (by kernel_rfl) (by kernel_rfl) (by kernel_rfl) (by kernel_rfl) (fun _ _ _ h => h) (by rfl) ?hyb0 hS ?restb0
          case hyb0 => (intro wx hSx; obtain ⟨hs1, hs2⟩ := hSx; go_simp; (try with_reducible rfl))
          (try simp only [Act.put, List.setIfInBounds_toArray, List.set_cons_zero, List.set_cons_succ])
          refine wpAnyZ_take 1 (v := ?vb1) rfl (by kernel_rfl) (by kernel_rfl) (by kernel_rfl) (by kernel_rfl) (fun _ _ _ h => h) (by rfl) ?hyb1 hS ?restb1
          case hyb1 => (intro wx hSx; obtain ⟨hs1, hs2⟩ := hSx; go_simp; (try with_reducible rfl))
          (try simp only [Act.put, List.setIfInBounds_toArray, List.set_cons_zero, List.set_cons_succ])
          refine wpAnyZ_take 2 (v := ?vb2) rfl (by kernel_rfl) (by kernel_rfl) (by kernel_rfl) (by kernel_rfl) (fun _ _ _ h => h) (by rfl) ?hyb2 hS ?restb2
          case hyb2 => (intro wx hSx; obtain ⟨hs1, hs2⟩ := hSx; go_simp; (try with_reducible rfl))
          (try simp only [Act.put, List.setIfInBounds_toArray, List.set_cons_zero, List.set_cons_succ])
          refine wpAnyZ_take 3 (v := ?vb3) rfl (by kernel_rfl) (by kernel_rfl) (by kernel_rfl) (by kernel_rfl) (fun _ _ _ h => h) (by rfl) ?hyb3 hS ?restb3
          case hyb3 => (intro wx hSx; obtain ⟨hs1, hs2⟩ := hSx; go_simp; (try with_reducible rfl))
          (try simp only [Act.put, List.setIfInBounds_toArray, List.set_cons_zero, List.set_cons_succ])
          refine wpAnyZ_take 4 (v := ?vb4) rfl (by kernel_rfl) (by kernel_rfl) (by kernel_rfl) (by kernel_rfl) (fun _ _ _ h => h) (by rfl) ?hyb4 hS ?restb4
          case hyb4 => (intro wx hSx; obtain ⟨hs1, hs2⟩ := hSx; go_simp; (try with_reducible rfl))
          (try simp only [Act.put, List.setIfInBounds_toArray, List.set_cons_zero, List.set_cons_succ])
          refine wpAnyZ_take 5 (v := ?vb5) rfl (by kernel_rfl) (by kernel_rfl) (by kernel_rfl) (by kernel_rfl) (fun _ _ _ h => h) (by rfl) ?hyb5 hS ?restb5
          case hyb5 => (intro wx hSx; obtain ⟨hs1, hs2⟩ := hSx; go_simp; (try with_reducible rfl))
          (try simp only [Act.put, List.setIfInBounds_toArray, List.set_cons_zero, List.set_cons_succ])
          refine wpAnyZ_take 7 (v := ?vb7) rfl (by kernel_rfl) (by kernel_rfl) (by kernel_rfl) (by kernel_rfl) (fun _ _ _ h => h) (by rfl) ?hyb7 hS ?restb7
          case hyb7 => (intro wx hSx; obtain ⟨hs1, hs2⟩ := hSx; go_simp; (try with_reducible rfl))
          (try simp only [Act.put, List.setIfInBounds_toArray, List.set_cons_zero, List.set_cons_succ])
          refine wpAnyZ_one 6 rfl (by kernel_rfl) (fun K hK => ?_)
          go_simp
          have hc := qNum1 bb g lr _ T0.rd
          unfold src at hc
          refine hc.mono ?_
          clear hc
          rintro e x1 (⟨v1, lb1, e1, rfl, hr1, k1⟩ | ⟨hz, ⟨xz, rfl⟩, kz⟩)
          rotate_left
          · exact ⟨rfl, .inr ⟨pt7_no3 H1.out M1.out H3.out (HH.out.mny.fail HK.out (pRec_no1 hz)), ⟨_, rfl⟩, kept_gR T0.kept kz⟩⟩
          have T1 := T0.took hr1 k1
          have hS1 : x1.cell? ⟨R, 10, none⟩ = some (.slice pd q cd) ∧ x1.cell? ⟨w.heap.size, 0, none⟩ = some (.pointer (some ⟨g, 0, none⟩)) := ⟨T1.blk.cell (j := 10) rfl, T1.bx⟩
          dsimp only
          refine hK _ _ (fun _ => hS1) ?_
          clear hK K
          (try simp only [Act.put, List.setIfInBounds_toArray, List.set_cons_zero, List.set_cons_succ])
          refine wpAnyZ_one 8 rfl (by kernel_rfl) (fun K hK => ?_)
          go_simp
          have hc := qEt bb g lb1 _ T1.rd
          unfold src at hc
          refine hc.mono ?_
          clear hc
          rintro e x2 (⟨v2, lb2, e2, rfl, hr2, k2⟩ | ⟨hz, ⟨xz, rfl⟩, kz⟩)
          rotate_left
          · exact ⟨rfl, .inr ⟨pt7_no3 H1.out M1.out H3.out (HH.out.mny.fail HK.out (pRec_no2 e1 hz)), ⟨_, rfl⟩, kept_gR T1.kept kz⟩⟩
          have T2 := T1.took hr2 k2
          have hS2 : x2.cell? ⟨R, 10, none⟩ = some (.slice pd q cd) ∧ x2.cell? ⟨w.heap.size, 0, none⟩ = some (.pointer (some ⟨g, 0, none⟩)) := ⟨T2.blk.cell (j := 10) rfl, T2.bx⟩
          dsimp only
          refine hK _ _ (fun _ => hS2) ?_
          clear hK K
          (try simp only [Act.put, List.setIfInBounds_toArray, List.set_cons_zero, List.set_cons_succ])
          have lg : ∀ x ∈ [g], x < w1.heap.size := fun x hx => by simp at hx; rw [hx]; exact LO.out.2.1
          have lg2 : ∀ x ∈ [g], x < w3.heap.size := fun x hx => Nat.lt_of_lt_of_le (lg x hx) LB.out
          refine wpAnyZ_one 9 rfl (by kernel_rfl) (fun K hK => ?_)
          go_simp
          refine hK _ _ (fun _ => hS2) ?_
          clear hK K
          (try simp only [Act.put, List.setIfInBounds_toArray, List.set_cons_zero, List.set_cons_succ])
          refine wpAnyZ_one 10 rfl (by kernel_rfl) (fun K hK => ?_)
          go_simp
          have TA := T2.then ((Kept.refl [] x2).alloc (.cells #[.int .i64 (v1 : Int), .int .i64 (v2 : Int)] 68))
          refine hK _ _ (fun _ => ⟨TA.blk.cell (j := 10) rfl, TA.bx⟩) ?_
          clear hK K
          (try simp only [Act.put, List.setIfInBounds_toArray, List.set_cons_zero, List.set_cons_succ])
          have hsrc := src_rec (P := Try.prog) x2 24 68 Try.underlying24 (⟨(v1 : Int), (v2 : Int)⟩ : RecR)
          dsimp only at hsrc
          have RW := (((HH.out.row.kept (Kept.refl [] wr).drew (by simp)).past k1 lg2).past k2 lg2)
          have RQ := (((HH.out.rows.kept (Kept.refl [] wr).drew (by simp)).past k1 lg).past k2 lg)
          have HSZ := @hideH _ (show w3.heap.size ≤ x2.heap.size by have e0 := HH.out.hb; have q1 : wr.heap.size ≤ x1.heap.size := k1.size; have q2 := k2.size; omega)
          refine wpAnyZ_one 11 rfl (by kernel_rfl) (fun K hK => ?_)
          refine step_append_row rfl (.tmp 37) (.tmp 43) 24 rfl w3.heap.size 68 inf2 (.agg #[.int .i64 0, .int .i64 0]) 2 16 Try.underlying24 HI2.out.1 HI2.out.2.1 HI2.out.2.2.1 HI2.out.2.2.2 rfl _ q (dcells ds) (by rfl) (RW.kept ((Kept.refl [] x2).alloc _) (by simp)) _ 1 (dcells [(⟨(v1 : Int), (v2 : Int)⟩ : RecR)]) (by rfl) hsrc (by have := (show q + 1 ≤ 256 by have q1 := HM.out; have q2 := HK.out; omega); omega) (by have := (show q + 1 ≤ 256 by have q1 := HM.out; have q2 := HK.out; omega); unfold maxLen; omega) (by have := (show q + 1 ≤ 256 by have q1 := HM.out; have q2 := HK.out; omega); omega) (by have := HSZ.out; rw [World.size_alloc]; omega) ?_
          intro v' w' r' k' _
          obtain ⟨p', c', rfl, TW, CN⟩ := Ch2.next LO.out LB.out T2 RQ RW HH.out.len HSZ.out HH.out.far (HH.out.mny.step HK.out (pRec_yes e1 e2)) r' k'
          have CNH := @hideH _ CN
          clear CN
          have hSW : w'.cell? ⟨R, 10, none⟩ = some _ ∧ w'.cell? ⟨w.heap.size, 0, none⟩ = some (.pointer (some ⟨g, 0, none⟩)) := ⟨TW.blk.cell (j := 10) rfl, TW.bx⟩
          refine hK _ _ (fun _ => hSW) ?_
          clear hK K
          (try simp only [Act.put, List.setIfInBounds_toArray, List.set_cons_zero, List.set_cons_succ])
          have cw := TW.blk.cell (j := 10) rfl
          have fw := TW.blk.free 10
          clear hS r' k' RW hsrc TA TW HSZ T0 T1 T2 k1 e1 hr1 hS1 k2 e2 hr2 hS2
          refine wpAnyZ_one 12 rfl (by kernel_rfl) (fun K hK => ?_)
          go_simp
          refine hK _ _ (fun _ => hSW) ?_
          clear hK K
          (try simp only [Act.put, List.setIfInBounds_toArray, List.set_cons_zero, List.set_cons_succ])
          refine wpAnyZ_one 13 rfl (by kernel_rfl) (fun K hK => ?_)
          go_simp
          refine hK _ _ (fun _ => hSW) ?_
          clear hK K
          (try simp only [Act.put, List.setIfInBounds_toArray, List.set_cons_zero, List.set_cons_succ])
          refine wpAnyZ_one 14 rfl (by kernel_rfl) (fun K hK => ?_)
          go_simp
          refine hK _ _ (fun h => absurd rfl h) ?_
          clear hK K
          (try simp only [Act.put, List.setIfInBounds_toArray, List.set_cons_zero, List.set_cons_succ])
          refine wpAnyZ_done (by kernel_rfl) ?_ _
          clear hSW cw fw
          clear HH lg lg2 RQ
          go_wp2
          go_roundw
          case rel => exact ⟨q + 1, ds ++ [⟨(v1 : Int), (v2 : Int)⟩], lb2, p', c', by omega, by go_num, CNH⟩
          case measure => simp [intOf]; omega
        · have hql' : ¬ (q : Int) < (m : Int) := by omega
          obtain rfl : q = m := by omega
          have FIN := @hideH _ (show Out bb w wr g R (pTail 7 b p l) (.returned (.tuple #[])) from .inl ⟨⟨7, b, p, 0, 0, 0, [], [], 0, rs, ds⟩, lr, ⟨.slice none 0 0, .slice none 0 0, .slice pr k cr, .slice pd q cd⟩, w.heap.size, pt7_yes H1.out M1.out H3.out hh.out.mny.done, rfl, hh.out.ts, ⟨own_nil _ _, own_nil _ _, (by rw [HLR.out]; exact hh.out.rows.mono LO.out.2.2.2.2), (by rw [hh.out.len]; exact hh.out.row.mono (Nat.le_trans LO.out.2.2.2.2 LB.out)), .nil_l _, .nil_l _, .nil_l _, .nil_l _, .nil_l _, fun x hx e => by have e1 := hh.out.far x hx; have e2 := (hh.out.row.lt x e).1; omega⟩⟩)
          clear hh
          go_wp2
          go_end0
          exact FIN.out
end Go.Proofs.Ytebcmcmboomgfaa

/-
  OWN WORK (by mkpr8.py). record: readers, take.
-/
namespace Go.Proofs.Ytebcmcmboomgfaa
open Go.RowKit
set_option linter.unusedVariables false
set_option linter.unusedSimpArgs false

def fnK : Nat → Nat
  | 1 => 72
  | 2 => 73
  | 3 => 74
  | 7 => 76
  | _ => 75
def fnCells : List Value := [.nilFunc, .func (.func (fnK 1)) #[] #[], .func (.func (fnK 2)) #[] #[], .func (.func (fnK 3)) #[] #[], .func (.func (fnK 4)) #[] #[], .func (.func (fnK 5)) #[] #[], .func (.func (fnK 6)) #[] #[], .func (.func (fnK 7)) #[] #[]]
theorem fnCells_at {v : Nat} (h1 : 1 ≤ v) (h2 : v ≤ 7) : fnCells[v]? = some (.func (.func (fnK v)) #[] #[]) := by
  have : v = 1 ∨ v = 2 ∨ v = 3 ∨ v = 4 ∨ v = 5 ∨ v = 6 ∨ v = 7 := by omega
  rcases this with rfl | rfl | rfl | rfl | rfl | rfl | rfl <;> rfl
theorem qReaders (w : World) : Calls Try.prog 55 #[] w fun e w' => e = .returned (.slice (some ⟨w.heap.size, 0, none⟩) 8 8) ∧ Blk w' w.heap.size 88 fnCells ∧ Kept [] w w' := by
  go_enter Try.func55, Try.ntmps55
  go_wp2
  go_ret
  exact ⟨rfl, Blk.new w _ fnCells, (Kept.refl [] w).alloc _⟩
theorem qFn (bb g R v b p : Nat) (l : List UInt8) (w : World) (h1 : 1 ≤ v) (h2 : v ≤ 7) (hr : Rs bb w g l) (hb : Blk w R 26 ((bareR v b p).cl nilV)) (hne : g ≠ R) (hbb : bb ≤ w.heap.size) (hl : l.length ≤ 140737488355328) : Calls Try.prog (fnK v) #[src g, .pointer (some ⟨R, 0, none⟩)] w fun e w' => Out bb w w' g R (pTail v b p l) e := by
  have : v = 1 ∨ v = 2 ∨ v = 3 ∨ v = 4 ∨ v = 5 ∨ v = 6 ∨ v = 7 := by omega
  rcases this with rfl | rfl | rfl | rfl | rfl | rfl | rfl
  · exact qBegin bb g R b p l w hr hb hne
  · exact qUpdate bb g R b p l w hr hb hne hl
  · exact qUndo bb g R b p l w hr hb hne hl
  · exact qNothing bb g R 4 b p l w hr hb hne (by omega)
  · exact qNothing bb g R 5 b p l w hr hb hne (by omega)
  · exact qNothing bb g R 6 b p l w hr hb hne (by omega)
  · exact qCheck bb g R b p l w hr hb hne hbb
theorem fnK_call {v : Nat} (h1 : 1 ≤ v) (h2 : v ≤ 7) (args : Array Value) (w : World) : (callFunc (fnK v) args).run Try.prog w = .ok (.enter (fnK v) args) w := by
  have : v = 1 ∨ v = 2 ∨ v = 3 ∨ v = 4 ∨ v = 5 ∨ v = 6 ∨ v = 7 := by omega
  rcases this with rfl | rfl | rfl | rfl | rfl | rfl | rfl
  · simp only [fnK]; go_simp
  · simp only [fnK]; go_simp
  · simp only [fnK]; go_simp
  · simp only [fnK]; go_simp
  · simp only [fnK]; go_simp
  · simp only [fnK]; go_simp
  · simp only [fnK]; go_simp
theorem Blk.fill11 {w : World} {g : Nat} {t : TypeId} {z0 z1 z2 z3 z4 z5 z6 z7 z8 z9 z10 : Value} (h : Blk w g t [z0, z1, z2, z3, z4, z5, z6, z7, z8, z9, z10]) (v0 v1 v2 v3 v4 v5 v6 v7 v8 v9 v10 : Value) : Blk (((((((((((w.setCell ⟨g, 0, none⟩ v0).setCell ⟨g, 1, none⟩ v1).setCell ⟨g, 2, none⟩ v2).setCell ⟨g, 3, none⟩ v3).setCell ⟨g, 4, none⟩ v4).setCell ⟨g, 5, none⟩ v5).setCell ⟨g, 6, none⟩ v6).setCell ⟨g, 7, none⟩ v7).setCell ⟨g, 8, none⟩ v8).setCell ⟨g, 9, none⟩ v9).setCell ⟨g, 10, none⟩ v10) g t [v0, v1, v2, v3, v4, v5, v6, v7, v8, v9, v10] ∧ Kept [g] w (((((((((((w.setCell ⟨g, 0, none⟩ v0).setCell ⟨g, 1, none⟩ v1).setCell ⟨g, 2, none⟩ v2).setCell ⟨g, 3, none⟩ v3).setCell ⟨g, 4, none⟩ v4).setCell ⟨g, 5, none⟩ v5).setCell ⟨g, 6, none⟩ v6).setCell ⟨g, 7, none⟩ v7).setCell ⟨g, 8, none⟩ v8).setCell ⟨g, 9, none⟩ v9).setCell ⟨g, 10, none⟩ v10) := by
  obtain ⟨b0, k0⟩ := h.set 0 v0
  obtain ⟨b1, k1⟩ := b0.set 1 v1
  obtain ⟨b2, k2⟩ := b1.set 2 v2
  obtain ⟨b3, k3⟩ := b2.set 3 v3
  obtain ⟨b4, k4⟩ := b3.set 4 v4
  obtain ⟨b5, k5⟩ := b4.set 5 v5
  obtain ⟨b6, k6⟩ := b5.set 6 v6
  obtain ⟨b7, k7⟩ := b6.set 7 v7
  obtain ⟨b8, k8⟩ := b7.set 8 v8
  obtain ⟨b9, k9⟩ := b8.set 9 v9
  obtain ⟨b10, k10⟩ := b9.set 10 v10
  exact ⟨b10, ((((((((((k0.trans k1 (fun x hx => .inl hx)).trans k2 (fun x hx => .inl hx)).trans k3 (fun x hx => .inl hx)).trans k4 (fun x hx => .inl hx)).trans k5 (fun x hx => .inl hx)).trans k6 (fun x hx => .inl hx)).trans k7 (fun x hx => .inl hx)).trans k8 (fun x hx => .inl hx)).trans k9 (fun x hx => .inl hx)).trans k10 (fun x hx => .inl hx))⟩
section
variable {l l1 l2 l3 r : List UInt8} {v b p : Nat} {x : Rcd}
theorem pr_no {l : List UInt8} (h : pAll l = none) : parseR l = none := by unfold parseR; rw [h]
theorem pr_k0 (hz : num 1 l = none) : parseR l = none := pr_no (Ps.bind_none hz)
theorem pr_kind (h : num 1 l = some (v, l1)) (hv : ¬ (1 ≤ v ∧ v ≤ 7)) : parseR l = none := by
  cases hp : parseR l with
  | none => rfl
  | some y =>
    exfalso
    obtain ⟨-, hR, hb⟩ := parseR_some hp
    have e := (num_some h).1
    rw [hb] at e
    have e2 := hR.1
    unfold bytesR at e
    have h8 := congrArg List.head? e
    have hlt := (num_some h).2.2
    simp [putN] at h8
    have h9 := congrArg UInt8.toNat h8
    simp at h9
    omega
theorem pr_b0 (h : num 1 l = some (v, l1)) (hz : num 8 l1 = none) : parseR l = none := pr_no (by unfold pAll; rw [Ps.bind_of h]; exact Ps.bind_none hz)
theorem pr_p0 (h : num 1 l = some (v, l1)) (h2 : num 8 l1 = some (b, l2)) (hz : num 8 l2 = none) : parseR l = none := pr_no (by unfold pAll; rw [Ps.bind_of h, Ps.bind_of h2]; exact Ps.bind_none hz)
theorem pAll_eq (h : num 1 l = some (v, l1)) (h2 : num 8 l1 = some (b, l2)) (h3 : num 8 l2 = some (p, l3)) : pAll l = pTail v b p l3 := by unfold pAll; rw [Ps.bind_of h, Ps.bind_of h2, Ps.bind_of h3]
theorem pr_trail (h : pAll l = some (x, r)) (hr : r ≠ []) : parseR l = none := by
  unfold parseR
  rw [h]
  cases r with
  | nil => exact absurd rfl hr
  | cons a s => simp
end

set_option maxRecDepth 20000 in
set_option maxHeartbeats 6400000 in
theorem qTake (g : Nat) (l : List UInt8) (w : World) (hr : Rs w.heap.size w g l) (hl : l.length ≤ 140737488355328) : Calls Try.prog 33 #[src g] w fun e w' => (∃ x V, pAll l = some (x, []) ∧ e = .returned (x.agg V) ∧ OwnR w.heap.size w' V x ∧ Kept [g] w w') ∨ (parseR l = none ∧ Gave e ∧ Kept [g] w w') := by
  have HLN := @hideH _ hl
  clear hl
  have hg := hr.rd.lt
  obtain ⟨w1, hw1⟩ : ∃ w1, w1 = (w.alloc (.cells #[.pointer (some ⟨g, 0, none⟩)] 64)).alloc (.cells #[.int .i64 0, .int .i64 0, .int .i64 0, .int .i64 0, .int .i64 0, .int .i64 0, .slice none 0 0, .slice none 0 0, .int .i64 0, .slice none 0 0, .slice none 0 0] 26) := ⟨_, rfl⟩
  have K1 : Kept [] w w1 := by rw [hw1]; exact ((Kept.refl [] w).alloc _).alloc _
  have BX : Blk w1 w.heap.size 64 [.pointer (some ⟨g, 0, none⟩)] := by rw [hw1]; exact (Blk.new w _ _).kept ((Kept.refl [] _).alloc _) (by simp)
  have BA : Blk w1 (w.heap.size + 1) 26 [.int .i64 0, .int .i64 0, .int .i64 0, .int .i64 0, .int .i64 0, .int .i64 0, .slice none 0 0, .slice none 0 0, .int .i64 0, .slice none 0 0, .slice none 0 0] := by rw [hw1]; have q := Blk.new (w.alloc (.cells #[.pointer (some ⟨g, 0, none⟩)] 64)) 26 [.int .i64 0, .int .i64 0, .int .i64 0, .int .i64 0, .int .i64 0, .int .i64 0, .slice none 0 0, .slice none 0 0, .int .i64 0, .slice none 0 0, .slice none 0 0]; rw [World.size_alloc] at q; exact q
  have S1 : Rs w.heap.size w1 g l := hr.kept K1
  have b1 := BX.cell (j := 0) rfl
  clear hr
  unfold src
  go_enter Try.func33, Try.ntmps33
  go_upto_region 1 with fail
  rw [← hw1]
  clear hw1
  go_wp2_with fail
  have hc := qNum1 _ g l w1 S1
  unfold src at hc
  refine hc.mono ?_
  clear hc
  rintro e w2 (⟨v, l1, h1, rfl, hr2, k2⟩ | ⟨hz, ⟨xz, rfl⟩, kz⟩)
  rotate_left
  · exact ⟨rfl, .inr ⟨pr_k0 hz, ⟨_, rfl⟩, ((Kept.refl [g] w).then K1).trans kz (fun x hx => .inl hx)⟩⟩
  have HV := @hideH _ (show v < 256 by have := (num_some h1).2.2; simpa using this)
  obtain ⟨w3, hw3⟩ : ∃ w3, w3 = w2.alloc (.cells #[.int .i64 (v : Int), .int .i64 0, .int .i64 0, .int .i64 0, .int .i64 0, .int .i64 0, .slice none 0 0, .slice none 0 0, .int .i64 0, .slice none 0 0, .slice none 0 0] 26) := ⟨_, rfl⟩
  have kA : Kept [] w2 w3 := by rw [hw3]; exact (Kept.refl [] w2).alloc _
  have BR : Blk w3 w2.heap.size 26 ((bareR v 0 0).cl nilV) := by rw [hw3]; exact Blk.new w2 _ _
  have nBg : w.heap.size ≠ g := by omega
  have nAg : w.heap.size + 1 ≠ g := by omega
  have sz2 : w.heap.size + 2 ≤ w2.heap.size := by have e1 := BA.lt; have e2 := k2.size; omega
  have BX3 := (BX.kept k2 (by simpa using nBg)).kept kA (by simp)
  have BA3 := (BA.kept k2 (by simpa using nAg)).kept kA (by simp)
  have T3 : TS w.heap.size w3 w3 g w2.heap.size w.heap.size l1 ((bareR v 0 0).cl nilV) := ⟨hr2.kept kA, BR, plain_bare _ _ _, by omega, BX3, ⟨nBg, by omega⟩, Kept.refl _ _⟩
  have K3 := @hideH _ (show Kept [g] w w3 from (((Kept.refl [g] w).then K1).trans k2 (fun x hx => .inl hx)).then kA)
  have SZ := @hideH _ (And.intro hg sz2)
  have H1 := @hideH _ h1
  have L1 := @hideH _ (Nat.le_trans (num_len h1) HLN.out)
  obtain ⟨R, hR⟩ : ∃ R, R = w2.heap.size := ⟨_, rfl⟩
  have HBA := @hideH _ BA3
  have szR : w2.heap.size < w3.heap.size := BR.lt
  clear BX BA BX3 BA3 S1 b1 k2 kA BR hr2 h1 nBg nAg sz2 K1 hg
  go_upto_region 2 with fail
  rw [← hw3]
  clear hw3
  rw [← hR] at T3 SZ szR ⊢
  clear hR
  go_wp2_with fail
  refine (qReaders _).mono ?_
  rintro e w4 ⟨rfl, BF, k4⟩
  have T4 := T3.then k4
  have HB4 := @hideH _ (HBA.out.kept k4 (by simp))
  have HBF := @hideH _ BF
  have GF := @hideH _ (show R < w3.heap.size from szR)
  clear T3 HBA BF k4 szR
  have c40 : w4.cell? ⟨R, 0, none⟩ = some (.int .i64 (v : Int)) := T4.blk.cell (j := 0) rfl
  by_cases hv : 1 ≤ v ∧ v ≤ 7
  rotate_left
  · have hno := @hideH _ (pr_kind H1.out hv)
    have KE := @hideH _ (show Kept [g] w w4 from K3.out.trans T4.kept (fun x hx => by simp at hx; rcases hx with q | q; exact .inl (by simp [q]); exact .inr (by have := SZ.out.2; omega)))
    by_cases hv1 : (v : Int) < 1
    · go_wp2_with fail
      refine (qGive 90 (by decide) _).mono ?_
      rintro e w5 ⟨rfl, rfl⟩
      exact ⟨rfl, .inr ⟨hno.out, ⟨_, rfl⟩, KE.out⟩⟩
    · have hv8 : (8 : Int) ≤ (v : Int) := by omega
      go_wp2_with fail
      refine (qGive 90 (by decide) _).mono ?_
      rintro e w5 ⟨rfl, rfl⟩
      exact ⟨rfl, .inr ⟨hno.out, ⟨_, rfl⟩, KE.out⟩⟩
  have hv1 : ¬ (v : Int) < 1 := by omega
  have hv8 : ¬ (8 : Int) ≤ (v : Int) := by omega
  have b4 := T4.bx
  have KT : ∀ {wx : World}, Kept [g, R] w3 wx → Kept [g] w wx := fun k => K3.out.trans k (fun x hx => by simp at hx; rcases hx with q | q; exact .inl (by simp [q]); exact .inr (by have := SZ.out.2; omega))
  have HKT := @hideH _ (@KT)
  skip
  go_wp2_with fail
  have hc := qEt _ g l1 w4 T4.rd
  unfold src at hc
  refine hc.mono ?_
  clear hc
  rintro e w5 (⟨b, l2, h2, rfl, hr, k⟩ | ⟨hz, ⟨xz, rfl⟩, kz⟩)
  rotate_left
  · exact ⟨rfl, .inr ⟨pr_b0 H1.out hz, ⟨_, rfl⟩, KT (kept_gR T4.kept kz)⟩⟩
  have T5 := T4.took hr k
  have HB5 := @hideH _ (HB4.out.kept k (by simp; have := SZ.out.1; omega))
  have HF5 := @hideH _ (HBF.out.kept k (by simp; have e1 := SZ.out.1; have e2 := K3.out.size; omega))
  clear HB4 HBF c40 b4 T4 hr k
  have cs := T5.blk.cell (j := 1) rfl
  have fs := T5.blk.free 1
  obtain ⟨w6, hw⟩ : ∃ wx, wx = w5.setCell ⟨R, 1, none⟩ (.int .i64 (b : Int)) := ⟨_, rfl⟩
  have T6 := T5.set 1 (.int .i64 (b : Int)) (int_not8 _)
  have kS := (T5.blk.set 1 (.int .i64 (b : Int))).2
  rw [← hw] at T6 kS
  have HB6 := @hideH _ (HB5.out.kept kS (by simp; have := SZ.out.2; omega))
  have HF6 := @hideH _ (HF5.out.kept kS (by simp; have := GF.out; omega))
  have bx := T6.bx
  clear T5 HB5 HF5 kS
  go_upto_region 6 with fail
  rw [← hw]
  clear hw cs fs
  go_wp2_with fail
  have hc := qEt _ g l2 w6 T6.rd
  unfold src at hc
  refine hc.mono ?_
  clear hc
  rintro e w7 (⟨p, l3, h3, rfl, hr, k⟩ | ⟨hz, ⟨xz, rfl⟩, kz⟩)
  rotate_left
  · exact ⟨rfl, .inr ⟨pr_p0 H1.out h2 hz, ⟨_, rfl⟩, KT (kept_gR T6.kept kz)⟩⟩
  have T7 := T6.took hr k
  have HB7 := @hideH _ (HB6.out.kept k (by simp; have := SZ.out.1; omega))
  have HF7 := @hideH _ (HF6.out.kept k (by simp; have e1 := SZ.out.1; have e2 := K3.out.size; omega))
  clear HB6 HF6 T6 hr k bx
  have cs := T7.blk.cell (j := 2) rfl
  have fs := T7.blk.free 2
  obtain ⟨w8, hw⟩ : ∃ wx, wx = w7.setCell ⟨R, 2, none⟩ (.int .i64 (p : Int)) := ⟨_, rfl⟩
  have T8 := T7.set 2 (.int .i64 (p : Int)) (int_not8 _)
  have kS := (T7.blk.set 2 (.int .i64 (p : Int))).2
  rw [← hw] at T8 kS
  have HB8 := @hideH _ (HB7.out.kept kS (by simp; have := SZ.out.2; omega))
  have HF8 := @hideH _ (HF7.out.kept kS (by simp; have := GF.out; omega))
  have bx := T8.bx
  clear T7 HB7 HF7 kS
  go_upto_region 7 with fail
  rw [← hw]
  clear hw cs fs
  have EQ := @hideH _ (pAll_eq H1.out h2 h3)
  have L3 := @hideH _ (Nat.le_trans (num_len h3) (Nat.le_trans (num_len h2) L1.out))
  clear h2 h3 bx
  have b0v : (0 : Int) ≤ (v : Int) := by omega
  have b8v : (v : Int) < 8 := by omega
  have cF := HF8.out.cell (fnCells_at hv.1 hv.2)
  have cK : w8.cell? ⟨R, 0, none⟩ = some (.int .i64 (v : Int)) := T8.blk.cell (j := 0) rfl
  have bx := T8.bx
  have hFn := fun (wz : World) (kz : Kept [] w8 wz) => qFn w.heap.size g R v b p l3 wz hv.1 hv.2 (T8.rd.kept kz) (T8.blk.kept kz (by simp)) T8.ne (by have e1 := K3.out.size; have e2 := T8.kept.size; have e3 := kz.size; omega) L3.out
  have hCF := fun args w => fnK_call hv.1 hv.2 args w
  generalize fnK v = F at hFn cF hCF
  unfold src at hFn
  have T9 := T8.then (Kept.refl [] w8).drew
  have kd : Kept [] w8 w8.drew := (Kept.refl [] w8).drew
  refine wp_region_late (fun w' => w'.cell? ⟨R, 0, none⟩ = some (.int .i64 (v : Int)) ∧ w'.cell? ⟨w3.heap.size, v, none⟩ = some (.func (.func F) #[] #[]) ∧ w'.cell? ⟨w.heap.size, 0, none⟩ = some (.pointer (some ⟨g, 0, none⟩))) 99 (by kernel_rfl) ?_
  have hS : w8.drew.cell? ⟨R, 0, none⟩ = some (.int .i64 (v : Int)) ∧ w8.drew.cell? ⟨w3.heap.size, v, none⟩ = some (.func (.func F) #[] #[]) ∧ w8.drew.cell? ⟨w.heap.size, 0, none⟩ = some (.pointer (some ⟨g, 0, none⟩)) := ⟨kd.cell cK (by simp), kd.cell cF (by simp), kd.cell bx (by simp)⟩
  refine wpAnyZ_take 0 (v := ?v0) rfl (by kernel_rfl) (by kernel_rfl) (by kernel_rfl) (by kernel_rfl) (fun _ _ _ h => h) (by rfl) ?hy0 hS ?rest0
  case hy0 => (intro wx hSx; obtain ⟨hs1, hs2, hs3⟩ := hSx; go_simp; (try with_reducible rfl))
  (try simp only [Act.put, List.setIfInBounds_toArray, List.set_cons_zero, List.set_cons_succ])
  refine wpAnyZ_take 1 (v := ?v1) rfl (by kernel_rfl) (by kernel_rfl) (by kernel_rfl) (by kernel_rfl) (fun _ _ _ h => h) (by rfl) ?hy1 hS ?rest1
  case hy1 => (intro wx hSx; obtain ⟨hs1, hs2, hs3⟩ := hSx; go_simp; (try with_reducible rfl))
  (try simp only [Act.put, List.setIfInBounds_toArray, List.set_cons_zero, List.set_cons_succ])
  refine wpAnyZ_take 2 (v := ?v2) rfl (by kernel_rfl) (by kernel_rfl) (by kernel_rfl) (by kernel_rfl) (fun _ _ _ h => h) (by rfl) ?hy2 hS ?rest2
  case hy2 => (intro wx hSx; obtain ⟨hs1, hs2, hs3⟩ := hSx; go_simp; (try with_reducible rfl))
  (try simp only [Act.put, List.setIfInBounds_toArray, List.set_cons_zero, List.set_cons_succ])
  refine wpAnyZ_take 3 (v := ?v3) rfl (by kernel_rfl) (by kernel_rfl) (by kernel_rfl) (by kernel_rfl) (fun _ _ _ h => h) (by rfl) ?hy3 hS ?rest3
  case hy3 => (intro wx hSx; obtain ⟨hs1, hs2, hs3⟩ := hSx; go_simp; (try with_reducible rfl))
  (try simp only [Act.put, List.setIfInBounds_toArray, List.set_cons_zero, List.set_cons_succ])
  refine wpAnyZ_take 4 (v := ?v4) rfl (by kernel_rfl) (by kernel_rfl) (by kernel_rfl) (by kernel_rfl) (fun _ _ _ h => h) (by rfl) ?hy4 hS ?rest4
  case hy4 => (intro wx hSx; obtain ⟨hs1, hs2, hs3⟩ := hSx; go_simp; (try with_reducible rfl))
  (try simp only [Act.put, List.setIfInBounds_toArray, List.set_cons_zero, List.set_cons_succ])
  refine wpAnyZ_take 5 (v := ?v5) rfl (by kernel_rfl) (by kernel_rfl) (by kernel_rfl) (by kernel_rfl) (fun _ _ _ h => h) (by rfl) ?hy5 hS ?rest5
  case hy5 => (intro wx hSx; obtain ⟨hs1, hs2, hs3⟩ := hSx; go_simp; (try with_reducible rfl))
  (try simp only [Act.put, List.setIfInBounds_toArray, List.set_cons_zero, List.set_cons_succ])
  refine wpAnyZ_one 6 rfl (by kernel_rfl) (fun K hK => ?_)
  go_simp
  refine (hFn _ kd).mono ?_
  clear hFn hCF
  rintro e w9 (⟨x, r, V, B', hp, rfl, T10, OW⟩ | ⟨hz, ⟨xz, rfl⟩, kz⟩)
  rotate_left
  · exact ⟨rfl, .inr ⟨pr_no (by rw [EQ.out]; exact hz), ⟨_, rfl⟩, KT (T9.kept.trans kz (fun x hx => .inl hx))⟩⟩
  have hS9 : w9.cell? ⟨R, 0, none⟩ = some (.int .i64 (v : Int)) ∧ w9.cell? ⟨w3.heap.size, v, none⟩ = some (.func (.func F) #[] #[]) ∧ w9.cell? ⟨w.heap.size, 0, none⟩ = some (.pointer (some ⟨g, 0, none⟩)) := ⟨by rw [← (pTail_some hp).2.1]; exact T10.blk.cell (j := 0) rfl, T10.kept.cell (kd.cell cF (by simp)) (by simp; have e1 := SZ.out.1; have e2 := K3.out.size; have e3 := GF.out; omega), (T9.box.kept T10.kept (by simp; have e1 := SZ.out; omega)).cell (j := 0) rfl⟩
  dsimp only
  refine hK _ _ (fun _ => hS9) ?_
  clear hK K hS9
  (try simp only [Act.put, List.setIfInBounds_toArray, List.set_cons_zero, List.set_cons_succ])
  refine wpAnyZ_done (by kernel_rfl) ?_ _
  have k9 := T10.kept
  have HB9 := @hideH _ ((HB8.out.kept kd (by simp)).kept k9 (by simp; have e1 := SZ.out; omega))
  have bx9 : w9.cell? ⟨w.heap.size, 0, none⟩ = some (.pointer (some ⟨g, 0, none⟩)) := (T9.box.kept k9 (by simp; have e1 := SZ.out; omega)).cell (j := 0) rfl
  have KE := @hideH _ (show Kept [g] w w9 from KT (T9.kept.trans k9 (fun x hx => .inl hx)))
  have HP := @hideH _ (show pAll l = some (x, r) by rw [EQ.out]; exact hp)
  have HOW := @hideH _ (OW.mono (show w.heap.size ≤ w8.drew.heap.size from Nat.le_trans K3.out.size T8.kept.size))
  have HGE := @hideH _ (fun (y : Nat) (hy : V.vb.ownBlock = some y ∨ V.va.ownBlock = some y ∨ V.vr.ownBlock = some y ∨ V.vd.ownBlock = some y) => (OW.ge hy).1)
  have HLT8 := @hideH _ (show R < w8.drew.heap.size from Nat.lt_of_lt_of_le GF.out T8.kept.size)
  have hE := fun (wz : World) (hz : Rs w.heap.size wz g r) => end_any g r wz hz.rd
  have R10 := T10.rd
  have HBR := @hideH _ T10.blk
  have HSH := @hideH _ OW.see.shapes
  clear hS cF cK bx T8 T9 T10 k9 hp kd OW
  by_cases hr0 : r = []
  rotate_left
  · have hE2 := hE w9 R10
    rw [if_neg (fun e => hr0 (List.eq_nil_of_length_eq_zero e))] at hE2
    have hno := @hideH _ (pr_trail HP.out hr0)
    clear hE R10 hr0
    go_wp2_with fail
    refine hE2.mono ?_
    rintro e w10 ⟨rfl, rfl⟩
    clear hE2
    go_wp2_with fail
    refine (qGive 11 (by decide) _).mono ?_
    rintro e w11 ⟨rfl, rfl⟩
    exact ⟨rfl, .inr ⟨hno.out, ⟨_, rfl⟩, KE.out⟩⟩
  subst hr0
  have hE2 := hE w9 R10
  rw [if_pos (by rfl)] at hE2
  clear hE R10
  go_wp2_with fail
  refine hE2.mono ?_
  rintro e w10 ⟨rfl, rfl⟩
  clear hE2
  go_wp2_with fail
  refine (qGive0 _).mono ?_
  rintro e w11 ⟨rfl, rfl⟩
  obtain ⟨pb, cb, pa, ca, pr, cr, pd, cd, hV⟩ := HSH.out
  subst hV
  clear HSH
  obtain ⟨kind, birth, prev, id, page, frm, before, after, next, rows, dirty⟩ := x
  dsimp only at HOW HBR HGE ⊢
  unfold Rcd.cl at HBR
  dsimp only at HBR
  have r0 := HBR.out.cell (j := 0) rfl
  have r1 := HBR.out.cell (j := 1) rfl
  have r2 := HBR.out.cell (j := 2) rfl
  have r3 := HBR.out.cell (j := 3) rfl
  have r4 := HBR.out.cell (j := 4) rfl
  have r5 := HBR.out.cell (j := 5) rfl
  have r6 := HBR.out.cell (j := 6) rfl
  have r7 := HBR.out.cell (j := 7) rfl
  have r8 := HBR.out.cell (j := 8) rfl
  have r9 := HBR.out.cell (j := 9) rfl
  have r10 := HBR.out.cell (j := 10) rfl
  have a0 := HB9.out.cell (j := 0) rfl
  have a1 := HB9.out.cell (j := 1) rfl
  have a2 := HB9.out.cell (j := 2) rfl
  have a3 := HB9.out.cell (j := 3) rfl
  have a4 := HB9.out.cell (j := 4) rfl
  have a5 := HB9.out.cell (j := 5) rfl
  have a6 := HB9.out.cell (j := 6) rfl
  have a7 := HB9.out.cell (j := 7) rfl
  have a8 := HB9.out.cell (j := 8) rfl
  have a9 := HB9.out.cell (j := 9) rfl
  have a10 := HB9.out.cell (j := 10) rfl
  have f0 := HB9.out.free 0
  have f1 := HB9.out.free 1
  have f2 := HB9.out.free 2
  have f3 := HB9.out.free 3
  have f4 := HB9.out.free 4
  have f5 := HB9.out.free 5
  have f6 := HB9.out.free 6
  have f7 := HB9.out.free 7
  have f8 := HB9.out.free 8
  have f9 := HB9.out.free 9
  have f10 := HB9.out.free 10
  obtain ⟨BF, kF⟩ := HB9.out.fill11 (.int .i64 kind) (.int .i64 birth) (.int .i64 prev) (.int .i64 id) (.int .i64 page) (.int .i64 frm) (.slice pb before.length cb) (.slice pa after.length ca) (.int .i64 next) (.slice pr rows.length cr) (.slice pd dirty.length cd)
  go_wp2
  obtain ⟨wF, hF⟩ : ∃ wF, wF = (((((((((((w11.setCell ⟨w.heap.size + 1, 0, none⟩ (.int .i64 kind)).setCell ⟨w.heap.size + 1, 1, none⟩ (.int .i64 birth)).setCell ⟨w.heap.size + 1, 2, none⟩ (.int .i64 prev)).setCell ⟨w.heap.size + 1, 3, none⟩ (.int .i64 id)).setCell ⟨w.heap.size + 1, 4, none⟩ (.int .i64 page)).setCell ⟨w.heap.size + 1, 5, none⟩ (.int .i64 frm)).setCell ⟨w.heap.size + 1, 6, none⟩ (.slice pb before.length cb)).setCell ⟨w.heap.size + 1, 7, none⟩ (.slice pa after.length ca)).setCell ⟨w.heap.size + 1, 8, none⟩ (.int .i64 next)).setCell ⟨w.heap.size + 1, 9, none⟩ (.slice pr rows.length cr)).setCell ⟨w.heap.size + 1, 10, none⟩ (.slice pd dirty.length cd)) := ⟨_, rfl⟩
  rw [← hF]
  rw [← hF] at BF kF
  clear hF
  have q0 := BF.cell (j := 0) rfl
  have q1 := BF.cell (j := 1) rfl
  have q2 := BF.cell (j := 2) rfl
  have q3 := BF.cell (j := 3) rfl
  have q4 := BF.cell (j := 4) rfl
  have q5 := BF.cell (j := 5) rfl
  have q6 := BF.cell (j := 6) rfl
  have q7 := BF.cell (j := 7) rfl
  have q8 := BF.cell (j := 8) rfl
  have q9 := BF.cell (j := 9) rfl
  have q10 := BF.cell (j := 10) rfl
  have OWF := @hideH _ (HOW.out.kept kF (fun y hy hm => by simp at hm; have e1 := HGE.out y hy; have e2 := HLT8.out; have e3 := SZ.out.2; omega))
  have KF := @hideH _ (KE.out.trans kF (fun x hx => .inr (by simp at hx; omega)))
  clear BF kF r0 a0 f0 r1 a1 f1 r2 a2 f2 r3 a3 f3 r4 a4 f4 r5 a5 f5 r6 a6 f6 r7 a7 f7 r8 a8 f8 r9 a9 f9 r10 a10 f10
  refine bodyPost_ret (by simp [results, Try.results33, go_sem, q0, q1, q2, q3, q4, q5, q6, q7, q8, q9, q10]; try rfl) rfl ?_
  exact .inl ⟨_, _, HP.out, rfl, OWF.out, KF.out⟩
end Go.Proofs.Ytebcmcmboomgfaa

/-
  OWN WORK. record: the deferred function literal of Parse.
-/
namespace Go.Proofs.Ytebcmcmboomgfaa
open Go.RowKit
set_option linter.unusedVariables false
set_option linter.unusedSimpArgs false

theorem catch_idle (p q : Addr) (w : World) :
    CallsD Try.prog 32 #[.pointer (some p), .pointer (some q)] .returning w fun e u' w' => e = .returned (.tuple #[]) ∧ u' = .returning ∧ w' = w := by
  refine callsD_of_wpS Try.func32 rfl fun c₀ cs hu => ?_
  apply wpS_seq
  apply wpS_region
  simp [wpOpsS, go_sem, recoverD, hu, Try.ntmps32, Exit.thenS]
  refine wpS_cond (t := false) (by simp [Act.eval, Array.replicate]) ?_
  simp only [Bool.false_eq_true, if_false]
  refine wpS_of_wp (wp_skip ?_)
  cases c₀
  simp_all [bodyPostS, results, Try.results32]
theorem catch_panic (A E : Nat) (z0 z1 z2 z3 z4 z5 z6 z7 z8 z9 z10 ze : Value) (u : TypeId) (pv : Value) (w : World) (hA : Blk w A 26 [z0, z1, z2, z3, z4, z5, z6, z7, z8, z9, z10]) (hE : Blk w E 28 [ze]) (hne : A ≠ E) :
    CallsD Try.prog 32 #[.pointer (some ⟨A, 0, none⟩), .pointer (some ⟨E, 0, none⟩)] (.panicking [{ v := .iface u pv, recovered := false }]) w fun e u' w' =>
      e = .returned (.tuple #[]) ∧ u' = .panicking [{ v := .iface u pv, recovered := true }] ∧ Blk w' A 26 ((bareR 0 0 0).cl nilV) ∧ Blk w' E 28 [.int .i64 90] ∧ Kept [A, E] w w' := by
  refine callsD_of_wpS Try.func32 rfl fun c₀ cs hu => ?_
  apply wpS_seq
  apply wpS_region
  simp [wpOpsS, go_sem, recoverD, hu, Try.ntmps32, Exit.thenS]
  refine wpS_cond (t := true) (by simp [Act.eval, Array.replicate]) ?_
  simp only [if_true]
  refine wpS_of_wp ?_
  have a0 := hA.cell (j := 0) rfl
  have a1 := hA.cell (j := 1) rfl
  have a2 := hA.cell (j := 2) rfl
  have a3 := hA.cell (j := 3) rfl
  have a4 := hA.cell (j := 4) rfl
  have a5 := hA.cell (j := 5) rfl
  have a6 := hA.cell (j := 6) rfl
  have a7 := hA.cell (j := 7) rfl
  have a8 := hA.cell (j := 8) rfl
  have a9 := hA.cell (j := 9) rfl
  have a10 := hA.cell (j := 10) rfl
  have f0 := hA.free 0
  have f1 := hA.free 1
  have f2 := hA.free 2
  have f3 := hA.free 3
  have f4 := hA.free 4
  have f5 := hA.free 5
  have f6 := hA.free 6
  have f7 := hA.free 7
  have f8 := hA.free 8
  have f9 := hA.free 9
  have f10 := hA.free 10
  have e0 := hE.cell (j := 0) rfl
  have g0 := hE.free 0
  have hEA : E ≠ A := fun q => hne q.symm
  obtain ⟨B1, k1⟩ := hA.fill11 (.int .i64 0) (.int .i64 0) (.int .i64 0) (.int .i64 0) (.int .i64 0) (.int .i64 0) (.slice none 0 0) (.slice none 0 0) (.int .i64 0) (.slice none 0 0) (.slice none 0 0)
  obtain ⟨B2, k2⟩ := (hE.kept k1 (by simpa using hEA)).set 0 (.int .i64 90)
  have B3 := B1.kept k2 (by simpa using hne)
  have FIN := @hideH _ (And.intro B3 (And.intro B2 ((k1.mono (T := [A, E]) (fun x hx => by simp at hx ⊢; exact .inl hx)).trans k2 (fun x hx => .inl (by simp at hx ⊢; exact .inr hx)))))
  clear B1 B2 B3 k1 k2
  go_wp2
  exact ⟨rfl, _, rfl, .tuple #[], by simp [results, Try.results32], rfl, rfl, FIN.out⟩
end Go.Proofs.Ytebcmcmboomgfaa

/-
  OWN WORK (by mkpr9.py). record: Parse.
-/
namespace Go.Proofs.Ytebcmcmboomgfaa
open Go.RowKit
set_option linter.unusedVariables false
set_option linter.unusedSimpArgs false

theorem pr_yes {l : List UInt8} {x : Rcd} (h : pAll l = some (x, [])) (hR : x.Right) : parseR l = some x := by
  unfold parseR
  rw [h]
  simp [hR]
theorem pr_wrong {l : List UInt8} {x : Rcd} (h : pAll l = some (x, [])) (hR : ¬ x.Right) : parseR l = none := by
  unfold parseR
  rw [h]
  simp [hR]

set_option maxRecDepth 20000 in
set_option maxHeartbeats 6400000 in
theorem qParse (v : Value) (l : List UInt8) (w : World) (hv : Bs w v l) (hl : l.length ≤ 140737488355328) : Calls Try.prog 12 #[v] w fun e w' => (∃ x V, parseR l = some x ∧ e = .returned (.tuple #[x.agg V, .int .i64 0]) ∧ OwnR w.heap.size w' V x ∧ Kept [] w w') ∨ (parseR l = none ∧ e = .returned (.tuple #[(bareR 0 0 0).agg nilV, .int .i64 90]) ∧ Kept [] w w') := by
  have hmf : ∀ (fn : Fn) (first cap : Array Value) (w : World), (Instr.makeFunc fn first cap).run Try.prog w = .ok (.func fn first cap) w := fun _ _ _ _ => rfl
  have HLN := @hideH _ hl
  clear hl
  obtain ⟨w1, hw1⟩ : ∃ w1, w1 = (w.alloc (.cells #[.int .i64 0, .int .i64 0, .int .i64 0, .int .i64 0, .int .i64 0, .int .i64 0, .slice none 0 0, .slice none 0 0, .int .i64 0, .slice none 0 0, .slice none 0 0] 26)).alloc (.cells #[.int .i64 0] 28) := ⟨_, rfl⟩
  have K1 : Kept [] w w1 := by rw [hw1]; exact ((Kept.refl [] w).alloc _).alloc _
  have BA : Blk w1 w.heap.size 26 [.int .i64 0, .int .i64 0, .int .i64 0, .int .i64 0, .int .i64 0, .int .i64 0, .slice none 0 0, .slice none 0 0, .int .i64 0, .slice none 0 0, .slice none 0 0] := by rw [hw1]; exact (Blk.new w _ _).kept ((Kept.refl [] _).alloc _) (by simp)
  have BE : Blk w1 (w.heap.size + 1) 28 [.int .i64 0] := by rw [hw1]; have q := Blk.new (w.alloc (.cells #[.int .i64 0, .int .i64 0, .int .i64 0, .int .i64 0, .int .i64 0, .int .i64 0, .slice none 0 0, .slice none 0 0, .int .i64 0, .slice none 0 0, .slice none 0 0] 26)) 28 [.int .i64 0]; rw [World.size_alloc] at q; exact q
  have hN := newReader_low v l w1 (hv.kept K1) HLN.out
  obtain ⟨pv, cv, rfl, -⟩ := id hv
  clear hv
  go_enter_defers Try.func12, Try.ntmps12
  go_upto_region 2 with fail
  rw [← hw1]
  clear hw1
  go_wp2_with fail
  refine hN.mono ?_
  clear hN
  rintro e w2 ⟨g, rfl, hg, hr, k2⟩
  have hT := qTake g l w2 hr HLN.out
  unfold src at hT
  have BA2 := BA.kept k2 (by simp)
  have BE2 := BE.kept k2 (by simp)
  have hg2 : w.heap.size + 2 ≤ g := by have := BE.lt; omega
  go_wp2_with fail
  refine hT.mono ?_
  clear hT
  rintro e w3 (⟨x, V, hp, rfl, OW, k3⟩ | ⟨hno, ⟨xz, rfl⟩, k3⟩)
  rotate_left
  · have BA3 := BA2.kept k3 (by simp; omega)
    have BE3 := BE2.kept k3 (by simp; omega)
    have KE : Kept [] w w3 := (K1.then k2).trans k3 (fun y hy => .inr (by simp at hy; omega))
    refine leaves_cons (f := 32) (args := #[.pointer (some ⟨w.heap.size, 0, none⟩), .pointer (some ⟨w.heap.size + 1, 0, none⟩)]) (by simp) (by simp [go_sem]) ?_
    refine (catch_panic w.heap.size (w.heap.size + 1) _ _ _ _ _ _ _ _ _ _ _ _ _ _ w3 BA3 BE3 (by omega)).mono ?_
    rintro e u' w4 ⟨rfl, rfl, BA4, BE4, k4⟩
    have KF : Kept [] w w4 := KE.trans k4 (fun y hy => .inr (by simp at hy; omega))
    have q0 := BA4.cell (j := 0) rfl
    have q1 := BA4.cell (j := 1) rfl
    have q2 := BA4.cell (j := 2) rfl
    have q3 := BA4.cell (j := 3) rfl
    have q4 := BA4.cell (j := 4) rfl
    have q5 := BA4.cell (j := 5) rfl
    have q6 := BA4.cell (j := 6) rfl
    have q7 := BA4.cell (j := 7) rfl
    have q8 := BA4.cell (j := 8) rfl
    have q9 := BA4.cell (j := 9) rfl
    have q10 := BA4.cell (j := 10) rfl
    have qe := BE4.cell (j := 0) rfl
    have FIN := @hideH _ (And.intro hno KF)
    clear BA BE BA2 BE2 BA3 BE3 BA4 BE4 k2 k3 k4 K1 KE KF hno
    simp [Leaves, settle, results, Try.results12, go_sem, q0, q1, q2, q3, q4, q5, q6, q7, q8, q9, q10, qe]
    exact ⟨FIN.out.1, rfl, FIN.out.2⟩
  have BA3 := BA2.kept k3 (by simp; omega)
  have BE3 := BE2.kept k3 (by simp; omega)
  have K3 : Kept [] w w3 := (K1.then k2).trans k3 (fun y hy => .inr (by simp at hy; omega))
  have HSZ := @hideH _ (show w.heap.size + 2 ≤ w2.heap.size by have := BE2.lt; omega)
  have HSH := @hideH _ OW.see.shapes
  have HP := @hideH _ hp
  clear BA BE BA2 BE2 k2 k3 K1 hp hr
  obtain ⟨pb, cb, pa, ca, pr, cr, pd, cd, hV⟩ := HSH.out
  subst hV
  clear HSH
  obtain ⟨kind, birth, prev, id, page, frm, before, after, next, rows, dirty⟩ := x
  unfold Rcd.agg
  dsimp only
  obtain ⟨BA4, k4⟩ := BA3.fill11 (.int .i64 kind) (.int .i64 birth) (.int .i64 prev) (.int .i64 id) (.int .i64 page) (.int .i64 frm) (.slice pb before.length cb) (.slice pa after.length ca) (.int .i64 next) (.slice pr rows.length cr) (.slice pd dirty.length cd)
  have a0 := BA3.cell (j := 0) rfl
  have a1 := BA3.cell (j := 1) rfl
  have a2 := BA3.cell (j := 2) rfl
  have a3 := BA3.cell (j := 3) rfl
  have a4 := BA3.cell (j := 4) rfl
  have a5 := BA3.cell (j := 5) rfl
  have a6 := BA3.cell (j := 6) rfl
  have a7 := BA3.cell (j := 7) rfl
  have a8 := BA3.cell (j := 8) rfl
  have a9 := BA3.cell (j := 9) rfl
  have a10 := BA3.cell (j := 10) rfl
  have f0 := BA3.free 0
  have f1 := BA3.free 1
  have f2 := BA3.free 2
  have f3 := BA3.free 3
  have f4 := BA3.free 4
  have f5 := BA3.free 5
  have f6 := BA3.free 6
  have f7 := BA3.free 7
  have f8 := BA3.free 8
  have f9 := BA3.free 9
  have f10 := BA3.free 10
  obtain ⟨w4, hw4⟩ : ∃ w4, w4 = (((((((((((w3.setCell ⟨w.heap.size, 0, none⟩ (.int .i64 kind)).setCell ⟨w.heap.size, 1, none⟩ (.int .i64 birth)).setCell ⟨w.heap.size, 2, none⟩ (.int .i64 prev)).setCell ⟨w.heap.size, 3, none⟩ (.int .i64 id)).setCell ⟨w.heap.size, 4, none⟩ (.int .i64 page)).setCell ⟨w.heap.size, 5, none⟩ (.int .i64 frm)).setCell ⟨w.heap.size, 6, none⟩ (.slice pb before.length cb)).setCell ⟨w.heap.size, 7, none⟩ (.slice pa after.length ca)).setCell ⟨w.heap.size, 8, none⟩ (.int .i64 next)).setCell ⟨w.heap.size, 9, none⟩ (.slice pr rows.length cr)).setCell ⟨w.heap.size, 10, none⟩ (.slice pd dirty.length cd)) := ⟨_, rfl⟩
  rw [← hw4] at BA4 k4
  have OW4 := OW.kept k4 (fun y hy hm => by simp at hm; have e1 := (OW.ge hy).1; have e2 := HSZ.out; omega)
  have BE4 := BE3.kept k4 (by simp)
  have K4 : Kept [] w w4 := K3.trans k4 (fun y hy => .inr (by simp at hy; omega))
  clear BA3 BE3 k4 OW K3
  go_upto_region 3 with fail
  rw [← hw4]
  clear hw4 a0 f0 a1 f1 a2 f2 a3 f3 a4 f4 a5 f5 a6 f6 a7 f7 a8 f8 a9 f9 a10 f10
  have c0 := BA4.cell (j := 0) rfl
  have c1 := BA4.cell (j := 1) rfl
  have c2 := BA4.cell (j := 2) rfl
  have c3 := BA4.cell (j := 3) rfl
  have c4 := BA4.cell (j := 4) rfl
  have c5 := BA4.cell (j := 5) rfl
  have c6 := BA4.cell (j := 6) rfl
  have c7 := BA4.cell (j := 7) rfl
  have c8 := BA4.cell (j := 8) rfl
  have c9 := BA4.cell (j := 9) rfl
  have c10 := BA4.cell (j := 10) rfl
  have hRt := qRight _ _ w4 OW4.see
  unfold Rcd.agg at hRt
  dsimp only at hRt
  by_cases hR : (⟨kind, birth, prev, id, page, frm, before, after, next, rows, dirty⟩ : Rcd).Right
  · simp only [bl_t hR] at hRt
    have HPR := @hideH _ (pr_yes HP.out hR)
    clear hR
    go_wp2_with fail
    refine hRt.mono ?_
    clear hRt
    rintro e w5 ⟨rfl, k5⟩
    have BA5 := BA4.kept k5 (by simp)
    have BE5 := BE4.kept k5 (by simp)
    have OW5 := OW4.kept k5 (by simp)
    have K5 := K4.then k5
    replace c0 := k5.cell c0 (by simp)
    replace c1 := k5.cell c1 (by simp)
    replace c2 := k5.cell c2 (by simp)
    replace c3 := k5.cell c3 (by simp)
    replace c4 := k5.cell c4 (by simp)
    replace c5 := k5.cell c5 (by simp)
    replace c6 := k5.cell c6 (by simp)
    replace c7 := k5.cell c7 (by simp)
    replace c8 := k5.cell c8 (by simp)
    replace c9 := k5.cell c9 (by simp)
    replace c10 := k5.cell c10 (by simp)
    have f0 := BA5.free 0
    have f1 := BA5.free 1
    have f2 := BA5.free 2
    have f3 := BA5.free 3
    have f4 := BA5.free 4
    have f5 := BA5.free 5
    have f6 := BA5.free 6
    have f7 := BA5.free 7
    have f8 := BA5.free 8
    have f9 := BA5.free 9
    have f10 := BA5.free 10
    have ce := BE5.cell (j := 0) rfl
    have fe := BE5.free 0
    obtain ⟨BA6, k6⟩ := BA5.fill11 (.int .i64 kind) (.int .i64 birth) (.int .i64 prev) (.int .i64 id) (.int .i64 page) (.int .i64 frm) (.slice pb before.length cb) (.slice pa after.length ca) (.int .i64 next) (.slice pr rows.length cr) (.slice pd dirty.length cd)
    obtain ⟨BE7, k7⟩ := (BE5.kept k6 (by simp)).set 0 (.int .i64 0)
    have BA7 := BA6.kept k7 (by simp)
    have K7 := (K5.trans k6 (fun y hy => .inr (by simp at hy; omega))).trans k7 (fun y hy => .inr (by simp at hy; omega))
    have OW7 := (OW5.kept k6 (fun y hy hm => by simp at hm; have e1 := (OW5.ge hy).1; have e2 := HSZ.out; omega)).kept k7 (fun y hy hm => by simp at hm; have e1 := (OW5.ge hy).1; have e2 := HSZ.out; omega)
    obtain ⟨w7, hw7⟩ : ∃ w7, w7 = ((((((((((((w5.setCell ⟨w.heap.size, 0, none⟩ (.int .i64 kind)).setCell ⟨w.heap.size, 1, none⟩ (.int .i64 birth)).setCell ⟨w.heap.size, 2, none⟩ (.int .i64 prev)).setCell ⟨w.heap.size, 3, none⟩ (.int .i64 id)).setCell ⟨w.heap.size, 4, none⟩ (.int .i64 page)).setCell ⟨w.heap.size, 5, none⟩ (.int .i64 frm)).setCell ⟨w.heap.size, 6, none⟩ (.slice pb before.length cb)).setCell ⟨w.heap.size, 7, none⟩ (.slice pa after.length ca)).setCell ⟨w.heap.size, 8, none⟩ (.int .i64 next)).setCell ⟨w.heap.size, 9, none⟩ (.slice pr rows.length cr)).setCell ⟨w.heap.size, 10, none⟩ (.slice pd dirty.length cd)).setCell ⟨w.heap.size + 1, 0, none⟩ (.int .i64 0)) := ⟨_, rfl⟩
    rw [← hw7] at BA7 BE7 K7 OW7
    have FIN := @hideH _ (And.intro HPR.out (And.intro (OW7.mono (show w.heap.size ≤ w2.heap.size by have := HSZ.out; omega)) K7))
    clear BA4 BE4 OW4 K4 BA5 BE5 OW5 K5 BA6 k5 k6 k7 OW7 K7
    go_wp2
    rw [← hw7]
    clear hw7
    have q0 := BA7.cell (j := 0) rfl
    have q1 := BA7.cell (j := 1) rfl
    have q2 := BA7.cell (j := 2) rfl
    have q3 := BA7.cell (j := 3) rfl
    have q4 := BA7.cell (j := 4) rfl
    have q5 := BA7.cell (j := 5) rfl
    have q6 := BA7.cell (j := 6) rfl
    have q7 := BA7.cell (j := 7) rfl
    have q8 := BA7.cell (j := 8) rfl
    have q9 := BA7.cell (j := 9) rfl
    have q10 := BA7.cell (j := 10) rfl
    have qe := BE7.cell (j := 0) rfl
    refine leaves_cons (f := 32) (args := #[.pointer (some ⟨w.heap.size, 0, none⟩), .pointer (some ⟨w.heap.size + 1, 0, none⟩)]) (by simp) (by simp [go_sem]) ?_
    refine (catch_idle _ _ _).mono ?_
    rintro e u' w8 ⟨rfl, rfl, rfl⟩
    exact ⟨.tuple #[_, .int .i64 0], by simp [results, Try.results12, go_sem, q0, q1, q2, q3, q4, q5, q6, q7, q8, q9, q10, qe]; rfl, .inl ⟨_, _, FIN.out.1, rfl, FIN.out.2⟩⟩
  · simp only [bl_f hR] at hRt
    have HPR := @hideH _ (pr_wrong HP.out hR)
    clear hR
    go_wp2_with fail
    refine hRt.mono ?_
    clear hRt
    rintro e w5 ⟨rfl, k5⟩
    have BA5 := BA4.kept k5 (by simp)
    have BE5 := BE4.kept k5 (by simp)
    have K5 := K4.then k5
    replace c0 := k5.cell c0 (by simp)
    replace c1 := k5.cell c1 (by simp)
    replace c2 := k5.cell c2 (by simp)
    replace c3 := k5.cell c3 (by simp)
    replace c4 := k5.cell c4 (by simp)
    replace c5 := k5.cell c5 (by simp)
    replace c6 := k5.cell c6 (by simp)
    replace c7 := k5.cell c7 (by simp)
    replace c8 := k5.cell c8 (by simp)
    replace c9 := k5.cell c9 (by simp)
    replace c10 := k5.cell c10 (by simp)
    have f0 := BA5.free 0
    have f1 := BA5.free 1
    have f2 := BA5.free 2
    have f3 := BA5.free 3
    have f4 := BA5.free 4
    have f5 := BA5.free 5
    have f6 := BA5.free 6
    have f7 := BA5.free 7
    have f8 := BA5.free 8
    have f9 := BA5.free 9
    have f10 := BA5.free 10
    have ce := BE5.cell (j := 0) rfl
    have fe := BE5.free 0
    obtain ⟨BA6, k6⟩ := BA5.fill11 (.int .i64 0) (.int .i64 0) (.int .i64 0) (.int .i64 0) (.int .i64 0) (.int .i64 0) (.slice none 0 0) (.slice none 0 0) (.int .i64 0) (.slice none 0 0) (.slice none 0 0)
    obtain ⟨BE7, k7⟩ := (BE5.kept k6 (by simp)).set 0 (.int .i64 90)
    have BA7 := BA6.kept k7 (by simp)
    have K7 := (K5.trans k6 (fun y hy => .inr (by simp at hy; omega))).trans k7 (fun y hy => .inr (by simp at hy; omega))
    obtain ⟨w7, hw7⟩ : ∃ w7, w7 = ((((((((((((w5.setCell ⟨w.heap.size, 0, none⟩ (.int .i64 0)).setCell ⟨w.heap.size, 1, none⟩ (.int .i64 0)).setCell ⟨w.heap.size, 2, none⟩ (.int .i64 0)).setCell ⟨w.heap.size, 3, none⟩ (.int .i64 0)).setCell ⟨w.heap.size, 4, none⟩ (.int .i64 0)).setCell ⟨w.heap.size, 5, none⟩ (.int .i64 0)).setCell ⟨w.heap.size, 6, none⟩ (.slice none 0 0)).setCell ⟨w.heap.size, 7, none⟩ (.slice none 0 0)).setCell ⟨w.heap.size, 8, none⟩ (.int .i64 0)).setCell ⟨w.heap.size, 9, none⟩ (.slice none 0 0)).setCell ⟨w.heap.size, 10, none⟩ (.slice none 0 0)).setCell ⟨w.heap.size + 1, 0, none⟩ (.int .i64 90)) := ⟨_, rfl⟩
    rw [← hw7] at BA7 BE7 K7
    have FIN := @hideH _ (And.intro HPR.out K7)
    clear BA4 BE4 OW4 K4 BA5 BE5 K5 BA6 k5 k6 k7 K7
    go_wp2
    rw [← hw7]
    clear hw7
    have q0 := BA7.cell (j := 0) rfl
    have q1 := BA7.cell (j := 1) rfl
    have q2 := BA7.cell (j := 2) rfl
    have q3 := BA7.cell (j := 3) rfl
    have q4 := BA7.cell (j := 4) rfl
    have q5 := BA7.cell (j := 5) rfl
    have q6 := BA7.cell (j := 6) rfl
    have q7 := BA7.cell (j := 7) rfl
    have q8 := BA7.cell (j := 8) rfl
    have q9 := BA7.cell (j := 9) rfl
    have q10 := BA7.cell (j := 10) rfl
    have qe := BE7.cell (j := 0) rfl
    refine leaves_cons (f := 32) (args := #[.pointer (some ⟨w.heap.size, 0, none⟩), .pointer (some ⟨w.heap.size + 1, 0, none⟩)]) (by simp) (by simp [go_sem]) ?_
    refine (catch_idle _ _ _).mono ?_
    rintro e u' w8 ⟨rfl, rfl, rfl⟩
    exact ⟨.tuple #[(bareR 0 0 0).agg nilV, .int .i64 90], by simp [results, Try.results12, go_sem, q0, q1, q2, q3, q4, q5, q6, q7, q8, q9, q10, qe]; rfl, .inr ⟨FIN.out.1, rfl, FIN.out.2⟩⟩
end Go.Proofs.Ytebcmcmboomgfaa

/-
  OWN WORK (by mkrec7.py). The document's records (tidemarkref09): Same.
-/
namespace Go.Proofs.Ytebcmcmboomgfaa
open Go.RowKit
set_option linter.unusedVariables false
set_option linter.unusedSimpArgs false

theorem Bs.textR {w : World} {v : Value} {l : List UInt8} (h : Bs w v l) : (Go.convert 22 9 v).run Try.prog w = .ok (.string ⟨l.toArray⟩) w := h.convert Try.underlying22 Try.underlying5 Try.underlying9
set_option maxRecDepth 20000 in
set_option maxHeartbeats 12800000 in
theorem rSame (V1 V2 : RV) (r s : Rcd) (w : World) (g1 : SeeR w V1 r) (g2 : SeeR w V2 s) : Calls Try.prog 13 #[r.agg V1, s.agg V2] w fun e w' => e = .returned (.bool (bl (r = s))) ∧ Kept [] w w' := by
  haveI HNE : ∀ w2, Nonempty (Calm w2) := calmNe
  obtain ⟨Q, hQ⟩ : ∃ Q, Q = bl (r = s) := ⟨_, rfl⟩
  rw [← hQ]
  obtain ⟨pb1, cb1, pa1, ca1, pr1, cr1, pd1, cd1, rfl⟩ := g1.shapes
  obtain ⟨pb2, cb2, pa2, ca2, pr2, cr2, pd2, cd2, rfl⟩ := g2.shapes
  obtain ⟨kind1, birth1, prev1, id1, page1, frm1, before1, after1, next1, rows1, dirty1⟩ := r
  obtain ⟨kind2, birth2, prev2, id2, page2, frm2, before2, after2, next2, rows2, dirty2⟩ := s
  have HQ := @hideH _ hQ
  have G1 := @hideH _ g1
  have G2 := @hideH _ g2
  have HBB1 := @hideH _ g1.before
  have HBA1 := @hideH _ g1.after
  have HBB2 := @hideH _ g2.before
  have HBA2 := @hideH _ g2.after
  have HCR1 := @hideH _ g1.rows
  have HCD1 := @hideH _ g1.dirty
  have HCR2 := @hideH _ g2.rows
  have HCD2 := @hideH _ g2.dirty
  clear hQ g1 g2 G1 G2
  unfold Rcd.agg
  dsimp only at HBB1 HBA1 HBB2 HBA2 HCR1 HCD1 HCR2 HCD2 ⊢
  obtain ⟨nb1, hnb1⟩ : ∃ nb1, nb1 = before1.length := ⟨_, rfl⟩
  obtain ⟨na1, hna1⟩ : ∃ na1, na1 = after1.length := ⟨_, rfl⟩
  obtain ⟨nr1, hnr1⟩ : ∃ nr1, nr1 = rows1.length := ⟨_, rfl⟩
  obtain ⟨nd1, hnd1⟩ : ∃ nd1, nd1 = dirty1.length := ⟨_, rfl⟩
  obtain ⟨nb2, hnb2⟩ : ∃ nb2, nb2 = before2.length := ⟨_, rfl⟩
  obtain ⟨na2, hna2⟩ : ∃ na2, na2 = after2.length := ⟨_, rfl⟩
  obtain ⟨nr2, hnr2⟩ : ∃ nr2, nr2 = rows2.length := ⟨_, rfl⟩
  obtain ⟨nd2, hnd2⟩ : ∃ nd2, nd2 = dirty2.length := ⟨_, rfl⟩
  simp only [← hnb1, ← hna1, ← hnr1, ← hnd1, ← hnb2, ← hna2, ← hnr2, ← hnd2] at HBB1 HBA1 HBB2 HBA2 HCR1 HCD1 HCR2 HCD2 ⊢
  have HNB1 := @hideH _ hnb1
  clear hnb1
  have HNA1 := @hideH _ hna1
  clear hna1
  have HNR1 := @hideH _ hnr1
  clear hnr1
  have HND1 := @hideH _ hnd1
  clear hnd1
  have HNB2 := @hideH _ hnb2
  clear hnb2
  have HNA2 := @hideH _ hna2
  clear hna2
  have HNR2 := @hideH _ hnr2
  clear hnr2
  have HND2 := @hideH _ hnd2
  clear hnd2
  by_cases h_kind : kind1 = kind2
  rotate_left
  · have eQ := @hideH _ (show Q = false by rw [HQ.out]; exact bl_f (fun e => h_kind (by injection e)))
    have e1 : (kind1 != kind2) = true := by simp [h_kind]
    have e2 : (kind1 == kind2) = false := by simp [h_kind]
    clear h_kind
    obtain ⟨w1, hw1⟩ : ∃ w1, w1 = (w.alloc (.cells #[.int .i64 kind1, .int .i64 birth1, .int .i64 prev1, .int .i64 id1, .int .i64 page1, .int .i64 frm1, .slice pb1 nb1 cb1, .slice pa1 na1 ca1, .int .i64 next1, .slice pr1 nr1 cr1, .slice pd1 nd1 cd1] 26)).alloc (.cells #[.int .i64 kind2, .int .i64 birth2, .int .i64 prev2, .int .i64 id2, .int .i64 page2, .int .i64 frm2, .slice pb2 nb2 cb2, .slice pa2 na2 ca2, .int .i64 next2, .slice pr2 nr2 cr2, .slice pd2 nd2 cd2] 26) := ⟨_, rfl⟩
    have k1 : Kept [] w w1 := by rw [hw1]; exact ((Kept.refl [] w).alloc _).alloc _
    have b1 : Blk w1 w.heap.size 26 [.int .i64 kind1, .int .i64 birth1, .int .i64 prev1, .int .i64 id1, .int .i64 page1, .int .i64 frm1, .slice pb1 nb1 cb1, .slice pa1 na1 ca1, .int .i64 next1, .slice pr1 nr1 cr1, .slice pd1 nd1 cd1] := by rw [hw1]; exact (Blk.new w _ _).kept ((Kept.refl [] _).alloc _) (by simp)
    have b2 : Blk w1 (w.heap.size + 1) 26 [.int .i64 kind2, .int .i64 birth2, .int .i64 prev2, .int .i64 id2, .int .i64 page2, .int .i64 frm2, .slice pb2 nb2 cb2, .slice pa2 na2 ca2, .int .i64 next2, .slice pr2 nr2 cr2, .slice pd2 nd2 cd2] := by rw [hw1]; have := Blk.new (w.alloc (.cells #[.int .i64 kind1, .int .i64 birth1, .int .i64 prev1, .int .i64 id1, .int .i64 page1, .int .i64 frm1, .slice pb1 nb1 cb1, .slice pa1 na1 ca1, .int .i64 next1, .slice pr1 nr1 cr1, .slice pd1 nd1 cd1] 26)) 26 [.int .i64 kind2, .int .i64 birth2, .int .i64 prev2, .int .i64 id2, .int .i64 page2, .int .i64 frm2, .slice pb2 nb2 cb2, .slice pa2 na2 ca2, .int .i64 next2, .slice pr2 nr2 cr2, .slice pd2 nd2 cd2]; rwa [World.size_alloc] at this
    have K1 := @hideH _ k1
    have HB1 := @hideH _ b1
    have HB2 := @hideH _ b2
    have x0 := b1.cell (j := 0) rfl
    have y0 := b2.cell (j := 0) rfl
    have x1 := b1.cell (j := 1) rfl
    have y1 := b2.cell (j := 1) rfl
    have x2 := b1.cell (j := 2) rfl
    have y2 := b2.cell (j := 2) rfl
    have x3 := b1.cell (j := 3) rfl
    have y3 := b2.cell (j := 3) rfl
    have x4 := b1.cell (j := 4) rfl
    have y4 := b2.cell (j := 4) rfl
    have x5 := b1.cell (j := 5) rfl
    have y5 := b2.cell (j := 5) rfl
    have x6 := b1.cell (j := 6) rfl
    have y6 := b2.cell (j := 6) rfl
    have x7 := b1.cell (j := 7) rfl
    have y7 := b2.cell (j := 7) rfl
    have x8 := b1.cell (j := 8) rfl
    have y8 := b2.cell (j := 8) rfl
    have x9 := b1.cell (j := 9) rfl
    have y9 := b2.cell (j := 9) rfl
    have x10 := b1.cell (j := 10) rfl
    have y10 := b2.cell (j := 10) rfl
    have t1 := (HBB1.out.kept k1).textR
    have t2 := (HBB2.out.kept k1).textR
    have t3 := (HBA1.out.kept k1).textR
    have t4 := (HBA2.out.kept k1).textR
    clear b1 b2 k1
    go_enter Try.func13, Try.ntmps13
    go_upto_region 1 with fail
    rw [← hw1]
    clear hw1
    go_wp2
    go_ret
    exact ⟨by rw [eQ.out]; rfl, K1.out⟩
  subst h_kind
  by_cases h_birth : birth1 = birth2
  rotate_left
  · have eQ := @hideH _ (show Q = false by rw [HQ.out]; exact bl_f (fun e => h_birth (by injection e)))
    have e1 : (birth1 != birth2) = true := by simp [h_birth]
    have e2 : (birth1 == birth2) = false := by simp [h_birth]
    clear h_birth
    obtain ⟨w1, hw1⟩ : ∃ w1, w1 = (w.alloc (.cells #[.int .i64 kind1, .int .i64 birth1, .int .i64 prev1, .int .i64 id1, .int .i64 page1, .int .i64 frm1, .slice pb1 nb1 cb1, .slice pa1 na1 ca1, .int .i64 next1, .slice pr1 nr1 cr1, .slice pd1 nd1 cd1] 26)).alloc (.cells #[.int .i64 kind1, .int .i64 birth2, .int .i64 prev2, .int .i64 id2, .int .i64 page2, .int .i64 frm2, .slice pb2 nb2 cb2, .slice pa2 na2 ca2, .int .i64 next2, .slice pr2 nr2 cr2, .slice pd2 nd2 cd2] 26) := ⟨_, rfl⟩
    have k1 : Kept [] w w1 := by rw [hw1]; exact ((Kept.refl [] w).alloc _).alloc _
    have b1 : Blk w1 w.heap.size 26 [.int .i64 kind1, .int .i64 birth1, .int .i64 prev1, .int .i64 id1, .int .i64 page1, .int .i64 frm1, .slice pb1 nb1 cb1, .slice pa1 na1 ca1, .int .i64 next1, .slice pr1 nr1 cr1, .slice pd1 nd1 cd1] := by rw [hw1]; exact (Blk.new w _ _).kept ((Kept.refl [] _).alloc _) (by simp)
    have b2 : Blk w1 (w.heap.size + 1) 26 [.int .i64 kind1, .int .i64 birth2, .int .i64 prev2, .int .i64 id2, .int .i64 page2, .int .i64 frm2, .slice pb2 nb2 cb2, .slice pa2 na2 ca2, .int .i64 next2, .slice pr2 nr2 cr2, .slice pd2 nd2 cd2] := by rw [hw1]; have := Blk.new (w.alloc (.cells #[.int .i64 kind1, .int .i64 birth1, .int .i64 prev1, .int .i64 id1, .int .i64 page1, .int .i64 frm1, .slice pb1 nb1 cb1, .slice pa1 na1 ca1, .int .i64 next1, .slice pr1 nr1 cr1, .slice pd1 nd1 cd1] 26)) 26 [.int .i64 kind1, .int .i64 birth2, .int .i64 prev2, .int .i64 id2, .int .i64 page2, .int .i64 frm2, .slice pb2 nb2 cb2, .slice pa2 na2 ca2, .int .i64 next2, .slice pr2 nr2 cr2, .slice pd2 nd2 cd2]; rwa [World.size_alloc] at this
    have K1 := @hideH _ k1
    have HB1 := @hideH _ b1
    have HB2 := @hideH _ b2
    have x0 := b1.cell (j := 0) rfl
    have y0 := b2.cell (j := 0) rfl
    have x1 := b1.cell (j := 1) rfl
    have y1 := b2.cell (j := 1) rfl
    have x2 := b1.cell (j := 2) rfl
    have y2 := b2.cell (j := 2) rfl
    have x3 := b1.cell (j := 3) rfl
    have y3 := b2.cell (j := 3) rfl
    have x4 := b1.cell (j := 4) rfl
    have y4 := b2.cell (j := 4) rfl
    have x5 := b1.cell (j := 5) rfl
    have y5 := b2.cell (j := 5) rfl
    have x6 := b1.cell (j := 6) rfl
    have y6 := b2.cell (j := 6) rfl
    have x7 := b1.cell (j := 7) rfl
    have y7 := b2.cell (j := 7) rfl
    have x8 := b1.cell (j := 8) rfl
    have y8 := b2.cell (j := 8) rfl
    have x9 := b1.cell (j := 9) rfl
    have y9 := b2.cell (j := 9) rfl
    have x10 := b1.cell (j := 10) rfl
    have y10 := b2.cell (j := 10) rfl
    have t1 := (HBB1.out.kept k1).textR
    have t2 := (HBB2.out.kept k1).textR
    have t3 := (HBA1.out.kept k1).textR
    have t4 := (HBA2.out.kept k1).textR
    clear b1 b2 k1
    go_enter Try.func13, Try.ntmps13
    go_upto_region 1 with fail
    rw [← hw1]
    clear hw1
    go_wp2
    go_ret
    exact ⟨by rw [eQ.out]; rfl, K1.out⟩
  subst h_birth
  by_cases h_prev : prev1 = prev2
  rotate_left
  · have eQ := @hideH _ (show Q = false by rw [HQ.out]; exact bl_f (fun e => h_prev (by injection e)))
    have e1 : (prev1 != prev2) = true := by simp [h_prev]
    have e2 : (prev1 == prev2) = false := by simp [h_prev]
    clear h_prev
    obtain ⟨w1, hw1⟩ : ∃ w1, w1 = (w.alloc (.cells #[.int .i64 kind1, .int .i64 birth1, .int .i64 prev1, .int .i64 id1, .int .i64 page1, .int .i64 frm1, .slice pb1 nb1 cb1, .slice pa1 na1 ca1, .int .i64 next1, .slice pr1 nr1 cr1, .slice pd1 nd1 cd1] 26)).alloc (.cells #[.int .i64 kind1, .int .i64 birth1, .int .i64 prev2, .int .i64 id2, .int .i64 page2, .int .i64 frm2, .slice pb2 nb2 cb2, .slice pa2 na2 ca2, .int .i64 next2, .slice pr2 nr2 cr2, .slice pd2 nd2 cd2] 26) := ⟨_, rfl⟩
    have k1 : Kept [] w w1 := by rw [hw1]; exact ((Kept.refl [] w).alloc _).alloc _
    have b1 : Blk w1 w.heap.size 26 [.int .i64 kind1, .int .i64 birth1, .int .i64 prev1, .int .i64 id1, .int .i64 page1, .int .i64 frm1, .slice pb1 nb1 cb1, .slice pa1 na1 ca1, .int .i64 next1, .slice pr1 nr1 cr1, .slice pd1 nd1 cd1] := by rw [hw1]; exact (Blk.new w _ _).kept ((Kept.refl [] _).alloc _) (by simp)
    have b2 : Blk w1 (w.heap.size + 1) 26 [.int .i64 kind1, .int .i64 birth1, .int .i64 prev2, .int .i64 id2, .int .i64 page2, .int .i64 frm2, .slice pb2 nb2 cb2, .slice pa2 na2 ca2, .int .i64 next2, .slice pr2 nr2 cr2, .slice pd2 nd2 cd2] := by rw [hw1]; have := Blk.new (w.alloc (.cells #[.int .i64 kind1, .int .i64 birth1, .int .i64 prev1, .int .i64 id1, .int .i64 page1, .int .i64 frm1, .slice pb1 nb1 cb1, .slice pa1 na1 ca1, .int .i64 next1, .slice pr1 nr1 cr1, .slice pd1 nd1 cd1] 26)) 26 [.int .i64 kind1, .int .i64 birth1, .int .i64 prev2, .int .i64 id2, .int .i64 page2, .int .i64 frm2, .slice pb2 nb2 cb2, .slice pa2 na2 ca2, .int .i64 next2, .slice pr2 nr2 cr2, .slice pd2 nd2 cd2]; rwa [World.size_alloc] at this
    have K1 := @hideH _ k1
    have HB1 := @hideH _ b1
    have HB2 := @hideH _ b2
    have x0 := b1.cell (j := 0) rfl
    have y0 := b2.cell (j := 0) rfl
    have x1 := b1.cell (j := 1) rfl
    have y1 := b2.cell (j := 1) rfl
    have x2 := b1.cell (j := 2) rfl
    have y2 := b2.cell (j := 2) rfl
    have x3 := b1.cell (j := 3) rfl
    have y3 := b2.cell (j := 3) rfl
    have x4 := b1.cell (j := 4) rfl
    have y4 := b2.cell (j := 4) rfl
    have x5 := b1.cell (j := 5) rfl
    have y5 := b2.cell (j := 5) rfl
    have x6 := b1.cell (j := 6) rfl
    have y6 := b2.cell (j := 6) rfl
    have x7 := b1.cell (j := 7) rfl
    have y7 := b2.cell (j := 7) rfl
    have x8 := b1.cell (j := 8) rfl
    have y8 := b2.cell (j := 8) rfl
    have x9 := b1.cell (j := 9) rfl
    have y9 := b2.cell (j := 9) rfl
    have x10 := b1.cell (j := 10) rfl
    have y10 := b2.cell (j := 10) rfl
    have t1 := (HBB1.out.kept k1).textR
    have t2 := (HBB2.out.kept k1).textR
    have t3 := (HBA1.out.kept k1).textR
    have t4 := (HBA2.out.kept k1).textR
    clear b1 b2 k1
    go_enter Try.func13, Try.ntmps13
    go_upto_region 1 with fail
    rw [← hw1]
    clear hw1
    go_wp2
    go_ret
    exact ⟨by rw [eQ.out]; rfl, K1.out⟩
  subst h_prev
  by_cases h_id : id1 = id2
  rotate_left
  · have eQ := @hideH _ (show Q = false by rw [HQ.out]; exact bl_f (fun e => h_id (by injection e)))
    have e1 : (id1 != id2) = true := by simp [h_id]
    have e2 : (id1 == id2) = false := by simp [h_id]
    clear h_id
    obtain ⟨w1, hw1⟩ : ∃ w1, w1 = (w.alloc (.cells #[.int .i64 kind1, .int .i64 birth1, .int .i64 prev1, .int .i64 id1, .int .i64 page1, .int .i64 frm1, .slice pb1 nb1 cb1, .slice pa1 na1 ca1, .int .i64 next1, .slice pr1 nr1 cr1, .slice pd1 nd1 cd1] 26)).alloc (.cells #[.int .i64 kind1, .int .i64 birth1, .int .i64 prev1, .int .i64 id2, .int .i64 page2, .int .i64 frm2, .slice pb2 nb2 cb2, .slice pa2 na2 ca2, .int .i64 next2, .slice pr2 nr2 cr2, .slice pd2 nd2 cd2] 26) := ⟨_, rfl⟩
    have k1 : Kept [] w w1 := by rw [hw1]; exact ((Kept.refl [] w).alloc _).alloc _
    have b1 : Blk w1 w.heap.size 26 [.int .i64 kind1, .int .i64 birth1, .int .i64 prev1, .int .i64 id1, .int .i64 page1, .int .i64 frm1, .slice pb1 nb1 cb1, .slice pa1 na1 ca1, .int .i64 next1, .slice pr1 nr1 cr1, .slice pd1 nd1 cd1] := by rw [hw1]; exact (Blk.new w _ _).kept ((Kept.refl [] _).alloc _) (by simp)
    have b2 : Blk w1 (w.heap.size + 1) 26 [.int .i64 kind1, .int .i64 birth1, .int .i64 prev1, .int .i64 id2, .int .i64 page2, .int .i64 frm2, .slice pb2 nb2 cb2, .slice pa2 na2 ca2, .int .i64 next2, .slice pr2 nr2 cr2, .slice pd2 nd2 cd2] := by rw [hw1]; have := Blk.new (w.alloc (.cells #[.int .i64 kind1, .int .i64 birth1, .int .i64 prev1, .int .i64 id1, .int .i64 page1, .int .i64 frm1, .slice pb1 nb1 cb1, .slice pa1 na1 ca1, .int .i64 next1, .slice pr1 nr1 cr1, .slice pd1 nd1 cd1] 26)) 26 [.int .i64 kind1, .int .i64 birth1, .int .i64 prev1, .int .i64 id2, .int .i64 page2, .int .i64 frm2, .slice pb2 nb2 cb2, .slice pa2 na2 ca2, .int .i64 next2, .slice pr2 nr2 cr2, .slice pd2 nd2 cd2]; rwa [World.size_alloc] at this
    have K1 := @hideH _ k1
    have HB1 := @hideH _ b1
    have HB2 := @hideH _ b2
    have x0 := b1.cell (j := 0) rfl
    have y0 := b2.cell (j := 0) rfl
    have x1 := b1.cell (j := 1) rfl
    have y1 := b2.cell (j := 1) rfl
    have x2 := b1.cell (j := 2) rfl
    have y2 := b2.cell (j := 2) rfl
    have x3 := b1.cell (j := 3) rfl
    have y3 := b2.cell (j := 3) rfl
    have x4 := b1.cell (j := 4) rfl
    have y4 := b2.cell (j := 4) rfl
    have x5 := b1.cell (j := 5) rfl
    have y5 := b2.cell (j := 5) rfl
    have x6 := b1.cell (j := 6) rfl
    have y6 := b2.cell (j := 6) rfl
    have x7 := b1.cell (j := 7) rfl
    have y7 := b2.cell (j := 7) rfl
    have x8 := b1.cell (j := 8) rfl
    have y8 := b2.cell (j := 8) rfl
    have x9 := b1.cell (j := 9) rfl
    have y9 := b2.cell (j := 9) rfl
    have x10 := b1.cell (j := 10) rfl
    have y10 := b2.cell (j := 10) rfl
    have t1 := (HBB1.out.kept k1).textR
    have t2 := (HBB2.out.kept k1).textR
    have t3 := (HBA1.out.kept k1).textR
    have t4 := (HBA2.out.kept k1).textR
    clear b1 b2 k1
    go_enter Try.func13, Try.ntmps13
    go_upto_region 1 with fail
    rw [← hw1]
    clear hw1
    go_wp2
    go_ret
    exact ⟨by rw [eQ.out]; rfl, K1.out⟩
  subst h_id
  by_cases h_page : page1 = page2
  rotate_left
  · have eQ := @hideH _ (show Q = false by rw [HQ.out]; exact bl_f (fun e => h_page (by injection e)))
    have e1 : (page1 != page2) = true := by simp [h_page]
    have e2 : (page1 == page2) = false := by simp [h_page]
    clear h_page
    obtain ⟨w1, hw1⟩ : ∃ w1, w1 = (w.alloc (.cells #[.int .i64 kind1, .int .i64 birth1, .int .i64 prev1, .int .i64 id1, .int .i64 page1, .int .i64 frm1, .slice pb1 nb1 cb1, .slice pa1 na1 ca1, .int .i64 next1, .slice pr1 nr1 cr1, .slice pd1 nd1 cd1] 26)).alloc (.cells #[.int .i64 kind1, .int .i64 birth1, .int .i64 prev1, .int .i64 id1, .int .i64 page2, .int .i64 frm2, .slice pb2 nb2 cb2, .slice pa2 na2 ca2, .int .i64 next2, .slice pr2 nr2 cr2, .slice pd2 nd2 cd2] 26) := ⟨_, rfl⟩
    have k1 : Kept [] w w1 := by rw [hw1]; exact ((Kept.refl [] w).alloc _).alloc _
    have b1 : Blk w1 w.heap.size 26 [.int .i64 kind1, .int .i64 birth1, .int .i64 prev1, .int .i64 id1, .int .i64 page1, .int .i64 frm1, .slice pb1 nb1 cb1, .slice pa1 na1 ca1, .int .i64 next1, .slice pr1 nr1 cr1, .slice pd1 nd1 cd1] := by rw [hw1]; exact (Blk.new w _ _).kept ((Kept.refl [] _).alloc _) (by simp)
    have b2 : Blk w1 (w.heap.size + 1) 26 [.int .i64 kind1, .int .i64 birth1, .int .i64 prev1, .int .i64 id1, .int .i64 page2, .int .i64 frm2, .slice pb2 nb2 cb2, .slice pa2 na2 ca2, .int .i64 next2, .slice pr2 nr2 cr2, .slice pd2 nd2 cd2] := by rw [hw1]; have := Blk.new (w.alloc (.cells #[.int .i64 kind1, .int .i64 birth1, .int .i64 prev1, .int .i64 id1, .int .i64 page1, .int .i64 frm1, .slice pb1 nb1 cb1, .slice pa1 na1 ca1, .int .i64 next1, .slice pr1 nr1 cr1, .slice pd1 nd1 cd1] 26)) 26 [.int .i64 kind1, .int .i64 birth1, .int .i64 prev1, .int .i64 id1, .int .i64 page2, .int .i64 frm2, .slice pb2 nb2 cb2, .slice pa2 na2 ca2, .int .i64 next2, .slice pr2 nr2 cr2, .slice pd2 nd2 cd2]; rwa [World.size_alloc] at this
    have K1 := @hideH _ k1
    have HB1 := @hideH _ b1
    have HB2 := @hideH _ b2
    have x0 := b1.cell (j := 0) rfl
    have y0 := b2.cell (j := 0) rfl
    have x1 := b1.cell (j := 1) rfl
    have y1 := b2.cell (j := 1) rfl
    have x2 := b1.cell (j := 2) rfl
    have y2 := b2.cell (j := 2) rfl
    have x3 := b1.cell (j := 3) rfl
    have y3 := b2.cell (j := 3) rfl
    have x4 := b1.cell (j := 4) rfl
    have y4 := b2.cell (j := 4) rfl
    have x5 := b1.cell (j := 5) rfl
    have y5 := b2.cell (j := 5) rfl
    have x6 := b1.cell (j := 6) rfl
    have y6 := b2.cell (j := 6) rfl
    have x7 := b1.cell (j := 7) rfl
    have y7 := b2.cell (j := 7) rfl
    have x8 := b1.cell (j := 8) rfl
    have y8 := b2.cell (j := 8) rfl
    have x9 := b1.cell (j := 9) rfl
    have y9 := b2.cell (j := 9) rfl
    have x10 := b1.cell (j := 10) rfl
    have y10 := b2.cell (j := 10) rfl
    have t1 := (HBB1.out.kept k1).textR
    have t2 := (HBB2.out.kept k1).textR
    have t3 := (HBA1.out.kept k1).textR
    have t4 := (HBA2.out.kept k1).textR
    clear b1 b2 k1
    go_enter Try.func13, Try.ntmps13
    go_upto_region 1 with fail
    rw [← hw1]
    clear hw1
    go_wp2
    go_ret
    exact ⟨by rw [eQ.out]; rfl, K1.out⟩
  subst h_page
  by_cases h_frm : frm1 = frm2
  rotate_left
  · have eQ := @hideH _ (show Q = false by rw [HQ.out]; exact bl_f (fun e => h_frm (by injection e)))
    have e1 : (frm1 != frm2) = true := by simp [h_frm]
    have e2 : (frm1 == frm2) = false := by simp [h_frm]
    clear h_frm
    obtain ⟨w1, hw1⟩ : ∃ w1, w1 = (w.alloc (.cells #[.int .i64 kind1, .int .i64 birth1, .int .i64 prev1, .int .i64 id1, .int .i64 page1, .int .i64 frm1, .slice pb1 nb1 cb1, .slice pa1 na1 ca1, .int .i64 next1, .slice pr1 nr1 cr1, .slice pd1 nd1 cd1] 26)).alloc (.cells #[.int .i64 kind1, .int .i64 birth1, .int .i64 prev1, .int .i64 id1, .int .i64 page1, .int .i64 frm2, .slice pb2 nb2 cb2, .slice pa2 na2 ca2, .int .i64 next2, .slice pr2 nr2 cr2, .slice pd2 nd2 cd2] 26) := ⟨_, rfl⟩
    have k1 : Kept [] w w1 := by rw [hw1]; exact ((Kept.refl [] w).alloc _).alloc _
    have b1 : Blk w1 w.heap.size 26 [.int .i64 kind1, .int .i64 birth1, .int .i64 prev1, .int .i64 id1, .int .i64 page1, .int .i64 frm1, .slice pb1 nb1 cb1, .slice pa1 na1 ca1, .int .i64 next1, .slice pr1 nr1 cr1, .slice pd1 nd1 cd1] := by rw [hw1]; exact (Blk.new w _ _).kept ((Kept.refl [] _).alloc _) (by simp)
    have b2 : Blk w1 (w.heap.size + 1) 26 [.int .i64 kind1, .int .i64 birth1, .int .i64 prev1, .int .i64 id1, .int .i64 page1, .int .i64 frm2, .slice pb2 nb2 cb2, .slice pa2 na2 ca2, .int .i64 next2, .slice pr2 nr2 cr2, .slice pd2 nd2 cd2] := by rw [hw1]; have := Blk.new (w.alloc (.cells #[.int .i64 kind1, .int .i64 birth1, .int .i64 prev1, .int .i64 id1, .int .i64 page1, .int .i64 frm1, .slice pb1 nb1 cb1, .slice pa1 na1 ca1, .int .i64 next1, .slice pr1 nr1 cr1, .slice pd1 nd1 cd1] 26)) 26 [.int .i64 kind1, .int .i64 birth1, .int .i64 prev1, .int .i64 id1, .int .i64 page1, .int .i64 frm2, .slice pb2 nb2 cb2, .slice pa2 na2 ca2, .int .i64 next2, .slice pr2 nr2 cr2, .slice pd2 nd2 cd2]; rwa [World.size_alloc] at this
    have K1 := @hideH _ k1
    have HB1 := @hideH _ b1
    have HB2 := @hideH _ b2
    have x0 := b1.cell (j := 0) rfl
    have y0 := b2.cell (j := 0) rfl
    have x1 := b1.cell (j := 1) rfl
    have y1 := b2.cell (j := 1) rfl
    have x2 := b1.cell (j := 2) rfl
    have y2 := b2.cell (j := 2) rfl
    have x3 := b1.cell (j := 3) rfl
    have y3 := b2.cell (j := 3) rfl
    have x4 := b1.cell (j := 4) rfl
    have y4 := b2.cell (j := 4) rfl
    have x5 := b1.cell (j := 5) rfl
    have y5 := b2.cell (j := 5) rfl
    have x6 := b1.cell (j := 6) rfl
    have y6 := b2.cell (j := 6) rfl
    have x7 := b1.cell (j := 7) rfl
    have y7 := b2.cell (j := 7) rfl
    have x8 := b1.cell (j := 8) rfl
    have y8 := b2.cell (j := 8) rfl
    have x9 := b1.cell (j := 9) rfl
    have y9 := b2.cell (j := 9) rfl
    have x10 := b1.cell (j := 10) rfl
    have y10 := b2.cell (j := 10) rfl
    have t1 := (HBB1.out.kept k1).textR
    have t2 := (HBB2.out.kept k1).textR
    have t3 := (HBA1.out.kept k1).textR
    have t4 := (HBA2.out.kept k1).textR
    clear b1 b2 k1
    go_enter Try.func13, Try.ntmps13
    go_upto_region 1 with fail
    rw [← hw1]
    clear hw1
    go_wp2
    go_ret
    exact ⟨by rw [eQ.out]; rfl, K1.out⟩
  subst h_frm
  by_cases h_next : next1 = next2
  rotate_left
  · have eQ := @hideH _ (show Q = false by rw [HQ.out]; exact bl_f (fun e => h_next (by injection e)))
    have e1 : (next1 != next2) = true := by simp [h_next]
    have e2 : (next1 == next2) = false := by simp [h_next]
    clear h_next
    obtain ⟨w1, hw1⟩ : ∃ w1, w1 = (w.alloc (.cells #[.int .i64 kind1, .int .i64 birth1, .int .i64 prev1, .int .i64 id1, .int .i64 page1, .int .i64 frm1, .slice pb1 nb1 cb1, .slice pa1 na1 ca1, .int .i64 next1, .slice pr1 nr1 cr1, .slice pd1 nd1 cd1] 26)).alloc (.cells #[.int .i64 kind1, .int .i64 birth1, .int .i64 prev1, .int .i64 id1, .int .i64 page1, .int .i64 frm1, .slice pb2 nb2 cb2, .slice pa2 na2 ca2, .int .i64 next2, .slice pr2 nr2 cr2, .slice pd2 nd2 cd2] 26) := ⟨_, rfl⟩
    have k1 : Kept [] w w1 := by rw [hw1]; exact ((Kept.refl [] w).alloc _).alloc _
    have b1 : Blk w1 w.heap.size 26 [.int .i64 kind1, .int .i64 birth1, .int .i64 prev1, .int .i64 id1, .int .i64 page1, .int .i64 frm1, .slice pb1 nb1 cb1, .slice pa1 na1 ca1, .int .i64 next1, .slice pr1 nr1 cr1, .slice pd1 nd1 cd1] := by rw [hw1]; exact (Blk.new w _ _).kept ((Kept.refl [] _).alloc _) (by simp)
    have b2 : Blk w1 (w.heap.size + 1) 26 [.int .i64 kind1, .int .i64 birth1, .int .i64 prev1, .int .i64 id1, .int .i64 page1, .int .i64 frm1, .slice pb2 nb2 cb2, .slice pa2 na2 ca2, .int .i64 next2, .slice pr2 nr2 cr2, .slice pd2 nd2 cd2] := by rw [hw1]; have := Blk.new (w.alloc (.cells #[.int .i64 kind1, .int .i64 birth1, .int .i64 prev1, .int .i64 id1, .int .i64 page1, .int .i64 frm1, .slice pb1 nb1 cb1, .slice pa1 na1 ca1, .int .i64 next1, .slice pr1 nr1 cr1, .slice pd1 nd1 cd1] 26)) 26 [.int .i64 kind1, .int .i64 birth1, .int .i64 prev1, .int .i64 id1, .int .i64 page1, .int .i64 frm1, .slice pb2 nb2 cb2, .slice pa2 na2 ca2, .int .i64 next2, .slice pr2 nr2 cr2, .slice pd2 nd2 cd2]; rwa [World.size_alloc] at this
    have K1 := @hideH _ k1
    have HB1 := @hideH _ b1
    have HB2 := @hideH _ b2
    have x0 := b1.cell (j := 0) rfl
    have y0 := b2.cell (j := 0) rfl
    have x1 := b1.cell (j := 1) rfl
    have y1 := b2.cell (j := 1) rfl
    have x2 := b1.cell (j := 2) rfl
    have y2 := b2.cell (j := 2) rfl
    have x3 := b1.cell (j := 3) rfl
    have y3 := b2.cell (j := 3) rfl
    have x4 := b1.cell (j := 4) rfl
    have y4 := b2.cell (j := 4) rfl
    have x5 := b1.cell (j := 5) rfl
    have y5 := b2.cell (j := 5) rfl
    have x6 := b1.cell (j := 6) rfl
    have y6 := b2.cell (j := 6) rfl
    have x7 := b1.cell (j := 7) rfl
    have y7 := b2.cell (j := 7) rfl
    have x8 := b1.cell (j := 8) rfl
    have y8 := b2.cell (j := 8) rfl
    have x9 := b1.cell (j := 9) rfl
    have y9 := b2.cell (j := 9) rfl
    have x10 := b1.cell (j := 10) rfl
    have y10 := b2.cell (j := 10) rfl
    have t1 := (HBB1.out.kept k1).textR
    have t2 := (HBB2.out.kept k1).textR
    have t3 := (HBA1.out.kept k1).textR
    have t4 := (HBA2.out.kept k1).textR
    clear b1 b2 k1
    go_enter Try.func13, Try.ntmps13
    go_upto_region 1 with fail
    rw [← hw1]
    clear hw1
    go_wp2
    go_ret
    exact ⟨by rw [eQ.out]; rfl, K1.out⟩
  subst h_next
  by_cases h_before : before1 = before2
  rotate_left
  · have eQ := @hideH _ (show Q = false by rw [HQ.out]; exact bl_f (fun e => h_before (by injection e)))
    obtain ⟨w1, hw1⟩ : ∃ w1, w1 = (w.alloc (.cells #[.int .i64 kind1, .int .i64 birth1, .int .i64 prev1, .int .i64 id1, .int .i64 page1, .int .i64 frm1, .slice pb1 nb1 cb1, .slice pa1 na1 ca1, .int .i64 next1, .slice pr1 nr1 cr1, .slice pd1 nd1 cd1] 26)).alloc (.cells #[.int .i64 kind1, .int .i64 birth1, .int .i64 prev1, .int .i64 id1, .int .i64 page1, .int .i64 frm1, .slice pb2 nb2 cb2, .slice pa2 na2 ca2, .int .i64 next1, .slice pr2 nr2 cr2, .slice pd2 nd2 cd2] 26) := ⟨_, rfl⟩
    have k1 : Kept [] w w1 := by rw [hw1]; exact ((Kept.refl [] w).alloc _).alloc _
    have b1 : Blk w1 w.heap.size 26 [.int .i64 kind1, .int .i64 birth1, .int .i64 prev1, .int .i64 id1, .int .i64 page1, .int .i64 frm1, .slice pb1 nb1 cb1, .slice pa1 na1 ca1, .int .i64 next1, .slice pr1 nr1 cr1, .slice pd1 nd1 cd1] := by rw [hw1]; exact (Blk.new w _ _).kept ((Kept.refl [] _).alloc _) (by simp)
    have b2 : Blk w1 (w.heap.size + 1) 26 [.int .i64 kind1, .int .i64 birth1, .int .i64 prev1, .int .i64 id1, .int .i64 page1, .int .i64 frm1, .slice pb2 nb2 cb2, .slice pa2 na2 ca2, .int .i64 next1, .slice pr2 nr2 cr2, .slice pd2 nd2 cd2] := by rw [hw1]; have := Blk.new (w.alloc (.cells #[.int .i64 kind1, .int .i64 birth1, .int .i64 prev1, .int .i64 id1, .int .i64 page1, .int .i64 frm1, .slice pb1 nb1 cb1, .slice pa1 na1 ca1, .int .i64 next1, .slice pr1 nr1 cr1, .slice pd1 nd1 cd1] 26)) 26 [.int .i64 kind1, .int .i64 birth1, .int .i64 prev1, .int .i64 id1, .int .i64 page1, .int .i64 frm1, .slice pb2 nb2 cb2, .slice pa2 na2 ca2, .int .i64 next1, .slice pr2 nr2 cr2, .slice pd2 nd2 cd2]; rwa [World.size_alloc] at this
    have K1 := @hideH _ k1
    have HB1 := @hideH _ b1
    have HB2 := @hideH _ b2
    have x0 := b1.cell (j := 0) rfl
    have y0 := b2.cell (j := 0) rfl
    have x1 := b1.cell (j := 1) rfl
    have y1 := b2.cell (j := 1) rfl
    have x2 := b1.cell (j := 2) rfl
    have y2 := b2.cell (j := 2) rfl
    have x3 := b1.cell (j := 3) rfl
    have y3 := b2.cell (j := 3) rfl
    have x4 := b1.cell (j := 4) rfl
    have y4 := b2.cell (j := 4) rfl
    have x5 := b1.cell (j := 5) rfl
    have y5 := b2.cell (j := 5) rfl
    have x6 := b1.cell (j := 6) rfl
    have y6 := b2.cell (j := 6) rfl
    have x7 := b1.cell (j := 7) rfl
    have y7 := b2.cell (j := 7) rfl
    have x8 := b1.cell (j := 8) rfl
    have y8 := b2.cell (j := 8) rfl
    have x9 := b1.cell (j := 9) rfl
    have y9 := b2.cell (j := 9) rfl
    have x10 := b1.cell (j := 10) rfl
    have y10 := b2.cell (j := 10) rfl
    have t1 := (HBB1.out.kept k1).textR
    have t2 := (HBB2.out.kept k1).textR
    have t3 := (HBA1.out.kept k1).textR
    have t4 := (HBA2.out.kept k1).textR
    clear b1 b2 k1
    go_enter Try.func13, Try.ntmps13
    go_upto_region 1 with fail
    rw [← hw1]
    clear hw1
    go_wp2
    go_ret
    exact ⟨by rw [eQ.out]; rfl, K1.out⟩
  subst h_before
  obtain rfl : nb1 = nb2 := by rw [HNB1.out, HNB2.out]
  by_cases h_after : after1 = after2
  rotate_left
  · have eQ := @hideH _ (show Q = false by rw [HQ.out]; exact bl_f (fun e => h_after (by injection e)))
    obtain ⟨w1, hw1⟩ : ∃ w1, w1 = (w.alloc (.cells #[.int .i64 kind1, .int .i64 birth1, .int .i64 prev1, .int .i64 id1, .int .i64 page1, .int .i64 frm1, .slice pb1 nb1 cb1, .slice pa1 na1 ca1, .int .i64 next1, .slice pr1 nr1 cr1, .slice pd1 nd1 cd1] 26)).alloc (.cells #[.int .i64 kind1, .int .i64 birth1, .int .i64 prev1, .int .i64 id1, .int .i64 page1, .int .i64 frm1, .slice pb2 nb1 cb2, .slice pa2 na2 ca2, .int .i64 next1, .slice pr2 nr2 cr2, .slice pd2 nd2 cd2] 26) := ⟨_, rfl⟩
    have k1 : Kept [] w w1 := by rw [hw1]; exact ((Kept.refl [] w).alloc _).alloc _
    have b1 : Blk w1 w.heap.size 26 [.int .i64 kind1, .int .i64 birth1, .int .i64 prev1, .int .i64 id1, .int .i64 page1, .int .i64 frm1, .slice pb1 nb1 cb1, .slice pa1 na1 ca1, .int .i64 next1, .slice pr1 nr1 cr1, .slice pd1 nd1 cd1] := by rw [hw1]; exact (Blk.new w _ _).kept ((Kept.refl [] _).alloc _) (by simp)
    have b2 : Blk w1 (w.heap.size + 1) 26 [.int .i64 kind1, .int .i64 birth1, .int .i64 prev1, .int .i64 id1, .int .i64 page1, .int .i64 frm1, .slice pb2 nb1 cb2, .slice pa2 na2 ca2, .int .i64 next1, .slice pr2 nr2 cr2, .slice pd2 nd2 cd2] := by rw [hw1]; have := Blk.new (w.alloc (.cells #[.int .i64 kind1, .int .i64 birth1, .int .i64 prev1, .int .i64 id1, .int .i64 page1, .int .i64 frm1, .slice pb1 nb1 cb1, .slice pa1 na1 ca1, .int .i64 next1, .slice pr1 nr1 cr1, .slice pd1 nd1 cd1] 26)) 26 [.int .i64 kind1, .int .i64 birth1, .int .i64 prev1, .int .i64 id1, .int .i64 page1, .int .i64 frm1, .slice pb2 nb1 cb2, .slice pa2 na2 ca2, .int .i64 next1, .slice pr2 nr2 cr2, .slice pd2 nd2 cd2]; rwa [World.size_alloc] at this
    have K1 := @hideH _ k1
    have HB1 := @hideH _ b1
    have HB2 := @hideH _ b2
    have x0 := b1.cell (j := 0) rfl
    have y0 := b2.cell (j := 0) rfl
    have x1 := b1.cell (j := 1) rfl
    have y1 := b2.cell (j := 1) rfl
    have x2 := b1.cell (j := 2) rfl
    have y2 := b2.cell (j := 2) rfl
    have x3 := b1.cell (j := 3) rfl
    have y3 := b2.cell (j := 3) rfl
    have x4 := b1.cell (j := 4) rfl
    have y4 := b2.cell (j := 4) rfl
    have x5 := b1.cell (j := 5) rfl
    have y5 := b2.cell (j := 5) rfl
    have x6 := b1.cell (j := 6) rfl
    have y6 := b2.cell (j := 6) rfl
    have x7 := b1.cell (j := 7) rfl
    have y7 := b2.cell (j := 7) rfl
    have x8 := b1.cell (j := 8) rfl
    have y8 := b2.cell (j := 8) rfl
    have x9 := b1.cell (j := 9) rfl
    have y9 := b2.cell (j := 9) rfl
    have x10 := b1.cell (j := 10) rfl
    have y10 := b2.cell (j := 10) rfl
    have t1 := (HBB1.out.kept k1).textR
    have t2 := (HBB2.out.kept k1).textR
    have t3 := (HBA1.out.kept k1).textR
    have t4 := (HBA2.out.kept k1).textR
    clear b1 b2 k1
    go_enter Try.func13, Try.ntmps13
    go_upto_region 1 with fail
    rw [← hw1]
    clear hw1
    go_wp2
    go_ret
    exact ⟨by rw [eQ.out]; rfl, K1.out⟩
  subst h_after
  obtain rfl : na1 = na2 := by rw [HNA1.out, HNA2.out]
  by_cases h_nr : nr1 = nr2
  rotate_left
  · have eQ := @hideH _ (show Q = false by rw [HQ.out]; exact bl_f (fun e => h_nr (by rw [HNR1.out, HNR2.out]; injection e with e1 e2 e3 e4 e5 e6 e7 e8 e9 e10 e11; rw [e10])))
    have e1 : ((nr1 : Int) != (nr2 : Int)) = true := bne_iff_ne.2 (fun e => h_nr (by omega))
    have e2 : ((nr1 : Int) == (nr2 : Int)) = false := beq_eq_false_iff_ne.2 (fun e => h_nr (by omega))
    have e3 : ¬ nr1 = nr2 := h_nr
    clear h_nr
    obtain ⟨w1, hw1⟩ : ∃ w1, w1 = (w.alloc (.cells #[.int .i64 kind1, .int .i64 birth1, .int .i64 prev1, .int .i64 id1, .int .i64 page1, .int .i64 frm1, .slice pb1 nb1 cb1, .slice pa1 na1 ca1, .int .i64 next1, .slice pr1 nr1 cr1, .slice pd1 nd1 cd1] 26)).alloc (.cells #[.int .i64 kind1, .int .i64 birth1, .int .i64 prev1, .int .i64 id1, .int .i64 page1, .int .i64 frm1, .slice pb2 nb1 cb2, .slice pa2 na1 ca2, .int .i64 next1, .slice pr2 nr2 cr2, .slice pd2 nd2 cd2] 26) := ⟨_, rfl⟩
    have k1 : Kept [] w w1 := by rw [hw1]; exact ((Kept.refl [] w).alloc _).alloc _
    have b1 : Blk w1 w.heap.size 26 [.int .i64 kind1, .int .i64 birth1, .int .i64 prev1, .int .i64 id1, .int .i64 page1, .int .i64 frm1, .slice pb1 nb1 cb1, .slice pa1 na1 ca1, .int .i64 next1, .slice pr1 nr1 cr1, .slice pd1 nd1 cd1] := by rw [hw1]; exact (Blk.new w _ _).kept ((Kept.refl [] _).alloc _) (by simp)
    have b2 : Blk w1 (w.heap.size + 1) 26 [.int .i64 kind1, .int .i64 birth1, .int .i64 prev1, .int .i64 id1, .int .i64 page1, .int .i64 frm1, .slice pb2 nb1 cb2, .slice pa2 na1 ca2, .int .i64 next1, .slice pr2 nr2 cr2, .slice pd2 nd2 cd2] := by rw [hw1]; have := Blk.new (w.alloc (.cells #[.int .i64 kind1, .int .i64 birth1, .int .i64 prev1, .int .i64 id1, .int .i64 page1, .int .i64 frm1, .slice pb1 nb1 cb1, .slice pa1 na1 ca1, .int .i64 next1, .slice pr1 nr1 cr1, .slice pd1 nd1 cd1] 26)) 26 [.int .i64 kind1, .int .i64 birth1, .int .i64 prev1, .int .i64 id1, .int .i64 page1, .int .i64 frm1, .slice pb2 nb1 cb2, .slice pa2 na1 ca2, .int .i64 next1, .slice pr2 nr2 cr2, .slice pd2 nd2 cd2]; rwa [World.size_alloc] at this
    have K1 := @hideH _ k1
    have HB1 := @hideH _ b1
    have HB2 := @hideH _ b2
    have x0 := b1.cell (j := 0) rfl
    have y0 := b2.cell (j := 0) rfl
    have x1 := b1.cell (j := 1) rfl
    have y1 := b2.cell (j := 1) rfl
    have x2 := b1.cell (j := 2) rfl
    have y2 := b2.cell (j := 2) rfl
    have x3 := b1.cell (j := 3) rfl
    have y3 := b2.cell (j := 3) rfl
    have x4 := b1.cell (j := 4) rfl
    have y4 := b2.cell (j := 4) rfl
    have x5 := b1.cell (j := 5) rfl
    have y5 := b2.cell (j := 5) rfl
    have x6 := b1.cell (j := 6) rfl
    have y6 := b2.cell (j := 6) rfl
    have x7 := b1.cell (j := 7) rfl
    have y7 := b2.cell (j := 7) rfl
    have x8 := b1.cell (j := 8) rfl
    have y8 := b2.cell (j := 8) rfl
    have x9 := b1.cell (j := 9) rfl
    have y9 := b2.cell (j := 9) rfl
    have x10 := b1.cell (j := 10) rfl
    have y10 := b2.cell (j := 10) rfl
    have t1 := (HBB1.out.kept k1).textR
    have t2 := (HBB2.out.kept k1).textR
    have t3 := (HBA1.out.kept k1).textR
    have t4 := (HBA2.out.kept k1).textR
    clear b1 b2 k1
    go_enter Try.func13, Try.ntmps13
    go_upto_region 1 with fail
    rw [← hw1]
    clear hw1
    go_wp2
    go_ret
    exact ⟨by rw [eQ.out]; rfl, K1.out⟩
  subst h_nr
  by_cases h_nd : nd1 = nd2
  rotate_left
  · have eQ := @hideH _ (show Q = false by rw [HQ.out]; exact bl_f (fun e => h_nd (by rw [HND1.out, HND2.out]; injection e with e1 e2 e3 e4 e5 e6 e7 e8 e9 e10 e11; rw [e11])))
    have e1 : ((nd1 : Int) != (nd2 : Int)) = true := bne_iff_ne.2 (fun e => h_nd (by omega))
    have e2 : ((nd1 : Int) == (nd2 : Int)) = false := beq_eq_false_iff_ne.2 (fun e => h_nd (by omega))
    have e3 : ¬ nd1 = nd2 := h_nd
    clear h_nd
    obtain ⟨w1, hw1⟩ : ∃ w1, w1 = (w.alloc (.cells #[.int .i64 kind1, .int .i64 birth1, .int .i64 prev1, .int .i64 id1, .int .i64 page1, .int .i64 frm1, .slice pb1 nb1 cb1, .slice pa1 na1 ca1, .int .i64 next1, .slice pr1 nr1 cr1, .slice pd1 nd1 cd1] 26)).alloc (.cells #[.int .i64 kind1, .int .i64 birth1, .int .i64 prev1, .int .i64 id1, .int .i64 page1, .int .i64 frm1, .slice pb2 nb1 cb2, .slice pa2 na1 ca2, .int .i64 next1, .slice pr2 nr1 cr2, .slice pd2 nd2 cd2] 26) := ⟨_, rfl⟩
    have k1 : Kept [] w w1 := by rw [hw1]; exact ((Kept.refl [] w).alloc _).alloc _
    have b1 : Blk w1 w.heap.size 26 [.int .i64 kind1, .int .i64 birth1, .int .i64 prev1, .int .i64 id1, .int .i64 page1, .int .i64 frm1, .slice pb1 nb1 cb1, .slice pa1 na1 ca1, .int .i64 next1, .slice pr1 nr1 cr1, .slice pd1 nd1 cd1] := by rw [hw1]; exact (Blk.new w _ _).kept ((Kept.refl [] _).alloc _) (by simp)
    have b2 : Blk w1 (w.heap.size + 1) 26 [.int .i64 kind1, .int .i64 birth1, .int .i64 prev1, .int .i64 id1, .int .i64 page1, .int .i64 frm1, .slice pb2 nb1 cb2, .slice pa2 na1 ca2, .int .i64 next1, .slice pr2 nr1 cr2, .slice pd2 nd2 cd2] := by rw [hw1]; have := Blk.new (w.alloc (.cells #[.int .i64 kind1, .int .i64 birth1, .int .i64 prev1, .int .i64 id1, .int .i64 page1, .int .i64 frm1, .slice pb1 nb1 cb1, .slice pa1 na1 ca1, .int .i64 next1, .slice pr1 nr1 cr1, .slice pd1 nd1 cd1] 26)) 26 [.int .i64 kind1, .int .i64 birth1, .int .i64 prev1, .int .i64 id1, .int .i64 page1, .int .i64 frm1, .slice pb2 nb1 cb2, .slice pa2 na1 ca2, .int .i64 next1, .slice pr2 nr1 cr2, .slice pd2 nd2 cd2]; rwa [World.size_alloc] at this
    have K1 := @hideH _ k1
    have HB1 := @hideH _ b1
    have HB2 := @hideH _ b2
    have x0 := b1.cell (j := 0) rfl
    have y0 := b2.cell (j := 0) rfl
    have x1 := b1.cell (j := 1) rfl
    have y1 := b2.cell (j := 1) rfl
    have x2 := b1.cell (j := 2) rfl
    have y2 := b2.cell (j := 2) rfl
    have x3 := b1.cell (j := 3) rfl
    have y3 := b2.cell (j := 3) rfl
    have x4 := b1.cell (j := 4) rfl
    have y4 := b2.cell (j := 4) rfl
    have x5 := b1.cell (j := 5) rfl
    have y5 := b2.cell (j := 5) rfl
    have x6 := b1.cell (j := 6) rfl
    have y6 := b2.cell (j := 6) rfl
    have x7 := b1.cell (j := 7) rfl
    have y7 := b2.cell (j := 7) rfl
    have x8 := b1.cell (j := 8) rfl
    have y8 := b2.cell (j := 8) rfl
    have x9 := b1.cell (j := 9) rfl
    have y9 := b2.cell (j := 9) rfl
    have x10 := b1.cell (j := 10) rfl
    have y10 := b2.cell (j := 10) rfl
    have t1 := (HBB1.out.kept k1).textR
    have t2 := (HBB2.out.kept k1).textR
    have t3 := (HBA1.out.kept k1).textR
    have t4 := (HBA2.out.kept k1).textR
    clear b1 b2 k1
    go_enter Try.func13, Try.ntmps13
    go_upto_region 1 with fail
    rw [← hw1]
    clear hw1
    go_wp2
    go_ret
    exact ⟨by rw [eQ.out]; rfl, K1.out⟩
  subst h_nd
  have HF1 := @hideH _ (show rows1 ≠ rows2 → Q = false from fun hne => by rw [HQ.out]; exact bl_f (fun e => hne (by injection e)))
  have HF2 := @hideH _ (show dirty1 ≠ dirty2 → Q = false from fun hne => by rw [HQ.out]; exact bl_f (fun e => hne (by injection e)))
  have HF3 := @hideH _ (show rows1 = rows2 → dirty1 = dirty2 → Q = true from fun e1 e2 => by rw [HQ.out]; exact bl_t (by rw [e1, e2]))
  have hmr : nr1 ≤ maxLen := by obtain ⟨-, -, _, _, e, h1, h2, _⟩ := HCR1.out; cases e; exact Nat.le_trans h1 h2
  have HMR := @hideH _ hmr
  have hmd : nd1 ≤ maxLen := by obtain ⟨-, -, _, _, e, h1, h2, _⟩ := HCD1.out; cases e; exact Nat.le_trans h1 h2
  have HMD := @hideH _ hmd
  clear hmr hmd
  obtain ⟨w1, hw1⟩ : ∃ w1, w1 = (w.alloc (.cells #[.int .i64 kind1, .int .i64 birth1, .int .i64 prev1, .int .i64 id1, .int .i64 page1, .int .i64 frm1, .slice pb1 nb1 cb1, .slice pa1 na1 ca1, .int .i64 next1, .slice pr1 nr1 cr1, .slice pd1 nd1 cd1] 26)).alloc (.cells #[.int .i64 kind1, .int .i64 birth1, .int .i64 prev1, .int .i64 id1, .int .i64 page1, .int .i64 frm1, .slice pb2 nb1 cb2, .slice pa2 na1 ca2, .int .i64 next1, .slice pr2 nr1 cr2, .slice pd2 nd1 cd2] 26) := ⟨_, rfl⟩
  have k1 : Kept [] w w1 := by rw [hw1]; exact ((Kept.refl [] w).alloc _).alloc _
  have b1 : Blk w1 w.heap.size 26 [.int .i64 kind1, .int .i64 birth1, .int .i64 prev1, .int .i64 id1, .int .i64 page1, .int .i64 frm1, .slice pb1 nb1 cb1, .slice pa1 na1 ca1, .int .i64 next1, .slice pr1 nr1 cr1, .slice pd1 nd1 cd1] := by rw [hw1]; exact (Blk.new w _ _).kept ((Kept.refl [] _).alloc _) (by simp)
  have b2 : Blk w1 (w.heap.size + 1) 26 [.int .i64 kind1, .int .i64 birth1, .int .i64 prev1, .int .i64 id1, .int .i64 page1, .int .i64 frm1, .slice pb2 nb1 cb2, .slice pa2 na1 ca2, .int .i64 next1, .slice pr2 nr1 cr2, .slice pd2 nd1 cd2] := by rw [hw1]; have := Blk.new (w.alloc (.cells #[.int .i64 kind1, .int .i64 birth1, .int .i64 prev1, .int .i64 id1, .int .i64 page1, .int .i64 frm1, .slice pb1 nb1 cb1, .slice pa1 na1 ca1, .int .i64 next1, .slice pr1 nr1 cr1, .slice pd1 nd1 cd1] 26)) 26 [.int .i64 kind1, .int .i64 birth1, .int .i64 prev1, .int .i64 id1, .int .i64 page1, .int .i64 frm1, .slice pb2 nb1 cb2, .slice pa2 na1 ca2, .int .i64 next1, .slice pr2 nr1 cr2, .slice pd2 nd1 cd2]; rwa [World.size_alloc] at this
  have K1 := @hideH _ k1
  have HB1 := @hideH _ b1
  have HB2 := @hideH _ b2
  have x0 := b1.cell (j := 0) rfl
  have y0 := b2.cell (j := 0) rfl
  have x1 := b1.cell (j := 1) rfl
  have y1 := b2.cell (j := 1) rfl
  have x2 := b1.cell (j := 2) rfl
  have y2 := b2.cell (j := 2) rfl
  have x3 := b1.cell (j := 3) rfl
  have y3 := b2.cell (j := 3) rfl
  have x4 := b1.cell (j := 4) rfl
  have y4 := b2.cell (j := 4) rfl
  have x5 := b1.cell (j := 5) rfl
  have y5 := b2.cell (j := 5) rfl
  have x6 := b1.cell (j := 6) rfl
  have y6 := b2.cell (j := 6) rfl
  have x7 := b1.cell (j := 7) rfl
  have y7 := b2.cell (j := 7) rfl
  have x8 := b1.cell (j := 8) rfl
  have y8 := b2.cell (j := 8) rfl
  have x9 := b1.cell (j := 9) rfl
  have y9 := b2.cell (j := 9) rfl
  have x10 := b1.cell (j := 10) rfl
  have y10 := b2.cell (j := 10) rfl
  have t1 := (HBB1.out.kept k1).textR
  have t2 := (HBB2.out.kept k1).textR
  have t3 := (HBA1.out.kept k1).textR
  have t4 := (HBA2.out.kept k1).textR
  clear b1 b2 k1
  go_enter Try.func13, Try.ntmps13
  go_upto_region 1 with fail
  rw [← hw1]
  clear hw1
  go_wp2
  go_loopw [5] (fun vi wr => ∃ k : Nat, k ≤ nr1 ∧ vi = .int .i64 k ∧ Hid ((∀ j, j < k → rows1[j]? = rows2[j]?) ∧ Kept [] w1 wr)) (fun vi _ => nr1 - (intOf vi).toNat)
  case atStart => exact ⟨0, Nat.zero_le _, rfl, fun j hj => by omega, Kept.refl [] _⟩
  case round =>
    clear x0 y0 x1 y1 x2 y2 x3 y3 x4 y4 x5 y5 x6 y6 x7 y7 x8 y8 x9 y9 x10 y10 t1 t2 t3 t4
    obtain ⟨k, hk, rfl, hh⟩ := hrel
    have c9 := (HB1.out.kept hh.out.2 (by simp)).cell (j := 9) rfl
    have d9 := (HB2.out.kept hh.out.2 (by simp)).cell (j := 9) rfl
    by_cases hkl : k < nr1
    · have hkl' : (k : Int) < (nr1 : Int) := by omega
      have hk0 : (0 : Int) ≤ (k : Int) := by omega
      have wk : IntKind.i64.wrap ((k : Int) + 1) = (k : Int) + 1 := wrap_i64_of (by omega) (by have := HMR.out; unfold maxLen at this; omega)
      obtain ⟨x, hx⟩ : ∃ x, rows1[k]? = some x := ⟨_, List.getElem?_eq_getElem (by rw [← HNR1.out]; exact hkl)⟩
      obtain ⟨y, hy⟩ : ∃ y, rows2[k]? = some y := ⟨_, List.getElem?_eq_getElem (by rw [← HNR2.out]; exact hkl)⟩
      obtain ⟨b1, o1, q1, ev1, hc1⟩ := (show Cs wr 5 (.slice pr1 nr1 cr1) rows1.length (rcells rows1) from (by have := (HCR1.out.kept K1.out).kept hh.out.2; rw [← HNR1.out]; exact this)).rowAt (by rw [← HNR1.out]; omega)
      obtain rfl : pr1 = some ⟨b1, o1, none⟩ := by simp at ev1; exact ev1.1
      obtain ⟨b2, o2, q2, ev2, hc2⟩ := (show Cs wr 5 (.slice pr2 nr1 cr2) rows2.length (rcells rows2) from (by have := (HCR2.out.kept K1.out).kept hh.out.2; rw [← HNR2.out]; exact this)).rowAt (by rw [← HNR2.out]; omega)
      obtain rfl : pr2 = some ⟨b2, o2, none⟩ := by simp at ev2; exact ev2.1
      obtain ⟨x0, x1, x2, x3, x4⟩ := hc1 k x hx
      obtain ⟨y0, y1, y2, y3, y4⟩ := hc2 k y hy
      obtain ⟨x_birth, x_id, x_state, x_last, x_next⟩ := x
      obtain ⟨y_birth, y_id, y_state, y_last, y_next⟩ := y
      simp only at x0 x1 x2 x3 x4 y0 y1 y2 y3 y4
      have HXY := @hideH _ (And.intro hx hy)
      have HK := @hideH _ hh.out.2
      have HH := @hideH _ hh.out.1
      clear hh hc1 hc2 ev1 ev2 hx hy
      by_cases he : x_birth = y_birth ∧ x_id = y_id ∧ x_state = y_state ∧ x_last = y_last ∧ x_next = y_next
      · obtain ⟨rfl, rfl, rfl, rfl, rfl⟩ := he
        have REL := @hideH _ (show ∀ j, j < k + 1 → rows1[j]? = rows2[j]? from fun j hj => by by_cases e : j = k; (subst e; rw [HXY.out.1, HXY.out.2]); exact HH.out j (by omega))
        go_upto_region 8 with fail
        have s_c9 := fun (s : Calm wr) => s.kept.cell c9 (by simp)
        have s_d9 := fun (s : Calm wr) => s.kept.cell d9 (by simp)
        have s_x0 := fun (s : Calm wr) => s.kept.cell x0 (by simp)
        have s_x1 := fun (s : Calm wr) => s.kept.cell x1 (by simp)
        have s_x2 := fun (s : Calm wr) => s.kept.cell x2 (by simp)
        have s_x3 := fun (s : Calm wr) => s.kept.cell x3 (by simp)
        have s_x4 := fun (s : Calm wr) => s.kept.cell x4 (by simp)
        have s_y0 := fun (s : Calm wr) => s.kept.cell y0 (by simp)
        have s_y1 := fun (s : Calm wr) => s.kept.cell y1 (by simp)
        have s_y2 := fun (s : Calm wr) => s.kept.cell y2 (by simp)
        have s_y3 := fun (s : Calm wr) => s.kept.cell y3 (by simp)
        have s_y4 := fun (s : Calm wr) => s.kept.cell y4 (by simp)
        clear c9 d9 x0 x1 x2 x3 x4 y0 y1 y2 y3 y4
        have KR := @hideH _ (Kept.refl [] wr)
        refine wp_region_calm KR.out (by kernel_rfl) (by kernel_rfl) ?_
        repeat (go_big_quiet_step (fail))
        refine wpQuiet_nil ?_
        intro _ hw'
        obtain ⟨sq, hw''⟩ := hw'
        subst hw''
        have ks := sq.kept
        generalize sq.at = wx at ks ⊢
        clear sq
        have KX := @hideH _ (HK.out.then ks)
        clear KR ks HK s_c9 s_d9 s_x0 s_x1 s_x2 s_x3 s_x4 s_y0 s_y1 s_y2 s_y3 s_y4
        go_wp2
        go_roundw
        case rel => exact ⟨k + 1, by omega, by go_num, REL.out, KX.out⟩
        case measure => simp [intOf]; omega
      · have eQ := @hideH _ (HF1.out (fun e => he (by have e1 := HXY.out.1; rw [e, HXY.out.2] at e1; simpa using (Option.some.inj e1).symm)))
        by_cases z_birth : x_birth = y_birth
        rotate_left
        · have u1 : (x_birth == y_birth) = false := by simp [z_birth]
          have u2 : (x_birth != y_birth) = true := by simp [z_birth]
          clear he
          go_upto_region 8 with fail
          have s_c9 := fun (s : Calm wr) => s.kept.cell c9 (by simp)
          have s_d9 := fun (s : Calm wr) => s.kept.cell d9 (by simp)
          have s_x0 := fun (s : Calm wr) => s.kept.cell x0 (by simp)
          have s_x1 := fun (s : Calm wr) => s.kept.cell x1 (by simp)
          have s_x2 := fun (s : Calm wr) => s.kept.cell x2 (by simp)
          have s_x3 := fun (s : Calm wr) => s.kept.cell x3 (by simp)
          have s_x4 := fun (s : Calm wr) => s.kept.cell x4 (by simp)
          have s_y0 := fun (s : Calm wr) => s.kept.cell y0 (by simp)
          have s_y1 := fun (s : Calm wr) => s.kept.cell y1 (by simp)
          have s_y2 := fun (s : Calm wr) => s.kept.cell y2 (by simp)
          have s_y3 := fun (s : Calm wr) => s.kept.cell y3 (by simp)
          have s_y4 := fun (s : Calm wr) => s.kept.cell y4 (by simp)
          clear c9 d9 x0 x1 x2 x3 x4 y0 y1 y2 y3 y4
          have KR := @hideH _ (Kept.refl [] wr)
          refine wp_region_calm KR.out (by kernel_rfl) (by kernel_rfl) ?_
          repeat (go_big_quiet_step (fail))
          refine wpQuiet_nil ?_
          intro _ hw'
          obtain ⟨sq, hw''⟩ := hw'
          subst hw''
          have ks := sq.kept
          generalize sq.at = wx at ks ⊢
          clear sq
          have KX := @hideH _ (HK.out.then ks)
          clear KR ks HK s_c9 s_d9 s_x0 s_x1 s_x2 s_x3 s_x4 s_y0 s_y1 s_y2 s_y3 s_y4
          go_wp2
          go_ret
          exact ⟨by rw [eQ.out]; rfl, K1.out.then KX.out⟩
        subst z_birth
        by_cases z_id : x_id = y_id
        rotate_left
        · have u1 : (x_id == y_id) = false := by simp [z_id]
          have u2 : (x_id != y_id) = true := by simp [z_id]
          clear he
          go_upto_region 8 with fail
          have s_c9 := fun (s : Calm wr) => s.kept.cell c9 (by simp)
          have s_d9 := fun (s : Calm wr) => s.kept.cell d9 (by simp)
          have s_x0 := fun (s : Calm wr) => s.kept.cell x0 (by simp)
          have s_x1 := fun (s : Calm wr) => s.kept.cell x1 (by simp)
          have s_x2 := fun (s : Calm wr) => s.kept.cell x2 (by simp)
          have s_x3 := fun (s : Calm wr) => s.kept.cell x3 (by simp)
          have s_x4 := fun (s : Calm wr) => s.kept.cell x4 (by simp)
          have s_y0 := fun (s : Calm wr) => s.kept.cell y0 (by simp)
          have s_y1 := fun (s : Calm wr) => s.kept.cell y1 (by simp)
          have s_y2 := fun (s : Calm wr) => s.kept.cell y2 (by simp)
          have s_y3 := fun (s : Calm wr) => s.kept.cell y3 (by simp)
          have s_y4 := fun (s : Calm wr) => s.kept.cell y4 (by simp)
          clear c9 d9 x0 x1 x2 x3 x4 y0 y1 y2 y3 y4
          have KR := @hideH _ (Kept.refl [] wr)
          refine wp_region_calm KR.out (by kernel_rfl) (by kernel_rfl) ?_
          repeat (go_big_quiet_step (fail))
          refine wpQuiet_nil ?_
          intro _ hw'
          obtain ⟨sq, hw''⟩ := hw'
          subst hw''
          have ks := sq.kept
          generalize sq.at = wx at ks ⊢
          clear sq
          have KX := @hideH _ (HK.out.then ks)
          clear KR ks HK s_c9 s_d9 s_x0 s_x1 s_x2 s_x3 s_x4 s_y0 s_y1 s_y2 s_y3 s_y4
          go_wp2
          go_ret
          exact ⟨by rw [eQ.out]; rfl, K1.out.then KX.out⟩
        subst z_id
        by_cases z_state : x_state = y_state
        rotate_left
        · have u1 : (x_state == y_state) = false := by simp [z_state]
          have u2 : (x_state != y_state) = true := by simp [z_state]
          clear he
          go_upto_region 8 with fail
          have s_c9 := fun (s : Calm wr) => s.kept.cell c9 (by simp)
          have s_d9 := fun (s : Calm wr) => s.kept.cell d9 (by simp)
          have s_x0 := fun (s : Calm wr) => s.kept.cell x0 (by simp)
          have s_x1 := fun (s : Calm wr) => s.kept.cell x1 (by simp)
          have s_x2 := fun (s : Calm wr) => s.kept.cell x2 (by simp)
          have s_x3 := fun (s : Calm wr) => s.kept.cell x3 (by simp)
          have s_x4 := fun (s : Calm wr) => s.kept.cell x4 (by simp)
          have s_y0 := fun (s : Calm wr) => s.kept.cell y0 (by simp)
          have s_y1 := fun (s : Calm wr) => s.kept.cell y1 (by simp)
          have s_y2 := fun (s : Calm wr) => s.kept.cell y2 (by simp)
          have s_y3 := fun (s : Calm wr) => s.kept.cell y3 (by simp)
          have s_y4 := fun (s : Calm wr) => s.kept.cell y4 (by simp)
          clear c9 d9 x0 x1 x2 x3 x4 y0 y1 y2 y3 y4
          have KR := @hideH _ (Kept.refl [] wr)
          refine wp_region_calm KR.out (by kernel_rfl) (by kernel_rfl) ?_
          repeat (go_big_quiet_step (fail))
          refine wpQuiet_nil ?_
          intro _ hw'
          obtain ⟨sq, hw''⟩ := hw'
          subst hw''
          have ks := sq.kept
          generalize sq.at = wx at ks ⊢
          clear sq
          have KX := @hideH _ (HK.out.then ks)
          clear KR ks HK s_c9 s_d9 s_x0 s_x1 s_x2 s_x3 s_x4 s_y0 s_y1 s_y2 s_y3 s_y4
          go_wp2
          go_ret
          exact ⟨by rw [eQ.out]; rfl, K1.out.then KX.out⟩
        subst z_state
        by_cases z_last : x_last = y_last
        rotate_left
        · have u1 : (x_last == y_last) = false := by simp [z_last]
          have u2 : (x_last != y_last) = true := by simp [z_last]
          clear he
          go_upto_region 8 with fail
          have s_c9 := fun (s : Calm wr) => s.kept.cell c9 (by simp)
          have s_d9 := fun (s : Calm wr) => s.kept.cell d9 (by simp)
          have s_x0 := fun (s : Calm wr) => s.kept.cell x0 (by simp)
          have s_x1 := fun (s : Calm wr) => s.kept.cell x1 (by simp)
          have s_x2 := fun (s : Calm wr) => s.kept.cell x2 (by simp)
          have s_x3 := fun (s : Calm wr) => s.kept.cell x3 (by simp)
          have s_x4 := fun (s : Calm wr) => s.kept.cell x4 (by simp)
          have s_y0 := fun (s : Calm wr) => s.kept.cell y0 (by simp)
          have s_y1 := fun (s : Calm wr) => s.kept.cell y1 (by simp)
          have s_y2 := fun (s : Calm wr) => s.kept.cell y2 (by simp)
          have s_y3 := fun (s : Calm wr) => s.kept.cell y3 (by simp)
          have s_y4 := fun (s : Calm wr) => s.kept.cell y4 (by simp)
          clear c9 d9 x0 x1 x2 x3 x4 y0 y1 y2 y3 y4
          have KR := @hideH _ (Kept.refl [] wr)
          refine wp_region_calm KR.out (by kernel_rfl) (by kernel_rfl) ?_
          repeat (go_big_quiet_step (fail))
          refine wpQuiet_nil ?_
          intro _ hw'
          obtain ⟨sq, hw''⟩ := hw'
          subst hw''
          have ks := sq.kept
          generalize sq.at = wx at ks ⊢
          clear sq
          have KX := @hideH _ (HK.out.then ks)
          clear KR ks HK s_c9 s_d9 s_x0 s_x1 s_x2 s_x3 s_x4 s_y0 s_y1 s_y2 s_y3 s_y4
          go_wp2
          go_ret
          exact ⟨by rw [eQ.out]; rfl, K1.out.then KX.out⟩
        subst z_last
        by_cases z_next : x_next = y_next
        rotate_left
        · have u1 : (x_next == y_next) = false := by simp [z_next]
          have u2 : (x_next != y_next) = true := by simp [z_next]
          clear he
          go_upto_region 8 with fail
          have s_c9 := fun (s : Calm wr) => s.kept.cell c9 (by simp)
          have s_d9 := fun (s : Calm wr) => s.kept.cell d9 (by simp)
          have s_x0 := fun (s : Calm wr) => s.kept.cell x0 (by simp)
          have s_x1 := fun (s : Calm wr) => s.kept.cell x1 (by simp)
          have s_x2 := fun (s : Calm wr) => s.kept.cell x2 (by simp)
          have s_x3 := fun (s : Calm wr) => s.kept.cell x3 (by simp)
          have s_x4 := fun (s : Calm wr) => s.kept.cell x4 (by simp)
          have s_y0 := fun (s : Calm wr) => s.kept.cell y0 (by simp)
          have s_y1 := fun (s : Calm wr) => s.kept.cell y1 (by simp)
          have s_y2 := fun (s : Calm wr) => s.kept.cell y2 (by simp)
          have s_y3 := fun (s : Calm wr) => s.kept.cell y3 (by simp)
          have s_y4 := fun (s : Calm wr) => s.kept.cell y4 (by simp)
          clear c9 d9 x0 x1 x2 x3 x4 y0 y1 y2 y3 y4
          have KR := @hideH _ (Kept.refl [] wr)
          refine wp_region_calm KR.out (by kernel_rfl) (by kernel_rfl) ?_
          repeat (go_big_quiet_step (fail))
          refine wpQuiet_nil ?_
          intro _ hw'
          obtain ⟨sq, hw''⟩ := hw'
          subst hw''
          have ks := sq.kept
          generalize sq.at = wx at ks ⊢
          clear sq
          have KX := @hideH _ (HK.out.then ks)
          clear KR ks HK s_c9 s_d9 s_x0 s_x1 s_x2 s_x3 s_x4 s_y0 s_y1 s_y2 s_y3 s_y4
          go_wp2
          go_ret
          exact ⟨by rw [eQ.out]; rfl, K1.out.then KX.out⟩
        subst z_next
        exact absurd ⟨rfl, rfl, rfl, rfl, rfl⟩ he
    · have hkl' : ¬ (k : Int) < (nr1 : Int) := by omega
      have ER := @hideH _ (show rows1 = rows2 from List.ext_getElem? (fun j => by by_cases e : j < k; exact hh.out.1 j e; rw [List.getElem?_eq_none (by have := HNR1.out; omega), List.getElem?_eq_none (by have := HNR2.out; omega)]))
      have KO := @hideH _ hh.out.2
      clear hh
      obtain ⟨wo, rfl⟩ : ∃ wo, wo = wr := ⟨_, rfl⟩
      go_wp2
      go_loopw [6] (fun vi wr => ∃ q : Nat, q ≤ nd1 ∧ vi = .int .i64 q ∧ Hid ((∀ j, j < q → dirty1[j]? = dirty2[j]?) ∧ Kept [] w1 wr)) (fun vi _ => nd1 - (intOf vi).toNat)
      case atStart => exact ⟨0, Nat.zero_le _, rfl, fun j hj => by omega, KO.out⟩
      case round =>
        clear c9 d9
        obtain ⟨q, hq, rfl, hh⟩ := hrel
        have c10 := (HB1.out.kept hh.out.2 (by simp)).cell (j := 10) rfl
        have d10 := (HB2.out.kept hh.out.2 (by simp)).cell (j := 10) rfl
        by_cases hkl : q < nd1
        · have hkl' : (q : Int) < (nd1 : Int) := by omega
          have hk0 : (0 : Int) ≤ (q : Int) := by omega
          have wk : IntKind.i64.wrap ((q : Int) + 1) = (q : Int) + 1 := wrap_i64_of (by omega) (by have := HMD.out; unfold maxLen at this; omega)
          obtain ⟨x, hx⟩ : ∃ x, dirty1[q]? = some x := ⟨_, List.getElem?_eq_getElem (by rw [← HND1.out]; exact hkl)⟩
          obtain ⟨y, hy⟩ : ∃ y, dirty2[q]? = some y := ⟨_, List.getElem?_eq_getElem (by rw [← HND2.out]; exact hkl)⟩
          obtain ⟨b1, o1, q1, ev1, hc1⟩ := (show Cs wr 2 (.slice pd1 nd1 cd1) dirty1.length (dcells dirty1) from (by have := (HCD1.out.kept K1.out).kept hh.out.2; rw [← HND1.out]; exact this)).recAt (by rw [← HND1.out]; omega)
          obtain rfl : pd1 = some ⟨b1, o1, none⟩ := by simp at ev1; exact ev1.1
          obtain ⟨b2, o2, q2, ev2, hc2⟩ := (show Cs wr 2 (.slice pd2 nd1 cd2) dirty2.length (dcells dirty2) from (by have := (HCD2.out.kept K1.out).kept hh.out.2; rw [← HND2.out]; exact this)).recAt (by rw [← HND2.out]; omega)
          obtain rfl : pd2 = some ⟨b2, o2, none⟩ := by simp at ev2; exact ev2.1
          obtain ⟨x0, x1⟩ := hc1 q x hx
          obtain ⟨y0, y1⟩ := hc2 q y hy
          obtain ⟨x_page, x_lsn⟩ := x
          obtain ⟨y_page, y_lsn⟩ := y
          simp only at x0 x1 y0 y1
          have HXY := @hideH _ (And.intro hx hy)
          have HK := @hideH _ hh.out.2
          have HH := @hideH _ hh.out.1
          clear hh hc1 hc2 ev1 ev2 hx hy
          by_cases he : x_page = y_page ∧ x_lsn = y_lsn
          · obtain ⟨rfl, rfl⟩ := he
            have REL := @hideH _ (show ∀ j, j < q + 1 → dirty1[j]? = dirty2[j]? from fun j hj => by by_cases e : j = q; (subst e; rw [HXY.out.1, HXY.out.2]); exact HH.out j (by omega))
            go_upto_region 13 with fail
            have s_c10 := fun (s : Calm wr) => s.kept.cell c10 (by simp)
            have s_d10 := fun (s : Calm wr) => s.kept.cell d10 (by simp)
            have s_x0 := fun (s : Calm wr) => s.kept.cell x0 (by simp)
            have s_x1 := fun (s : Calm wr) => s.kept.cell x1 (by simp)
            have s_y0 := fun (s : Calm wr) => s.kept.cell y0 (by simp)
            have s_y1 := fun (s : Calm wr) => s.kept.cell y1 (by simp)
            clear c10 d10 x0 x1 y0 y1
            have KR := @hideH _ (Kept.refl [] wr)
            refine wp_region_calm KR.out (by kernel_rfl) (by kernel_rfl) ?_
            repeat (go_big_quiet_step (fail))
            refine wpQuiet_nil ?_
            intro _ hw'
            obtain ⟨sq, hw''⟩ := hw'
            subst hw''
            have ks := sq.kept
            generalize sq.at = wx at ks ⊢
            clear sq
            have KX := @hideH _ (HK.out.then ks)
            clear KR ks HK s_c10 s_d10 s_x0 s_x1 s_y0 s_y1
            go_wp2
            go_roundw
            case rel => exact ⟨q + 1, by omega, by go_num, REL.out, KX.out⟩
            case measure => simp [intOf]; omega
          · have eQ := @hideH _ (HF2.out (fun e => he (by have e1 := HXY.out.1; rw [e, HXY.out.2] at e1; simpa using (Option.some.inj e1).symm)))
            by_cases z_page : x_page = y_page
            rotate_left
            · have u1 : (x_page == y_page) = false := by simp [z_page]
              have u2 : (x_page != y_page) = true := by simp [z_page]
              clear he
              go_upto_region 13 with fail
              have s_c10 := fun (s : Calm wr) => s.kept.cell c10 (by simp)
              have s_d10 := fun (s : Calm wr) => s.kept.cell d10 (by simp)
              have s_x0 := fun (s : Calm wr) => s.kept.cell x0 (by simp)
              have s_x1 := fun (s : Calm wr) => s.kept.cell x1 (by simp)
              have s_y0 := fun (s : Calm wr) => s.kept.cell y0 (by simp)
              have s_y1 := fun (s : Calm wr) => s.kept.cell y1 (by simp)
              clear c10 d10 x0 x1 y0 y1
              have KR := @hideH _ (Kept.refl [] wr)
              refine wp_region_calm KR.out (by kernel_rfl) (by kernel_rfl) ?_
              repeat (go_big_quiet_step (fail))
              refine wpQuiet_nil ?_
              intro _ hw'
              obtain ⟨sq, hw''⟩ := hw'
              subst hw''
              have ks := sq.kept
              generalize sq.at = wx at ks ⊢
              clear sq
              have KX := @hideH _ (HK.out.then ks)
              clear KR ks HK s_c10 s_d10 s_x0 s_x1 s_y0 s_y1
              go_wp2
              go_ret
              exact ⟨by rw [eQ.out]; rfl, K1.out.then KX.out⟩
            subst z_page
            by_cases z_lsn : x_lsn = y_lsn
            rotate_left
            · have u1 : (x_lsn == y_lsn) = false := by simp [z_lsn]
              have u2 : (x_lsn != y_lsn) = true := by simp [z_lsn]
              clear he
              go_upto_region 13 with fail
              have s_c10 := fun (s : Calm wr) => s.kept.cell c10 (by simp)
              have s_d10 := fun (s : Calm wr) => s.kept.cell d10 (by simp)
              have s_x0 := fun (s : Calm wr) => s.kept.cell x0 (by simp)
              have s_x1 := fun (s : Calm wr) => s.kept.cell x1 (by simp)
              have s_y0 := fun (s : Calm wr) => s.kept.cell y0 (by simp)
              have s_y1 := fun (s : Calm wr) => s.kept.cell y1 (by simp)
              clear c10 d10 x0 x1 y0 y1
              have KR := @hideH _ (Kept.refl [] wr)
              refine wp_region_calm KR.out (by kernel_rfl) (by kernel_rfl) ?_
              repeat (go_big_quiet_step (fail))
              refine wpQuiet_nil ?_
              intro _ hw'
              obtain ⟨sq, hw''⟩ := hw'
              subst hw''
              have ks := sq.kept
              generalize sq.at = wx at ks ⊢
              clear sq
              have KX := @hideH _ (HK.out.then ks)
              clear KR ks HK s_c10 s_d10 s_x0 s_x1 s_y0 s_y1
              go_wp2
              go_ret
              exact ⟨by rw [eQ.out]; rfl, K1.out.then KX.out⟩
            subst z_lsn
            exact absurd ⟨rfl, rfl⟩ he
        · have hkl' : ¬ (q : Int) < (nd1 : Int) := by omega
          have eQ := @hideH _ (HF3.out ER.out (List.ext_getElem? (fun j => by by_cases e : j < q; exact hh.out.1 j e; rw [List.getElem?_eq_none (by have := HND1.out; omega), List.getElem?_eq_none (by have := HND2.out; omega)])))
          have KX := @hideH _ (K1.out.then hh.out.2)
          clear hh
          go_wp2
          go_ret
          exact ⟨by rw [eQ.out]; rfl, KX.out⟩
end Go.Proofs.Ytebcmcmboomgfaa

