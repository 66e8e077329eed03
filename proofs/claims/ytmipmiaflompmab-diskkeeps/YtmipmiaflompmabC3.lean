import Derived.Deep.RegionHeld3
import Derived.Test.YtmipmiaflompmabC2
/-
  OWN WORK. The document's disk: Sync.
-/
namespace Go.Proofs.Ytmipmiaflompmab
open Go.RowKit
set_option linter.unusedVariables false

theorem RD.lvLen {w : World} {g : Nat} {d : DS} {R : RDat} (h : RD w g d R) : R.lv.length = d.loose.length := by simpa using congrArg List.length h.lidx
theorem RD.lvAt {w : World} {g : Nat} {d : DS} {R : RDat} (h : RD w g d R) {i : Nat} {pl nu : Int} {vB : Value} (hy : R.lv[i]? = some (pl, nu, vB)) : R.rows[d.np + 4 + i]? = some vB := by
  have hpv := h.pvLen
  show (R.vlog :: (R.pair :: (R.pv ++ [R.m0, R.m1]) ++ R.lv.map (·.2.2)))[d.np + 4 + i]? = some vB
  rw [show d.np + 4 + i = (d.np + 3 + i) + 1 by omega, List.getElem?_cons_succ, List.getElem?_append_right (by simp; omega)]
  simp [hpv, hy, show d.np + 3 + i - (d.np + 2 + 1) = i by omega]
/-- a loose write, where it lies: with its place in the disk's list -/
theorem RD.looseAt2 {w : World} {g : Nat} {d : DS} {R : RDat} (h : RD w g d R) {i : Nat} (hi : i < d.loose.length) :
    ∃ (lb c : Nat) (pl nu : Int) (bp : Option Addr) (bc k : Nat) (b : List UInt8), R.vloose = .slice (some ⟨lb, 0, none⟩) d.loose.length c ∧ w.cell? ⟨lb, i * 3, none⟩ = some (.int .i64 pl) ∧ w.cell? ⟨lb, i * 3 + 1, none⟩ = some (.int .i64 nu) ∧ w.cell? ⟨lb, i * 3 + 2, none⟩ = some (.slice bp b.length bc) ∧
      d.loose[i]? = some (k, b) ∧ R.lv[i]? = some (pl, nu, .slice bp b.length bc) ∧ idxOf d.np pl nu = some k ∧ w.ownsRow 0 5 1 (.slice bp b.length bc) b.length (u8s b) ∧ b.length = sizeK d.np d.ns k := by
  obtain ⟨⟨k, b⟩, hx⟩ : ∃ x, d.loose[i]? = some x := ⟨_, List.getElem?_eq_getElem hi⟩
  obtain ⟨⟨pl, nu, vB⟩, hy⟩ : ∃ y, R.lv[i]? = some y := ⟨_, List.getElem?_eq_getElem (by have := h.lvLen; omega)⟩
  have he := congrArg (fun l => l[i]?) h.lidx
  simp [hx, hy] at he
  obtain ⟨pp, c, e, -, -⟩ := h.loose.shape
  have hpos := (show Row w 0 3 (.slice pp d.loose.length c) d.loose.length (lcells R.lv) by rw [← e]; exact h.loose).pos (by omega)
  obtain ⟨lb, rfl, -, -, hc, -⟩ := hpos
  obtain ⟨a1, a2, a3⟩ := lcells_at R.lv i _ hy
  have hm := h.ok.loose (k, b) (List.mem_of_getElem? hx)
  have ho := h.fam.own (d.np + 4 + i) vB b (h.lvAt hy) (by
    have hlen := h.ok.len
    show (d.log :: (d.rows ++ d.loose.map (·.2)))[d.np + 4 + i]? = some b
    rw [show d.np + 4 + i = (d.np + 3 + i) + 1 by omega, List.getElem?_cons_succ, List.getElem?_append_right (by omega)]
    simp [hlen, hx])
  obtain ⟨bp, bc, rfl⟩ := own_shape2 ho
  exact ⟨lb, c, pl, nu, bp, bc, k, b, e, hc _ _ a1, hc _ _ a2, hc _ _ a3, hx, hy, he, ho, hm.2⟩
def selL (np : Nat) (m : Bool) (x : Nat × List UInt8) : Bool := isMaster np x.1 == m
def selV (m : Bool) (x : Int × Int × Value) : Bool := decide (x.1 = 2) == m
theorem sel_same {np k : Nat} {p n : Int} (h : idxOf np p n = some k) : isMaster np k = decide (p = 2) := by
  unfold idxOf at h
  unfold isMaster
  split at h
  · rename_i c; cases h
    have h1 : ¬ np < 1 + n.toNat := by omega
    have h2 : ¬ p = 2 := by omega
    simp [h1, h2]
  · split at h
    · rename_i c; cases h
      have h2 : ¬ p = 2 := by omega
      simp [h2]
    · split at h
      · rename_i c; cases h
        have h1 : np < np + 1 + n.toNat := by omega
        simp [h1, c.1]
      · cases h
theorem filter_take {X : Type} (p : X → Bool) {l : List X} {i : Nat} {x : X} (h : l[i]? = some x) : (l.take (i + 1)).filter p = if p x = true then (l.take i).filter p ++ [x] else (l.take i).filter p := by
  obtain ⟨hi, rfl⟩ := List.getElem?_eq_some_iff.1 h
  rw [← List.take_append_getElem hi, List.filter_append]
  by_cases c : p l[i] = true
  · simp [c]
  · simp [c]
/-- what the loop of Sync has done: k writes looked at -/
structure SySt (w1 wr : World) (g : Nat) (d : DS) (R : RDat) (m : Bool) (k : Nat) (vr : Value) : Prop where
  rd : RD wr g { d.act with rows := laid d.rows ((d.loose.take k).filter (selL d.np m)) } R
  row : Row wr w1.heap.size 3 vr ((R.lv.take k).filter fun x => !selV m x).length (lcells ((R.lv.take k).filter fun x => !selV m x))
  kept : Kept (blocks R.rows) w1 wr
theorem SySt.nextSel {w1 wr w5 : World} {g : Nat} {d : DS} {R : RDat} {m : Bool} {k ix : Nat} {vr : Value} {pl nu : Int} {vB : Value} {b : List UInt8} {S : List Nat} (st : SySt w1 wr g d R m k vr) (hx : d.loose[k]? = some (ix, b)) (hy : R.lv[k]? = some (pl, nu, vB)) (hix : idxOf d.np pl nu = some ix) (hs : selV m (pl, nu, vB) = true)
    (hrd : RD w5 g { d.act with rows := layR (laid d.rows ((d.loose.take k).filter (selL d.np m))) ix b b.length } R) (kk : Kept S wr w5) (hS : ∀ x ∈ S, x ∈ blocks R.rows) (hlow : ∀ x ∈ blocks R.rows, x < w1.heap.size) : SySt w1 w5 g d R m (k + 1) vr := by
  have hs2 : selL d.np m (ix, b) = true := by unfold selL; rw [sel_same hix]; exact hs
  refine ⟨?_, ?_, st.kept.trans kk fun x hx => .inl (hS x hx)⟩
  · rw [filter_take _ hx, if_pos hs2, laid_snoc]
    exact hrd
  · rw [filter_take _ hy, if_neg (by simp [hs])]
    exact st.row.kept kk fun x hx hm => by have := (st.row.lt x hx).1; have := hlow x (hS x hm); omega
theorem SySt.nextRest {w1 wr wa w5 : World} {g : Nat} {d : DS} {R : RDat} {m : Bool} {k ix : Nat} {vr v5 : Value} {pl nu : Int} {vB : Value} {b : List UInt8} (st : SySt w1 wr g d R m k vr) (hx : d.loose[k]? = some (ix, b)) (hy : R.lv[k]? = some (pl, nu, vB)) (hix : idxOf d.np pl nu = some ix) (hs : selV m (pl, nu, vB) = false)
    (ka : Kept [] wr wa) (k5 : Kept vr.ownBlock.toList wa w5) (r5 : Row w5 w1.heap.size 3 v5 (((R.lv.take k).filter fun x => !selV m x).length + 1) (lcells ((R.lv.take k).filter fun x => !selV m x) ++ [.int .i64 pl, .int .i64 nu, vB])) (hlow : ∀ x ∈ R.foot g, x < w1.heap.size) : SySt w1 w5 g d R m (k + 1) v5 := by
  have hs2 : selL d.np m (ix, b) = false := by unfold selL; rw [sel_same hix]; exact hs
  have kk : Kept vr.ownBlock.toList wr w5 := (ka.mono (by simp)).trans k5 (by intro x hx; exact .inl hx)
  have hge : ∀ x ∈ vr.ownBlock.toList, w1.heap.size ≤ x := fun x hx => (st.row.lt x (by simpa using hx)).1
  refine ⟨?_, ?_, st.kept.trans kk fun x hx => .inr (hge x hx)⟩
  · rw [filter_take _ hx, if_neg (by simp [hs2])]
    exact st.rd.kept kk fun x hx hm => by have := hge x hx; have := hlow x hm; omega
  · rw [filter_take _ hy, if_pos (by simp [hs]), List.length_append, lcells_snoc]
    exact r5
theorem SySt.done {w1 wr : World} {g : Nat} {d : DS} {R : RDat} {m : Bool} {vr : Value} (st : SySt w1 wr g d R m d.loose.length vr) (hok : (d.sync m).Ok) (ED : d.sync m = { d.act with rows := laid d.rows (d.loose.filter (selL d.np m)), loose := d.loose.filter fun x => !selL d.np m x }) (hlow : ∀ x ∈ R.foot g, x < w1.heap.size) :
    RD (wr.setCell ⟨g, 8, none⟩ vr) g (d.sync m) { R with vloose := vr, lv := R.lv.filter fun x => !selV m x } ∧ Kept (R.foot g) w1 (wr.setCell ⟨g, 8, none⟩ vr) ∧ ∀ x ∈ ({ R with vloose := vr, lv := R.lv.filter fun x => !selV m x } : RDat).foot g, x ∈ R.foot g ∨ w1.heap.size ≤ x := by
  have hrd := st.rd
  have hll : R.lv.length = d.loose.length := by have := hrd.lvLen; simpa [d.act_loose] using this
  rw [List.take_length] at hrd
  have hrow := st.row
  rw [← hll, List.take_length] at hrow
  obtain ⟨b6, k6⟩ := hrd.blk.set 8 vr
  obtain ⟨f1, f2, f3⟩ := hrd.far
  have hz : ∀ z ∈ R.lv.zip d.loose, (!selV m z.1) = (!selL d.np m z.2) := fun z hz => by
    obtain ⟨i, hi⟩ := List.getElem?_of_mem hz
    rw [List.getElem?_zip_eq_some] at hi
    have he := congrArg (fun l => l[i]?) hrd.lidx
    simp [hi.1, hi.2, d.act_loose, d.act_np] at he
    have := sel_same he
    unfold selV selL
    rw [this]
  have hge : ∀ x, vr.ownBlock = some x → w1.heap.size ≤ x := fun x hx => (st.row.lt x hx).1
  have hfam : Fam wr 0 ((R.vlog :: R.pair :: (R.pv ++ [R.m0, R.m1])) ++ (R.lv.filter fun x => !selV m x).map (·.2.2)) ((d.log :: laid d.rows (d.loose.filter (selL d.np m))) ++ (d.loose.filter fun x => !selL d.np m x).map (·.2)) := by
    refine Fam.part (xs := R.lv) (ys := d.loose) _ _ ?_ ?_ hz
    · have h1 := hrd.fam
      have e : ({ d.act with rows := laid d.rows (d.loose.filter (selL d.np m)) } : DS).all = (d.log :: laid d.rows (d.loose.filter (selL d.np m))) ++ d.loose.map (·.2) := by
        show d.act.log :: (laid d.rows (d.loose.filter (selL d.np m)) ++ d.act.loose.map (·.2)) = _
        rw [d.act_log, d.act_loose]
        rfl
      rw [e] at h1
      exact h1
    · have h1 := hrd.pvLen
      have h2 := hrd.ok.len
      simp only [d.act_np] at h1 h2
      simp [h1, h2]
  have hsub : ∀ x ∈ blocks ({ R with vloose := vr, lv := R.lv.filter fun x => !selV m x } : RDat).rows, x ∈ blocks R.rows := fun x hx => by
    obtain ⟨u, hu, hux⟩ := List.mem_filterMap.1 hx
    refine List.mem_filterMap.2 ⟨u, ?_, hux⟩
    have hu' : u ∈ (R.vlog :: R.pair :: (R.pv ++ [R.m0, R.m1])) ++ (R.lv.filter fun x => !selV m x).map (·.2.2) := hu
    show u ∈ (R.vlog :: R.pair :: (R.pv ++ [R.m0, R.m1])) ++ R.lv.map (·.2.2)
    rcases List.mem_append.1 hu' with c | c
    · exact List.mem_append_left _ c
    · refine List.mem_append_right _ ?_
      obtain ⟨y, hy, e⟩ := List.mem_map.1 c
      exact List.mem_map.2 ⟨y, (List.mem_filter.1 hy).1, e⟩
  have hlen2 : (R.lv.filter fun x => !selV m x).length = (d.loose.filter fun x => !selL d.np m x).length := (filter_zip _ _ R.lv d.loose hz hll).1
  refine ⟨⟨hok, by rw [ED]; exact b6, ?_, ?_, hrd.vl, ?_, ?_, fun x hx => ?_⟩, (st.kept.mono fun x hx => by simp [RDat.foot, hx]).trans k6 (by simp [RDat.foot]), fun x hx => ?_⟩
  · rw [ED]
    have e : ({ d.act with rows := laid d.rows (d.loose.filter (selL d.np m)), loose := d.loose.filter fun x => !selL d.np m x } : DS).all = (d.log :: laid d.rows (d.loose.filter (selL d.np m))) ++ (d.loose.filter fun x => !selL d.np m x).map (·.2) := by
      show d.act.log :: (_ ++ _) = _
      rw [d.act_log]
      rfl
    rw [e]
    refine ⟨hfam.len, fun i v l hv hl => own_of_kept (hfam.own i v l hv hl) k6 fun x hx hm => ?_, hfam.apart⟩
    simp at hm
    subst hm
    exact f3 (hsub x (mem_blocks (vs := ({ R with vloose := vr, lv := R.lv.filter fun x => !selV m x } : RDat).rows) hv hx))
  · rw [ED]
    exact own_of_kept hrd.row k6 fun x hx hm => by simp at hm; subst hm; exact f1 hx
  · rw [ED]
    show Row _ 0 3 vr (d.loose.filter fun x => !selL d.np m x).length _
    rw [← hlen2]
    exact (hrow.kept k6 fun x hx hm => by simp at hm; subst hm; have := hge x hx; have := hlow x (by simp [RDat.foot]); omega).mono (Nat.zero_le _)
  · rw [ED]
    show (R.lv.filter fun x => !selV m x).map (fun x => idxOf d.act.np x.1 x.2.1) = (d.loose.filter fun x => !selL d.np m x).map (fun x => some x.1)
    have hl0 : R.lv.map (fun x => idxOf d.act.np x.1 x.2.1) = d.loose.map (fun x => some x.1) := by have := hrd.lidx; simpa [d.act_loose] using this
    apply List.ext_getElem?
    intro i
    by_cases c : i < (R.lv.filter fun x => !selV m x).length
    · have hzi : ((R.lv.filter fun x => !selV m x).zip (d.loose.filter fun x => !selL d.np m x))[i]? = some ((R.lv.filter fun x => !selV m x)[i], (d.loose.filter fun x => !selL d.np m x)[i]'(by omega)) := by
        rw [List.getElem?_zip_eq_some]
        exact ⟨List.getElem?_eq_getElem c, List.getElem?_eq_getElem (by omega)⟩
      have hm := (filter_zip _ _ R.lv d.loose hz hll).2 _ (List.mem_of_getElem? hzi)
      obtain ⟨j, hj⟩ := List.getElem?_of_mem hm
      rw [List.getElem?_zip_eq_some] at hj
      have he := congrArg (fun l => l[j]?) hl0
      simp [hj.1, hj.2] at he
      rw [List.getElem?_map, List.getElem?_map, List.getElem?_eq_getElem c, List.getElem?_eq_getElem (show i < (d.loose.filter fun x => !selL d.np m x).length by omega)]
      simpa using he
    · rw [List.getElem?_eq_none (by simpa using c), List.getElem?_eq_none (by rw [List.length_map, ← hlen2]; omega)]
  · have h1 := hge x hx
    refine ⟨fun e => ?_, fun e => ?_, fun hm => ?_⟩
    · have := hlow x (by simp [RDat.foot, e]); omega
    · have e' : R.vp.ownBlock = some x := e
      have := hlow x (by simp [RDat.foot, e']); omega
    · have := hlow x (by simp [RDat.foot, hsub x hm]); omega
  · unfold RDat.foot at hx ⊢
    rcases List.mem_cons.1 hx with e | hx
    · exact .inl (by simp [e])
    · rcases List.mem_append.1 hx with hx | hx
      · rcases List.mem_append.1 hx with hx | hx
        · exact .inl (List.mem_cons_of_mem _ (List.mem_append_left _ (List.mem_append_left _ hx)))
        · exact .inr (hge x (by simpa using hx))
      · exact .inl (List.mem_cons_of_mem _ (List.mem_append_right _ (hsub x hx)))
theorem RD.looseApart {w : World} {g : Nat} {d : DS} {R : RDat} (h : RD w g d R) {i k : Nat} {pl nu : Int} {vB : Value} (hy : R.lv[i]? = some (pl, nu, vB)) (hk : k < d.np + 3) (tv : Value) (htv : (R.pair :: (R.pv ++ [R.m0, R.m1]))[k]? = some tv) (x : Nat) (hx : tv.ownBlock = some x) : vB.ownBlock ≠ some x := by
  have hpv := h.pvLen
  refine h.fam.apart (k + 1) (d.np + 4 + i) tv vB x (by omega) ?_ (h.lvAt hy) hx
  show (R.vlog :: (R.pair :: (R.pv ++ [R.m0, R.m1]) ++ R.lv.map (·.2.2)))[k + 1]? = some tv
  rw [List.getElem?_cons_succ, List.getElem?_append_left (by simp; omega)]
  exact htv
theorem act_self (d : DS) : ({ d.act with rows := d.rows } : DS) = d.act := by rw [← d.act_rows]
set_option maxHeartbeats 3200000 in
theorem sync_any (g : Nat) (d : DS) (R : RDat) (m : Bool) (w : World) (h : RD w g d R) (hcap : d.loose.length * 40 ≤ 140737488355328) :
    Calls Try.prog 67 #[.pointer (some ⟨g, 0, none⟩), .bool m] w fun e w' => ∃ R', e = .returned (.int .i64 (aliveE d)) ∧ RD w' g (d.sync m) R' ∧ Kept (R.foot g) w w' ∧ ∀ x ∈ R'.foot g, x ∈ R.foot g ∨ w.heap.size ≤ x := by
  have ha := act_any g d R w h
  have hok := h.ok.sync m
  have HC : Hid (d.loose.length * 40 ≤ 140737488355328) := hcap
  have hgf : ∀ x ∈ [g], x ∈ R.foot g := by simp [RDat.foot]
  clear hcap
  obtain ⟨z, hz⟩ : ∃ z, z = d.alive := ⟨_, rfl⟩
  rw [← hz] at ha
  cases z with
  | false =>
    have eE : aliveE d = 1 := by unfold aliveE; rw [← hz]; rfl
    have ed : d.sync m = d.act := by unfold DS.sync; rw [← hz]; rfl
    rw [eE, ed]
    clear hz eE ed hok h
    go_enter Try.func67, Try.ntmps67
    go_wp2_with fail
    refine ha.mono ?_
    rintro e w1 ⟨rfl, h1, k1⟩
    go_wp2
    go_ret
    exact ⟨R, rfl, h1, k1.mono hgf, fun x hx => .inl hx⟩
  | true =>
    have eE : aliveE d = 0 := by unfold aliveE; rw [← hz]; rfl
    have ed : d.sync m = { d.act with rows := laid d.rows (d.loose.filter (selL d.np m)), loose := d.loose.filter fun x => !selL d.np m x } := by unfold DS.sync; rw [← hz]; rfl
    rw [eE]
    have ED : Hid (d.sync m = { d.act with rows := laid d.rows (d.loose.filter (selL d.np m)), loose := d.loose.filter fun x => !selL d.np m x }) := ed
    have HOK : Hid (d.sync m).Ok := hok
    have HGF : Hid (∀ x ∈ [g], x ∈ R.foot g) := hgf
    clear hz eE ed h hok hgf
    go_enter Try.func67, Try.ntmps67
    go_wp2_with fail
    refine ha.mono ?_
    rintro e w1 ⟨rfl, h1, k1⟩
    have st0 : SySt w1 w1 g d R m 0 (.slice none 0 0) := ⟨by rw [List.take_zero]; show RD w1 g { d.act with rows := d.rows } R; rw [act_self]; exact h1, by simpa [lcells] using Row.nil w1 w1.heap.size 3, Kept.refl _ _⟩
    clear ha
    go_wp2
    go_loopw [5, 6] (fun r i wr => ∃ (k : Nat), k ≤ d.loose.length ∧ i = .int .i64 k ∧ SySt w1 wr g d R m k r) (fun _ i _ => d.loose.length - (intOf i).toNat)
    case atStart => exact ⟨0, Nat.zero_le _, rfl, st0⟩
    case round =>
      clear st0
      obtain ⟨k, hk, rfl, st⟩ := hrel
      have hlow := fun x (hx : x ∈ R.foot g) => h1.lt hx
      obtain ⟨pr, cr, rfl, -, -⟩ := st.row.shape
      have c8 := st.rd.blk.cell (j := 8) rfl
      obtain ⟨pz, cz, ez, hz1, hz2⟩ := st.rd.loose.shape
      rw [ez] at c8
      have hlen : ({ d.act with rows := laid d.rows ((d.loose.take k).filter (selL d.np m)) } : DS).loose.length = d.loose.length := by show d.act.loose.length = _; rw [d.act_loose]
      rw [hlen] at c8
      by_cases hlt : k < d.loose.length
      · obtain ⟨lbk, cc, pl, nu, bp, bc, ix, b, e1, d0, d1, d2, hx, hy, hix, hob, hk2⟩ := st.rd.looseAt2 (i := k) (by show k < d.act.loose.length; rw [d.act_loose]; exact hlt)
        have hx : d.loose[k]? = some (ix, b) := by rw [← d.act_loose]; exact hx
        have hix : idxOf d.np pl nu = some ix := by rw [← d.act_np]; exact hix
        rw [ez] at e1
        cases e1
        have hlt' : (k : Int) < (d.loose.length : Int) := by omega
        have wk : IntKind.i64.wrap ((k : Int) + 1) = (k : Int) + 1 := wrap_i64_of (by omega) (by have := HC.out; omega)
        have lle : ((R.lv.take k).filter fun x => !selV m x).length + 1 ≤ d.loose.length := by have := List.length_filter_le (fun x => !selV m x) (R.lv.take k); rw [List.length_take] at this; omega
        have hrow := st.row
        generalize hln : ((R.lv.take k).filter fun x => !selV m x).length = ln at lle hrow st ⊢
        have LLE : Hid (ln + 1 ≤ d.loose.length) := lle
        have HLN : Hid (((R.lv.take k).filter fun x => !selV m x).length = ln) := hln
        have HROW : Hid (Row wr w1.heap.size 3 (.slice pr ln cr) ln (lcells ((R.lv.take k).filter fun x => !selV m x))) := hrow
        have ST : Hid (SySt w1 wr g d R m k (.slice pr ln cr)) := st
        have HLOW : Hid (∀ x ∈ R.foot g, x < w1.heap.size) := hlow
        have HX : Hid (d.loose[k]? = some (ix, b) ∧ R.lv[k]? = some (pl, nu, .slice bp b.length bc) ∧ idxOf d.np pl nu = some ix) := ⟨hx, hy, hix⟩
        have hwsz : Hid (w1.heap.size ≤ wr.heap.size) := st.kept.size
        have hrd := st.rd
        clear st lle hrow hln hlow hx
        by_cases hb : (pl == 2) = m
        · have hs : Hid (selV m (pl, nu, .slice bp b.length bc) = true) := (show (decide (pl = 2) == m) = true by rw [← hb]; exact beq_self_eq_true _)
          obtain ⟨wa, hwa⟩ : ∃ wa, wa = wr.alloc (.cells #[.int .i64 pl, .int .i64 nu, .slice bp b.length bc] 89) := ⟨_, rfl⟩
          have ka : Kept [] wr wa := by rw [hwa]; exact (Kept.refl [] wr).alloc _
          have bx : Blk wa wr.heap.size 89 [.int .i64 pl, .int .i64 nu, .slice bp b.length bc] := by rw [hwa]; exact Blk.new wr _ _
          have hra := hrd.kept ka (by simp)
          have hl := fun (w' : World) (kk : Kept [] wa w') => lay_rd g _ R b (.slice bp b.length bc) pl nu ix b.length w' (hra.kept kk (by simp)) (by show idxOf d.act.np pl nu = some ix; rw [d.act_np]; exact hix) ((Bs.ofOwn hob).kept (ka.then kk)) hk2 (Nat.le_refl _) (hra.looseApart hy (idxOf_lt (np := d.act.np) (by rw [d.act_np]; exact hix)))
          have hbk := hra.blk
          have c3 := hbk.cell (j := 3) rfl
          have c4 := hbk.cell (j := 4) rfl
          have c5 := hbk.cell (j := 5) rfl
          have c6 := hbk.cell (j := 6) rfl
          have c7 := hbk.cell (j := 7) rfl
          have i0 := bx.cell (j := 0) rfl
          have i1 := bx.cell (j := 1) rfl
          have i2 := bx.cell (j := 2) rfl
          obtain ⟨pp, cp, ep⟩ := own_shape2 hra.row
          obtain ⟨p1, q1, e1⟩ := own_shape2 hra.pairOwn
          obtain ⟨p3, q3, e3⟩ := own_shape2 hra.m0Own
          obtain ⟨p4, q4, e4⟩ := own_shape2 hra.m1Own
          obtain ⟨p2, q2, e2, -⟩ := hra.vl
          unfold IV.agg RDat.iv at hl
          simp only at hl
          rw [ep, e1, e2, e3, e4] at hl
          rw [ep] at c3
          rw [e1] at c4
          rw [e2] at c5
          rw [e3] at c6
          rw [e4] at c7
          generalize ((laid d.rows ((d.loose.take k).filter (selL d.np m))).getD 0 []).length = n1 at hl c4
          generalize ((laid d.rows ((d.loose.take k).filter (selL d.np m))).getD (d.act.np + 1) []).length = n3 at hl c6
          generalize ((laid d.rows ((d.loose.take k).filter (selL d.np m))).getD (d.act.np + 2) []).length = n4 at hl c7
          obtain ⟨f1, f2, f3⟩ := hra.far
          have nB : wr.heap.size ∉ blocks R.rows := fun hm => by have := (hrd.fam.not8 hm).2.2; omega
          have HRA : Hid (RD wa g _ R) := hra
          have HWA : Hid (wa = wr.alloc (.cells #[.int .i64 pl, .int .i64 nu, .slice bp b.length bc] 89)) := hwa
          have KA : Hid (Kept [] wr wa) := ka
          clear hz1 hz2 ez hlen hk2 hob hra hrd hbk bx ep e1 e2 e3 e4 hwa f1 f2 hy hix h1 ka
          go_wp2_with fail
          rw [← HWA.out]
          go_region_held3 (fun w' => w'.cell? ⟨g, 3, none⟩ = some (.slice pp d.act.np cp) ∧ w'.cell? ⟨g, 4, none⟩ = some (.slice p1 n1 q1) ∧ w'.cell? ⟨g, 5, none⟩ = some (.slice p2 0 q2) ∧ w'.cell? ⟨g, 6, none⟩ = some (.slice p3 n3 q3) ∧ w'.cell? ⟨g, 7, none⟩ = some (.slice p4 n4 q4) ∧
              w'.cell? ⟨wr.heap.size, 0, none⟩ = some (.int .i64 pl) ∧ w'.cell? ⟨wr.heap.size, 1, none⟩ = some (.int .i64 nu) ∧ w'.cell? ⟨wr.heap.size, 2, none⟩ = some (.slice bp b.length bc))
            (first | (with_reducible exact ⟨c3, c4, c5, c6, c7, i0, i1, i2⟩) | (with_reducible exact ⟨kN.cell c3 f3, kN.cell c4 f3, kN.cell c5 f3, kN.cell c6 f3, kN.cell c7 f3, kN.cell i0 nB, kN.cell i1 nB, kN.cell i2 nB⟩) | go_keep)
            (first
              | (go_at_call 43; refine (hl _ (by first | (with_reducible exact Kept.refl _ _) | (with_reducible exact (Kept.refl _ _).drew))).mono ?_; rintro e w5 ⟨⟨vv, rfl⟩, hV5, S5, kL, hS5⟩
                 have kN : Kept (blocks R.rows) wa w5 := ⟨kL.os, kL.tape, kL.output, kL.size, fun x hx hm => kL.block x hx (fun h => hm (hS5 x h))⟩)
              | fail)
          have hwl : ∀ x ∈ blocks R.rows, x < w1.heap.size := fun x hx => HLOW.out x (by simp [RDat.foot, hx])
          have kAll : Kept (blocks R.rows) wr w5 := (KA.out.mono (by simp)).trans kN (by intro x hx; exact .inl hx)
          have FIN : Hid (SySt w1 w5 g d R m (k + 1) (.slice pr ln cr)) := ST.out.nextSel HX.out.1 HX.out.2.1 HX.out.2.2 hs.out hV5 kAll (fun x hx => hx) hwl
          clear hl c3 c4 c5 c6 c7 i0 i1 i2 c8 d0 d1 d2 kL hS5 hV5 kN kAll hwl
          go_wp2
          go_roundw
          case rel => exact ⟨k + 1, by omega, by go_num, FIN.out⟩
          case measure => simp [intOf]; omega
        · have hb : (pl == 2) = !m := by revert hb; cases m <;> cases (pl == 2) <;> simp
          have hs : Hid (selV m (pl, nu, .slice bp b.length bc) = false) := (show (decide (pl = 2) == m) = false by
            have : decide (pl = 2) = !m := hb
            rw [this]; simp)
          obtain ⟨inf, hin1, hin2, hin3, hin4⟩ := info_parts3 (show (Try.prog.info? 89).map (fun i => (i.zero, i.size, i.bytes)) = some (some (.agg #[.int .i64 0, .int .i64 0, .slice none 0 0]), 3, 40) by kernel_rfl)
          have HI : Hid (Try.prog.info? 89 = some inf ∧ inf.zero = some (.agg #[.int .i64 0, .int .i64 0, .slice none 0 0]) ∧ inf.size = 3 ∧ inf.bytes = 40) := ⟨hin1, hin2, hin3, hin4⟩
          have hsrc := src_write (P := Try.prog) (wr.alloc (.cells #[.int .i64 pl, .int .i64 nu, .slice bp b.length bc] 89)) 76 89 Try.underlying76 pl nu bp b.length bc
          rw [show (wr.alloc (.cells #[.int .i64 pl, .int .i64 nu, .slice bp b.length bc] 89)).heap.size = wr.heap.size + 1 by simp] at hsrc
          have HSRC : Hid (Src Try.prog 3 76 (.slice (some ⟨wr.heap.size + 1, 0, none⟩) 1 1) 1 [.int .i64 pl, .int .i64 nu, .slice bp b.length bc] ((wr.alloc (.cells #[.int .i64 pl, .int .i64 nu, .slice bp b.length bc] 89)).alloc (.cells #[.int .i64 pl, .int .i64 nu, .slice bp b.length bc] 89))) := hsrc
          clear hsrc
          clear hz1 hz2 ez hlen hk2 hob hin1 hin2 hin3 hin4 hy hix hrd h1
          go_wp2_with (at_builtin; refine wpList_append_row rfl (.tmp 41) (.tmp 43) 76 rfl w1.heap.size 89 inf (.agg #[.int .i64 0, .int .i64 0, .slice none 0 0]) 3 40 Try.underlying76 HI.out.1 HI.out.2.1 HI.out.2.2.1 HI.out.2.2.2 rfl _ _ _ (by rfl) ((HROW.out.kept ((Kept.refl [] wr).alloc _) (by simp)).kept ((Kept.refl [] _).alloc _) (by simp)) _ 1 [.int .i64 pl, .int .i64 nu, .slice bp b.length bc] (by rfl) HSRC.out (by have := HC.out; have := LLE.out; omega) (by have := HC.out; have := LLE.out; unfold maxLen; omega) (by have := HC.out; have := LLE.out; omega) (by have := hwsz.out; simp; omega) ?_; intro v5 w5 r5 k5 at5)
          go_roundw
          case rel => 
            refine ⟨k + 1, by omega, by go_num, ?_⟩
            refine ST.out.nextRest HX.out.1 HX.out.2.1 HX.out.2.2 hs.out (((Kept.refl [] wr).alloc _).alloc _) k5 ?_ HLOW.out
            rw [HLN.out]; exact r5
          case measure => simp [intOf]; omega
      · obtain rfl : k = d.loose.length := by omega
        have hdone := st.done HOK.out ED.out hlow
        have hfr := st.rd.blk.free 8
        generalize ((R.lv.take d.loose.length).filter fun x => !selV m x).length = ln at *
        have HD : Hid (RD (wr.setCell ⟨g, 8, none⟩ (.slice pr ln cr)) g (d.sync m) { R with vloose := .slice pr ln cr, lv := R.lv.filter fun x => !selV m x } ∧ Kept (R.foot g) w1 (wr.setCell ⟨g, 8, none⟩ (.slice pr ln cr)) ∧ ∀ x ∈ ({ R with vloose := .slice pr ln cr, lv := R.lv.filter fun x => !selV m x } : RDat).foot g, x ∈ R.foot g ∨ w1.heap.size ≤ x) := hdone
        have K1 : Hid (Kept [g] w w1) := k1
        clear hdone st hz1 hz2 ez h1 hlow k1
        go_wp2
        go_ret
        exact ⟨rfl, _, HD.out.1, (K1.out.mono HGF.out).trans HD.out.2.1 (by intro x hx; exact .inl hx), fun x hx => by have := K1.out.size; rcases HD.out.2.2 x hx with c | c; exact .inl c; exact .inr (by omega)⟩
end Go.Proofs.Ytmipmiaflompmab

/-
  OWN WORK. The document's disk: Load.
-/
namespace Go.Proofs.Ytmipmiaflompmab
open Go.RowKit
set_option linter.unusedVariables false
set_option linter.unusedSimpArgs false

/-- the worlds that keep what lies in w2 -/
def Calm (w2 : World) : Type := { w' : World // Kept [] w2 w' }
theorem calmNe (w2 : World) : Nonempty (Calm w2) := ⟨⟨w2, Kept.refl _ _⟩⟩
def Calm.at {w2 : World} (s : Calm w2) : World := s.1
theorem Calm.kept {w2 : World} (s : Calm w2) : Kept [] w2 s.at := s.2
theorem Calm.call {P : Program} {f : FuncId} {args : Array Value} {w2 : World} {v : Value} (c : ∀ w, Calls P f args w fun e w' => e = .returned v ∧ Kept [] w w') (s : Calm w2) : Calls P f args s.at fun e w'' => e = .returned v ∧ ∃ s' : Calm w2, w'' = s'.at :=
  (c s.at).mono fun e w'' h => ⟨h.1, ⟨w'', s.kept.then h.2⟩, rfl⟩
/-- a region that only reads, and whose callees turn nothing that was there -/
theorem wp_region_calm {P : Program} {id : Nat} {Q : Exit → Act → World → Prop} {a : Act} {w w2 : World} {l : List Oper} (k : Kept [] w2 w) (hm : P.follows .mixedOrders = true) (hB : Region.lexB .any l.toArray = true)
    (h : wpQuiet P l.toArray (fun w' => ∃ s : Calm w2, w' = s.at) (fun a' => ∀ w', (∃ s : Calm w2, w' = s.at) → Q .normal a' w') l a) : (Code.region id l.toArray true).wp P Q a w :=
  wp_region_quiet (C := fun w' => ∃ s : Calm w2, w' = s.at) hm hB ⟨⟨_, k.drew⟩, rfl⟩ (by simpa using h)
theorem load_bad (a b c : Int) (V : IV) (m : IM) (w : World) (hV : SeeIm w V m) (h : shapeOk a b c = false) :
    Calls Try.prog 7 #[.agg #[.int .i64 a, .int .i64 b, .int .i64 c], V.agg] w fun e w' => e = .returned (.tuple #[.pointer none, .int .i64 60]) ∧ Kept [] w w' := by
  have hs := fun w => shaped_any a b c w
  rw [h] at hs
  clear h
  unfold IV.agg
  go_enter Try.func7, Try.ntmps7
  go_wp2_with fail
  refine (hs _).mono ?_
  rintro e w1 ⟨rfl, k1⟩
  clear hs
  go_wp2
  go_ret2
  exact ⟨rfl, (((Kept.refl [] w).alloc _).alloc _).then k1⟩
/-- what Load asks of an image, but for its pages' lengths -/
def headOk (np ns lm : Nat) (m : IM) : Bool := decide (m.ps.length = np) && decide (m.pair.length = 16 + pgB ns) && decide (m.m0.length = 40) && decide (m.m1.length = 40) && decide (m.log.length ≤ lm)
theorem imOk_eq (np ns lm : Nat) (m : IM) : imOk np ns lm m = (headOk np ns lm m && m.ps.all fun p => decide (p.length = pgB ns)) := rfl
theorem imOf_rows {np : Nat} {m : IM} (h : m.ps.length = np) : imOf np m.rows m.log = m := by
  obtain ⟨ps, pair, log, m0, m1⟩ := m
  simp only at h
  subst h
  simp [imOf, IM.rows]
theorem imOk_parts {np ns lm : Nat} {m : IM} (h : imOk np ns lm m = true) : m.ps.length = np ∧ m.pair.length = 16 + pgB ns ∧ m.m0.length = 40 ∧ m.m1.length = 40 ∧ m.log.length ≤ lm ∧ ∀ p ∈ m.ps, p.length = pgB ns := by
  unfold imOk at h
  simp only [Bool.and_eq_true, decide_eq_true_eq, List.all_eq_true] at h
  obtain ⟨⟨⟨⟨⟨a, b⟩, c⟩, d⟩, e⟩, f⟩ := h
  exact ⟨a, b, c, d, e, f⟩
theorem DS.Ok.ofLoad {np ns lm : Nat} {m : IM} (h1 : 1 ≤ np ∧ np ≤ 16) (h2 : 1 ≤ ns ∧ ns ≤ 8) (h3 : 1024 ≤ lm ∧ lm ≤ 65536) (h : imOk np ns lm m = true) : (DS.load np ns lm m).Ok := by
  obtain ⟨a, b, c, d, e, f⟩ := imOk_parts h
  exact ⟨h1, h2, h3, (show m.rows.length = np + 3 by simp [IM.rows, a]), (show Sized np ns m.rows from sized_parts a f b c d), (fun x hx => absurd (show x ∈ ([] : List (Nat × List UInt8)) from hx) (by simp)), e, Nat.le_refl _, Int.le_refl _, wrap_i64_of (by show (-9223372036854775808 : Int) ≤ 0; omega) (by show (0 : Int) < _; omega), wrap_i64_of (by show (-9223372036854775808 : Int) ≤ 0; omega) (by show (0 : Int) < _; omega)⟩
theorem imOk_small {np ns lm : Nat} {m : IM} (h1 : np ≤ 16) (h2 : ns ≤ 8) (h3 : lm ≤ 65536) (h : imOk np ns lm m = true) : m.ps.length ≤ 16 ∧ ∀ l ∈ m.all, l.length ≤ 65536 := by
  obtain ⟨a, b, c, d, e, f⟩ := imOk_parts h
  refine ⟨by omega, fun l hl => ?_⟩
  unfold IM.all at hl
  unfold pgB at b f
  simp only [List.mem_cons, List.mem_append, List.not_mem_nil, or_false] at hl
  rcases hl with rfl | rfl | hl | rfl | rfl
  · omega
  · omega
  · have := f l hl; omega
  · omega
  · omega
theorem SeeIm.kept0 {w w' : World} {V : IV} {m : IM} (h : SeeIm w V m) (k : Kept [] w w') : SeeIm w' V m := by
  obtain ⟨⟨p, c, e, h1, h2, h3, h4⟩, a, b, d, e1, e2, e3⟩ := h
  exact ⟨⟨p, c, e, h1, h2, fun a ha i v hv => k.cell (h3 a ha i v hv) (by simp), h4⟩, a, fun i v l hv hl => (b i v l hv hl).kept k, d.kept k, e1.kept k, e2.kept k, e3.kept k⟩
theorem all_take {ps : List (List UInt8)} {k : Nat} {l : List UInt8} (h : ps[k]? = some l) (f : List UInt8 → Bool) : (ps.take (k + 1)).all f = ((ps.take k).all f && f l) := by
  obtain ⟨hi, rfl⟩ := List.getElem?_eq_some_iff.1 h
  rw [← List.take_append_getElem hi, List.all_append]
  simp
theorem headOk_eq (np ns lm : Nat) (m : IM) : headOk np ns lm m = (((m.ps.length : Int) == (np : Int)) && ((m.pair.length : Int) == 16 + (24 + 16 * (ns : Int))) && ((m.m0.length : Int) == 40) && ((m.m1.length : Int) == 40) && decide (m.log.length ≤ lm)) := by
  apply Bool.eq_iff_iff.2
  unfold headOk pgB
  simp only [Bool.and_eq_true, decide_eq_true_eq, beq_iff_eq]
  omega
set_option maxHeartbeats 3200000 in
theorem load_ok (np ns lm : Nat) (V : IV) (m : IM) (w : World) (h : SeeIm w V m) (h1 : 1 ≤ np ∧ np ≤ 16) (h2 : 1 ≤ ns ∧ ns ≤ 8) (h3 : 1024 ≤ lm ∧ lm ≤ 65536) :
    Calls Try.prog 7 #[.agg #[.int .i64 (np : Int), .int .i64 (ns : Int), .int .i64 (lm : Int)], V.agg] w fun e w' => Kept [] w w' ∧ if imOk np ns lm m = true then ∃ g R, e = .returned (.tuple #[.pointer (some ⟨g, 0, none⟩), .int .i64 0]) ∧ RD w' g (DS.load np ns lm m) R ∧ (∀ x ∈ R.foot g, w.heap.size ≤ x) else e = .returned (.tuple #[.pointer none, .int .i64 62]) := by
  haveI HNE : ∀ w2, Nonempty (Calm w2) := calmNe
  have hsh : shapeOk (np : Int) (ns : Int) (lm : Int) = true := by simp [shapeOk]; omega
  have hs := fun w => shaped_any (np : Int) (ns : Int) (lm : Int) w
  rw [hsh] at hs
  have hpb := fun w => pageBytes_any (np : Int) (ns : Int) (lm : Int) w (wrap16 h2.2) (wrap24 h2.2)
  have w16 : IntKind.i64.wrap (16 + (24 + 16 * (ns : Int))) = 16 + (24 + 16 * (ns : Int)) := wrap_i64_of (by omega) (by omega)
  obtain ⟨vp, pv, pair, log, m0, m1⟩ := V
  obtain ⟨⟨p, c, e1, hc1, hc2, hcell, hnil⟩, hlen, hps, hpair, hlog, hm0, hm1⟩ := id h
  simp only at e1 hlen hps hpair hlog hm0 hm1 hcell hnil hc1
  subst e1
  obtain ⟨pp, pc, rfl, -, -⟩ := hpair.shape
  obtain ⟨lp, lc, rfl, -, -⟩ := hlog.shape
  obtain ⟨ap, ac, rfl, -, -⟩ := hm0.shape
  obtain ⟨bp, bc, rfl, -, -⟩ := hm1.shape
  have HS : Hid ((1 ≤ np ∧ np ≤ 16) ∧ (1 ≤ ns ∧ ns ≤ 8) ∧ (1024 ≤ lm ∧ lm ≤ 65536)) := ⟨h1, h2, h3⟩
  have HSEE : Hid (SeeIm w ⟨.slice p pv.length c, pv, .slice pp m.pair.length pc, .slice lp m.log.length lc, .slice ap m.m0.length ac, .slice bp m.m1.length bc⟩ m) := h
  have HLEN : Hid (pv.length = m.ps.length) := hlen
  have HC : Hid (pv.length ≤ c ∧ c ≤ maxLen) := ⟨hc1, hc2⟩
  have HPS : Hid (∀ (i : Nat) v l, pv[i]? = some v → m.ps[i]? = some l → Bs w v l) := hps
  have HCELL : Hid (∀ a, p = some a → ∀ (i : Nat) v, pv[i]? = some v → w.cell? (a.add i) = some v) := hcell
  have HNIL : Hid (p = none → pv.length = 0) := hnil
  unfold IV.agg
  simp only
  clear hsh h h1 h2 h3 hlen hc1 hc2 hps hcell hnil hpair hlog hm0 hm1
  go_enter Try.func7, Try.ntmps7
  go_wp2_with fail
  refine (hs _).mono ?_
  rintro e w2 ⟨rfl, k2⟩
  have k02 : Kept [] w w2 := (((Kept.refl [] w).alloc _).alloc _).then k2
  have b0 : Blk w2 w.heap.size 23 [.int .i64 (np : Int), .int .i64 (ns : Int), .int .i64 (lm : Int)] := ((Blk.new w _ _).kept ((Kept.refl [] _).alloc _) (by simp)).kept k2 (by simp)
  have b1 : Blk w2 (w.heap.size + 1) 28 [.slice p pv.length c, .slice pp m.pair.length pc, .slice lp m.log.length lc, .slice ap m.m0.length ac, .slice bp m.m1.length bc] := by
    have := Blk.new (w.alloc (.cells #[.int .i64 (np : Int), .int .i64 (ns : Int), .int .i64 (lm : Int)] 23)) 28 [.slice p pv.length c, .slice pp m.pair.length pc, .slice lp m.log.length lc, .slice ap m.m0.length ac, .slice bp m.m1.length bc]
    rw [World.size_alloc] at this
    exact this.kept k2 (by simp)
  clear hs k2
  go_upto_region 3 with fail
  have a0 := b0.cell (j := 0) rfl
  have a1 := b0.cell (j := 1) rfl
  have a2 := b0.cell (j := 2) rfl
  obtain ⟨⟨i0, i1, i2, i3, i4⟩, -⟩ := b1.five
  go_cut [6] (fun s wx => s = .bool (headOk np ns lm m) ∧ Kept [] w2 wx)
  case first =>
    clear k02 b0 b1
    have kr := Kept.refl [] w2
    have s0 := fun (s : Calm w2) => s.kept.cell a0 (by simp)
    have s1 := fun (s : Calm w2) => s.kept.cell a1 (by simp)
    have s2 := fun (s : Calm w2) => s.kept.cell a2 (by simp)
    have t0 := fun (s : Calm w2) => s.kept.cell i0 (by simp)
    have t1 := fun (s : Calm w2) => s.kept.cell i1 (by simp)
    have t2 := fun (s : Calm w2) => s.kept.cell i2 (by simp)
    have t3 := fun (s : Calm w2) => s.kept.cell i3 (by simp)
    have t4 := fun (s : Calm w2) => s.kept.cell i4 (by simp)
    have KR : Hid (Kept [] w2 w2) := kr
    clear a0 a1 a2 i0 i1 i2 i3 i4 kr
    cases c1 : ((pv.length : Int) == (np : Int)) with
    | false =>
      have HZ : Hid (headOk np ns lm m = false) := (show headOk np ns lm m = false by rw [headOk_eq, ← HLEN.out]; simp only [c1, Bool.and_true, Bool.true_and, Bool.and_false, Bool.false_and])
      refine wp_region_calm KR.out (by kernel_rfl) (by kernel_rfl) ?_
      repeat (go_big_quiet_step ((go_at_call 34; exact Calm.call hpb _)))
      refine wpQuiet_nil ?_
      intro _ hw'
      obtain ⟨sq, hw''⟩ := hw'
      subst hw''
      have ks := sq.kept
      generalize sq.at = wx at ks ⊢
      clear sq
      have ks : Hid (Kept [] w2 wx) := ks
      clear s0 s1 s2 t0 t1 t2 t3 t4 w16 hpb c1
      go_step
      go_step
      go_meet
      exact ⟨by rw [HZ.out], ks.out⟩
    | true =>
      cases c2 : ((m.pair.length : Int) == 16 + (24 + 16 * (ns : Int))) with
      | false =>
        have HZ : Hid (headOk np ns lm m = false) := (show headOk np ns lm m = false by rw [headOk_eq, ← HLEN.out]; simp only [c1, c2, Bool.and_true, Bool.true_and, Bool.and_false, Bool.false_and])
        refine wp_region_calm KR.out (by kernel_rfl) (by kernel_rfl) ?_
        repeat (go_big_quiet_step ((go_at_call 34; exact Calm.call hpb _)))
        refine wpQuiet_nil ?_
        intro _ hw'
        obtain ⟨sq, hw''⟩ := hw'
        subst hw''
        have ks := sq.kept
        generalize sq.at = wx at ks ⊢
        clear sq
        have ks : Hid (Kept [] w2 wx) := ks
        clear s0 s1 s2 t0 t1 t2 t3 t4 w16 hpb c1 c2
        go_step
        go_step
        go_meet
        exact ⟨by rw [HZ.out], ks.out⟩
      | true =>
        cases c3 : ((m.m0.length : Int) == 40) with
        | false =>
          have HZ : Hid (headOk np ns lm m = false) := (show headOk np ns lm m = false by rw [headOk_eq, ← HLEN.out]; simp only [c1, c2, c3, Bool.and_true, Bool.true_and, Bool.and_false, Bool.false_and])
          refine wp_region_calm KR.out (by kernel_rfl) (by kernel_rfl) ?_
          repeat (go_big_quiet_step ((go_at_call 34; exact Calm.call hpb _)))
          refine wpQuiet_nil ?_
          intro _ hw'
          obtain ⟨sq, hw''⟩ := hw'
          subst hw''
          have ks := sq.kept
          generalize sq.at = wx at ks ⊢
          clear sq
          have ks : Hid (Kept [] w2 wx) := ks
          clear s0 s1 s2 t0 t1 t2 t3 t4 w16 hpb c1 c2 c3
          go_step
          go_step
          go_meet
          exact ⟨by rw [HZ.out], ks.out⟩
        | true =>
          cases c4 : ((m.m1.length : Int) == 40) with
          | false =>
            have HZ : Hid (headOk np ns lm m = false) := (show headOk np ns lm m = false by rw [headOk_eq, ← HLEN.out]; simp only [c1, c2, c3, c4, Bool.and_true, Bool.true_and, Bool.and_false, Bool.false_and])
            refine wp_region_calm KR.out (by kernel_rfl) (by kernel_rfl) ?_
            repeat (go_big_quiet_step ((go_at_call 34; exact Calm.call hpb _)))
            refine wpQuiet_nil ?_
            intro _ hw'
            obtain ⟨sq, hw''⟩ := hw'
            subst hw''
            have ks := sq.kept
            generalize sq.at = wx at ks ⊢
            clear sq
            have ks : Hid (Kept [] w2 wx) := ks
            clear s0 s1 s2 t0 t1 t2 t3 t4 w16 hpb c1 c2 c3 c4
            go_step
            go_step
            go_meet
            exact ⟨by rw [HZ.out], ks.out⟩
          | true =>
            cases c5 : decide (m.log.length ≤ lm) with
            | false =>
              have HZ : Hid (headOk np ns lm m = false) := (show headOk np ns lm m = false by rw [headOk_eq, ← HLEN.out]; simp only [c1, c2, c3, c4, c5, Bool.and_true, Bool.true_and, Bool.and_false, Bool.false_and])
              refine wp_region_calm KR.out (by kernel_rfl) (by kernel_rfl) ?_
              repeat (go_big_quiet_step ((go_at_call 34; exact Calm.call hpb _)))
              refine wpQuiet_nil ?_
              intro _ hw'
              obtain ⟨sq, hw''⟩ := hw'
              subst hw''
              have ks := sq.kept
              generalize sq.at = wx at ks ⊢
              clear sq
              have ks : Hid (Kept [] w2 wx) := ks
              clear s0 s1 s2 t0 t1 t2 t3 t4 w16 hpb c1 c2 c3 c4 c5
              go_step
              go_step
              go_meet
              exact ⟨by rw [HZ.out], ks.out⟩
            | true =>
              have HZ : Hid (headOk np ns lm m = true) := (show headOk np ns lm m = true by rw [headOk_eq, ← HLEN.out]; simp only [c1, c2, c3, c4, c5, Bool.and_true, Bool.true_and, Bool.and_false, Bool.false_and])
              refine wp_region_calm KR.out (by kernel_rfl) (by kernel_rfl) ?_
              repeat (go_big_quiet_step ((go_at_call 34; exact Calm.call hpb _)))
              refine wpQuiet_nil ?_
              intro _ hw'
              obtain ⟨sq, hw''⟩ := hw'
              subst hw''
              have ks := sq.kept
              generalize sq.at = wx at ks ⊢
              clear sq
              have ks : Hid (Kept [] w2 wx) := ks
              clear s0 s1 s2 t0 t1 t2 t3 t4 w16 hpb c1 c2 c3 c4 c5
              go_step
              go_step
              go_meet
              exact ⟨by rw [HZ.out], ks.out⟩
  case rest =>
    clear a0 a1 a2 i0 i1 i2 i3 i4
    obtain ⟨rfl, kc⟩ := hcut
    have B0 : Hid (Blk w2 w.heap.size 23 [.int .i64 (np : Int), .int .i64 (ns : Int), .int .i64 (lm : Int)]) := b0
    have B1 : Hid (Blk w2 (w.heap.size + 1) 28 [.slice p pv.length c, .slice pp m.pair.length pc, .slice lp m.log.length lc, .slice ap m.m0.length ac, .slice bp m.m1.length bc]) := b1
    have i0 := (b1.kept kc (by simp)).cell (j := 0) rfl
    have st0 : Hid (Kept [] w2 wc) := kc
    have W16 : Hid (IntKind.i64.wrap (16 + (24 + 16 * (ns : Int))) = 16 + (24 + 16 * (ns : Int))) := w16
    clear b0 b1 w16 kc i0
    go_wp2_with fail
    go_loopw [6, 7] (fun z i wr => ∃ k : Nat, k ≤ pv.length ∧ i = .int .i64 k ∧ z = .bool (headOk np ns lm m && (m.ps.take k).all fun p => decide (p.length = pgB ns)) ∧ Kept [] w2 wr) (fun _ i _ => pv.length - (intOf i).toNat)
    case atStart => exact ⟨0, Nat.zero_le _, rfl, by simp, st0.out⟩
    case round =>
      obtain ⟨k, hk, rfl, rfl, kr⟩ := hrel
      have i0 := (B1.out.kept kr (by simp)).cell (j := 0) rfl
      have h63 : pv.length ≤ 9223372036854775807 := by have := HC.out.1; have := HC.out.2; unfold maxLen at this; omega
      obtain ⟨z, hz⟩ : ∃ z, z = (headOk np ns lm m && (m.ps.take k).all fun p => decide (p.length = pgB ns)) := ⟨_, rfl⟩
      rw [← hz]
      by_cases hlt : k < pv.length
      · obtain ⟨a, rfl⟩ : ∃ a, p = some a := by
          cases p with
          | none => have := HNIL.out rfl; omega
          | some a => exact ⟨a, rfl⟩
        obtain ⟨v, hv⟩ : ∃ v, pv[k]? = some v := ⟨_, List.getElem?_eq_getElem hlt⟩
        obtain ⟨l, hl⟩ : ∃ l, m.ps[k]? = some l := ⟨_, List.getElem?_eq_getElem (by have := HLEN.out; omega)⟩
        have hbs := (HPS.out k v l hv hl).kept (k02.then kr)
        have hcv := (k02.then kr).cell (HCELL.out a rfl k v hv) (by simp)
        obtain ⟨pq, cq, rfl⟩ : ∃ pq cq, v = .slice pq l.length cq := by obtain ⟨pq, cq, e, -⟩ := hbs.shape; exact ⟨pq, cq, e⟩
        have hnext := all_take hl (fun p => decide (p.length = pgB ns))
        have HNX : Hid ((headOk np ns lm m && (m.ps.take (k + 1)).all fun p => decide (p.length = pgB ns)) = (z && decide (l.length = pgB ns))) := (show _ = _ by rw [hnext, ← Bool.and_assoc, ← hz])
        have hlt' : (k : Int) < (pv.length : Int) := by omega
        have wk : IntKind.i64.wrap ((k : Int) + 1) = (k : Int) + 1 := wrap_i64_of (by omega) (by omega)
        have bs := B0.out.kept kr (by simp)
        have a0 := bs.cell (j := 0) rfl
        have a1 := bs.cell (j := 1) rfl
        have a2 := bs.cell (j := 2) rfl
        have KR : Hid (Kept [] w2 wr) := kr
        have KR2 : Hid (Kept [] wr wr) := Kept.refl [] wr
        clear hnext hz hv hl hbs bs kr k02
        have s0 := fun (s : Calm wr) => s.kept.cell a0 (by simp)
        have s1 := fun (s : Calm wr) => s.kept.cell a1 (by simp)
        have s2 := fun (s : Calm wr) => s.kept.cell a2 (by simp)
        have t0 := fun (s : Calm wr) => s.kept.cell i0 (by simp)
        have tv := fun (s : Calm wr) => s.kept.cell hcv (by simp)
        cases z with
        | false =>
          have NX : Hid ((headOk np ns lm m && (m.ps.take (k + 1)).all fun p => decide (p.length = pgB ns)) = false) := (show _ = _ by rw [HNX.out]; rfl)
          go_wp2_with fail
          refine wp_region_calm KR2.out (by kernel_rfl) (by kernel_rfl) ?_
          repeat (go_big_quiet_step ((go_at_call 34; exact Calm.call hpb _)))
          refine wpQuiet_nil ?_
          intro _ hw'
          obtain ⟨sq, hw''⟩ := hw'
          subst hw''
          have ks := sq.kept
          generalize sq.at = wx at ks ⊢
          clear sq
          have KS : Hid (Kept [] w2 wx) := KR.out.then ks
          clear ks s0 s1 s2 t0 tv a0 a1 a2 i0 hcv
          go_wp2
          go_roundw
          case rel => exact ⟨k + 1, by omega, by go_num, by rw [NX.out], KS.out⟩
          case measure => simp [intOf]; omega
        | true =>
          cases cl : ((l.length : Int) == 24 + 16 * (ns : Int)) with
          | false =>
            have NX : Hid ((headOk np ns lm m && (m.ps.take (k + 1)).all fun p => decide (p.length = pgB ns)) = false) := (show _ = _ by rw [HNX.out]; unfold pgB; simp at cl; simp; omega)
            go_wp2_with fail
            refine wp_region_calm KR2.out (by kernel_rfl) (by kernel_rfl) ?_
            repeat (go_big_quiet_step ((go_at_call 34; exact Calm.call hpb _)))
            refine wpQuiet_nil ?_
            intro _ hw'
            obtain ⟨sq, hw''⟩ := hw'
            subst hw''
            have ks := sq.kept
            generalize sq.at = wx at ks ⊢
            clear sq
            have KS : Hid (Kept [] w2 wx) := KR.out.then ks
            clear ks s0 s1 s2 t0 tv a0 a1 a2 i0 hcv cl
            go_wp2
            go_roundw
            case rel => exact ⟨k + 1, by omega, by go_num, by rw [NX.out], KS.out⟩
            case measure => simp [intOf]; omega
          | true =>
            have NX : Hid ((headOk np ns lm m && (m.ps.take (k + 1)).all fun p => decide (p.length = pgB ns)) = true) := (show _ = _ by rw [HNX.out]; unfold pgB; simp at cl; simp; omega)
            go_wp2_with fail
            refine wp_region_calm KR2.out (by kernel_rfl) (by kernel_rfl) ?_
            repeat (go_big_quiet_step ((go_at_call 34; exact Calm.call hpb _)))
            refine wpQuiet_nil ?_
            intro _ hw'
            obtain ⟨sq, hw''⟩ := hw'
            subst hw''
            have ks := sq.kept
            generalize sq.at = wx at ks ⊢
            clear sq
            have KS : Hid (Kept [] w2 wx) := KR.out.then ks
            clear ks s0 s1 s2 t0 tv a0 a1 a2 i0 hcv cl
            go_wp2
            go_roundw
            case rel => exact ⟨k + 1, by omega, by go_num, by rw [NX.out], KS.out⟩
            case measure => simp [intOf]; omega
      · obtain rfl : k = pv.length := by omega
        have hzk : z = imOk np ns lm m := by rw [hz, imOk_eq, HLEN.out, List.take_length]
        have hwr : Kept [] w wr := k02.then kr
        have KW : Hid (Kept [] w wr) := hwr
        have bs := B0.out.kept kr (by simp)
        have bi := B1.out.kept kr (by simp)
        clear hz k02 hpb
        cases z with
        | false =>
          have hzf : imOk np ns lm m = false := hzk.symm
          clear kr hwr bs bi hzk h63 hlt hk
          go_wp2
          all_goals
            go_ret2
            exact ⟨KW.out, rfl⟩
        | true =>
          have hsm := imOk_small HS.out.1.2 HS.out.2.1.2 HS.out.2.2.2 hzk.symm
          have him := images_any _ m wr (HSEE.out.kept0 hwr) hsm.1 hsm.2
          unfold IV.agg at him
          simp only at him
          have a0 := bs.cell (j := 0) rfl
          have a1 := bs.cell (j := 1) rfl
          have a2 := bs.cell (j := 2) rfl
          obtain ⟨⟨j0, j1, j2, j3, j4⟩, -⟩ := bi.five
          have HZK : Hid (imOk np ns lm m = true) := hzk.symm
          have BS : Hid (Blk wr w.heap.size 23 [.int .i64 (np : Int), .int .i64 (ns : Int), .int .i64 (lm : Int)]) := bs
          clear hsm hzk kr hwr bs bi
          go_wp2_with fail
          refine him.mono ?_
          rintro e w4 ⟨V, rfl, hV, k4⟩
          obtain ⟨vp, qv, pair, log, m0, m1⟩ := V
          obtain ⟨u0, v0, u1, v1, u2, v2, u3, v3, u4, v4, x0, x1, x2, x3, x4⟩ := hV.shapes
          simp only at x0 x1 x2 x3 x4
          subst x0 x1 x2 x3 x4
          have HV : Hid (OwnIm w4 wr.heap.size ⟨.slice u0 qv.length v0, qv, .slice u1 m.pair.length v1, .slice u2 m.log.length v2, .slice u3 m.m0.length v3, .slice u4 m.m1.length v4⟩ m) := hV
          have K4 : Hid (Kept [] wr w4) := k4
          have kB := (Kept.refl [] w4).alloc (.cells #[.slice u0 qv.length v0, .slice u1 m.pair.length v1, .slice u2 m.log.length v2, .slice u3 m.m0.length v3, .slice u4 m.m1.length v4] 28)
          have c0 := (k4.then kB).cell a0 (by simp)
          have c1 := (k4.then kB).cell a1 (by simp)
          have c2 := (k4.then kB).cell a2 (by simp)
          have kD := kB.alloc (.cells #[.int .i64 (np : Int), .int .i64 (ns : Int), .int .i64 (lm : Int), .slice u0 qv.length v0, .slice u1 m.pair.length v1, .slice none 0 0, .slice u3 m.m0.length v3, .slice u4 m.m1.length v4, .slice none 0 0, .slice u2 m.log.length v2, .int .i64 (m.log.length : Int), .int .i64 0, .int .i64 0, .bool false] 78)
          have bD := Blk.new (w4.alloc (.cells #[.slice u0 qv.length v0, .slice u1 m.pair.length v1, .slice u2 m.log.length v2, .slice u3 m.m0.length v3, .slice u4 m.m1.length v4] 28)) 78 [.int .i64 (np : Int), .int .i64 (ns : Int), .int .i64 (lm : Int), .slice u0 qv.length v0, .slice u1 m.pair.length v1, .slice none 0 0, .slice u3 m.m0.length v3, .slice u4 m.m1.length v4, .slice none 0 0, .slice u2 m.log.length v2, .int .i64 (m.log.length : Int), .int .i64 0, .int .i64 0, .bool false]
          rw [World.size_alloc] at bD
          obtain ⟨f1, f2⟩ := RD.make (d := DS.load np ns lm m) (g := w4.heap.size + 1) (DS.Ok.ofLoad HS.out.1 HS.out.2.1 HS.out.2.2 HZK.out) (by show OwnIm _ wr.heap.size _ (imOf np m.rows m.log); rw [imOf_rows (imOk_parts HZK.out).1]; exact hV.kept0 kD) rfl bD (by have := k4.size; omega)
          have F1 : Hid (RD _ (w4.heap.size + 1) (DS.load np ns lm m) _) := f1
          have F2 : Hid (∀ x ∈ (freshR ⟨.slice u0 qv.length v0, qv, .slice u1 m.pair.length v1, .slice u2 m.log.length v2, .slice u3 m.m0.length v3, .slice u4 m.m1.length v4⟩).foot (w4.heap.size + 1), wr.heap.size ≤ x) := f2
          have KD : Hid (Kept [] w4 _) := kD
          clear him j0 j1 j2 j3 j4 a0 a1 a2 i0 hV k4 kB kD bD f1 f2 h63 hlt hk
          go_wp2
          go_ret2
          exact ⟨(KW.out.then K4.out).then KD.out, _, rfl, _, F1.out, fun x hx => Nat.le_trans KW.out.size (F2.out x hx)⟩
end Go.Proofs.Ytmipmiaflompmab

/-
  OWN WORK. The document's disk: Copy: one loose write more.
-/
namespace Go.Proofs.Ytmipmiaflompmab
open Go.RowKit
set_option linter.unusedVariables false

theorem DS.Ok.more {d : DS} (h : d.Ok) {k : Nat} {b : List UInt8} (h1 : k < d.np + 3) (h2 : b.length = sizeK d.np d.ns k) : ({ d with loose := d.loose ++ [(k, b)] } : DS).Ok :=
  ⟨h.np, h.ns, h.lm, h.len, h.row, fun x hx => by
    rcases List.mem_append.1 hx with c | c
    · exact h.loose x c
    · simp at c; subst c; exact ⟨h1, h2⟩, h.log, h.lasted, h.stop, h.acts, h.stopw⟩
theorem DS.Ok.front {d : DS} (h : d.Ok) (k : Nat) : ({ d.copy with loose := d.loose.take k } : DS).Ok :=
  ⟨h.copy.np, h.copy.ns, h.copy.lm, h.copy.len, h.copy.row, fun x hx => h.loose x (List.mem_of_mem_take hx), h.copy.log, h.copy.lasted, h.copy.stop, h.copy.acts, h.copy.stopw⟩
/-- one loose write more: a row of bytes made just now (w2 to w3), appended (w5), the list laid into the disk -/
theorem looseEnd {w2 w3 w5 : World} {g : Nat} {d : DS} {R : RDat} {p n : Int} {k : Nat} {b : List UInt8} {pz p3 p5 : Option Addr} {cz ll c3 c5 : Nat} (H2 : RD w2 g d R) (EZ : R.vloose = .slice pz ll cz) (hll : ll = d.loose.length) (hix : idxOf d.np p n = some k) (hbl : b.length = sizeK d.np d.ns k)
    (o3 : w3.ownsRow w2.heap.size 5 1 (.slice p3 b.length c3) b.length (u8s b)) (kA : Kept [] w2 w3) (r5 : Row w5 0 3 (.slice p5 (ll + 1) c5) (ll + 1) (lcells R.lv ++ [.int .i64 p, .int .i64 n, .slice p3 b.length c3]))
    (k5 : Kept (Value.slice pz ll cz).ownBlock.toList (w3.alloc (.cells #[.int .i64 p, .int .i64 n, .slice p3 b.length c3] 89)) w5) (at5 : (Value.slice p5 (ll + 1) c5).ownBlock = (Value.slice pz ll cz).ownBlock ∨ (Value.slice p5 (ll + 1) c5).ownBlock = some (w3.alloc (.cells #[.int .i64 p, .int .i64 n, .slice p3 b.length c3] 89)).heap.size) :
    RD (w5.setCell ⟨g, 8, none⟩ (.slice p5 (ll + 1) c5)) g { d with loose := d.loose ++ [(k, b)] } (R.more (.slice p5 (ll + 1) c5) p n (.slice p3 b.length c3)) ∧ Kept (g :: R.vloose.ownBlock.toList) w2 (w5.setCell ⟨g, 8, none⟩ (.slice p5 (ll + 1) c5)) ∧ ∀ x ∈ (R.more (.slice p5 (ll + 1) c5) p n (.slice p3 b.length c3)).foot g, x ∈ R.foot g ∨ w2.heap.size ≤ x := by
  rw [← EZ] at k5 at5
  have hok := H2.ok.more (idxOf_lt hix) hbl
  have ngl : g ∉ R.vloose.ownBlock.toList := fun hm => (H2.apart g (by simpa using hm)).1 rfl
  have kE : Kept R.vloose.ownBlock.toList w2 w5 := ((kA.alloc (.cells #[.int .i64 p, .int .i64 n, .slice p3 b.length c3] 89)).mono (by simp)).trans k5 (by intro x hx; exact .inl hx)
  have b5 := H2.blk.kept kE ngl
  obtain ⟨b6, k6⟩ := b5.set 8 (.slice p5 (ll + 1) c5)
  have kF : Kept (g :: R.vloose.ownBlock.toList) w2 (w5.setCell ⟨g, 8, none⟩ (.slice p5 (ll + 1) c5)) := (kE.mono (by intro x hx; simp [hx])).trans k6 (by simp)
  have hgl := H2.blk.lt
  have hlow : ∀ x ∈ R.vloose.ownBlock.toList, x < w2.heap.size := fun x hx => (H2.loose.lt x (by simpa using hx)).2
  have o4 := own_of_kept o3 ((((Kept.refl [] w3).alloc (.cells #[.int .i64 p, .int .i64 n, .slice p3 b.length c3] 89)).mono (T := R.vloose.ownBlock.toList) (by simp)).trans k5 (by intro x hx; exact .inl hx)) (fun x hx hm => by have := own_ge o3 x hx; have := hlow x hm; omega)
  have o5 := own_of_kept o4 k6 (fun x hx hm => by have := own_ge o3 x hx; simp at hm; omega)
  have hs := kA.size
  have hv : (Value.slice p5 (ll + 1) c5).ownBlock = R.vloose.ownBlock ∨ ∃ x, (Value.slice p5 (ll + 1) c5).ownBlock = some x ∧ w2.heap.size ≤ x ∧ (Value.slice p3 b.length c3).ownBlock ≠ some x := by
    rcases at5 with e | e
    · exact .inl e
    · refine .inr ⟨_, e, by simp; omega, fun e2 => ?_⟩
      have := own_lt o3 _ e2
      simp at this
      omega
  have r6 : Row (w5.setCell ⟨g, 8, none⟩ (.slice p5 (ll + 1) c5)) 0 3 (.slice p5 (ll + 1) c5) (ll + 1) (lcells R.lv ++ [.int .i64 p, .int .i64 n, .slice p3 b.length c3]) := r5.kept k6 fun x hx hm => by
    simp at hm
    subst hm
    rcases hv with e | ⟨y, e, h1, -⟩
    · exact ngl (by rw [← e]; simp [hx])
    · have : y = x := Option.some.inj (e.symm.trans hx)
      omega
  exact ⟨H2.newLoose kF b6 hok rfl rfl rfl rfl hix o5 (by rw [← hll]; exact r6) hv, kF, fun x hx => foot_more (by rcases hv with e | ⟨y, e, h1, -⟩; exact .inl e; exact .inr ⟨y, e, h1⟩) (fun y hy => own_ge o3 y hy) hx⟩
theorem copy_next {d : DS} {k : Nat} {x : Nat × List UInt8} (h : d.loose[k]? = some x) : ({ ({ d.copy with loose := d.loose.take k } : DS) with loose := d.loose.take k ++ [x] } : DS) = { d.copy with loose := d.loose.take (k + 1) } := by
  obtain ⟨hi, rfl⟩ := List.getElem?_eq_some_iff.1 h
  rw [← List.take_append_getElem hi]
/-- an image whose log is an elder row -/
theorem OwnIm.oldLog {w : World} {base b' : Nat} {V : IV} {m : IM} {v : Value} {l : List UInt8} (h : OwnIm w base V m) (hb : b' ≤ base) (ho : w.ownsRow b' 5 1 v l.length (u8s l)) (hlt : ∀ x, v.ownBlock = some x → x < base) : OwnIm w b' { V with log := v } { m with log := l } := by
  obtain ⟨h1, h2, h3⟩ := Fam.iff.1 h.fam
  refine ⟨Fam.iff.2 ⟨by simpa [IV.rows, IM.all] using h1, fun z hz => ?_, ?_⟩, own_mono h.row hb, h.len⟩
  · have hz' : z ∈ (v, l) :: (V.pair :: (V.pv ++ [V.m0, V.m1])).zip (m.pair :: (m.ps ++ [m.m0, m.m1])) := hz
    rcases List.mem_cons.1 hz' with e | e
    · subst e; exact ho
    · exact own_mono (h2 z (List.mem_cons_of_mem _ e)) hb
  · have h3' : (V.log :: (V.pair :: (V.pv ++ [V.m0, V.m1]))).Pairwise (fun u v => ∀ x, u.ownBlock = some x → v.ownBlock ≠ some x) := h3
    show (v :: (V.pair :: (V.pv ++ [V.m0, V.m1]))).Pairwise _
    refine List.pairwise_cons.2 ⟨fun u hu x hx hux => ?_, (List.pairwise_cons.1 h3').2⟩
    obtain ⟨i, hi⟩ := List.getElem?_of_mem (show u ∈ V.rows from List.mem_cons_of_mem _ hu)
    have := (h.fam.lt i u x hi hux).1
    have := hlt x hx
    omega
/-- the same disk, its image's own log any row of none -/
def freshV (V : IV) (vl : Value) : RDat := ⟨V.vp, V.pv, V.pair, V.m0, V.m1, vl, .slice none 0 0, V.log, []⟩
theorem own_nil_shape {w : World} {base : Nat} {v : Value} (h : w.ownsRow base 5 1 v 0 (u8s [])) : ∃ p c, v = .slice p 0 c ∧ c ≤ maxLen ∧ (p = none → c = 0) := by
  obtain ⟨p, c, e, -, hc⟩ := (Bs.ofOwn h).shape
  refine ⟨p, c, e, hc, fun hp => ?_⟩
  rcases h.2 with ⟨e2, -⟩ | ⟨g', cap, cur, e2, -⟩
  · rw [e] at e2; cases e2; rfl
  · rw [e] at e2; cases e2; cases hp
theorem RD.make2 {w : World} {base g : Nat} {V : IV} {vl : Value} {d : DS} (hok : d.Ok) (h : OwnIm w base V (imOf d.np d.rows d.log)) (hl : d.loose = []) (hv : ∃ p c, vl = .slice p 0 c ∧ c ≤ maxLen ∧ (p = none → c = 0)) (hb : Blk w g 78 ((freshV V vl).cells d)) (hg : base ≤ g) : RD w g d (freshV V vl) ∧ ∀ x ∈ (freshV V vl).foot g, base ≤ x := by
  obtain ⟨hf, hpv⟩ := h.ofRows hok.len
  have e1 : (freshV V vl).rows = V.log :: V.tail := by simp [freshV, RDat.rows, RDat.tail, IV.tail]
  have e2 : d.all = d.log :: d.rows := by unfold DS.all; rw [hl]; simp
  refine ⟨⟨hok, hb, by rw [e1, e2]; exact hf.mono (Nat.zero_le _), ?_, hv, by rw [hl]; exact Row.nil w 0 3, by rw [hl]; rfl, fun x hx => by simp [freshV, Value.ownBlock] at hx⟩, fun x hx => ?_⟩
  · rw [← hpv]
    exact own_mono h.row (Nat.zero_le _)
  · unfold RDat.foot at hx
    rcases List.mem_cons.1 hx with e | hx
    · omega
    · rcases List.mem_append.1 hx with hx | hx
      · rcases List.mem_append.1 hx with hx | hx
        · exact own_ge h.row x (by simpa [freshV] using hx)
        · simp [freshV, Value.ownBlock] at hx
      · rw [e1] at hx
        exact (hf.not8 hx).2.1
end Go.Proofs.Ytmipmiaflompmab

/-
  OWN WORK. A region that draws its order and ends with a store into a cell that it read: the reads may be taken first, and the store need keep nothing.
-/
namespace Go.Proofs.Ytmipmiaflompmab
open Go.RowKit
set_option linter.unusedVariables false

section
variable {P : Program} {ops : Array Oper} {Q : Exit → Act → World → Prop} {md : Region.Mode} {S : World → Prop} {z : Nat}

/-- whatever order is picked: S holds behind every operation but number z -/
def wpAnyZ (P : Program) (md : Region.Mode) (ops : Array Oper) (Q : Exit → Act → World → Prop) (S : World → Prop) (z : Nat) : Nat → Array Bool → Act → World → Prop
  | 0, listed, a, w => Region.ready md ops listed = [] ∧ Q .normal a w
  | n + 1, listed, a, w =>
    (Region.ready md ops listed = [] → Q .normal a w) ∧
      ∀ i ∈ Region.ready md ops listed, wpOp P ops Q i (fun a' w' => (i ≠ z → S w') ∧ wpAnyZ P md ops Q S z n (listed.setIfInBounds i true) a' w') a w
theorem wpAnyZ_any : ∀ (n : Nat) (listed : Array Bool) (a : Act) (w : World), wpAnyZ P md ops Q S z n listed a w → wpAny P md ops Q n listed a w
  | 0, _, _, _, h => h
  | n + 1, _, _, _, h => ⟨h.1, fun i hi => wpOp_mono (fun a' w' h' => wpAnyZ_any n _ a' w' h'.2) (h.2 i hi)⟩
/-- number z waits for number i -/
def waits (md : Region.Mode) (ops : Array Oper) (z i : Nat) : Bool := match ops[z]? with
  | some o => o.after.any fun e => Region.binds md e && e.on == i
  | none => true
theorem waits_ready {i : Nat} {listed : Array Bool} (h : waits md ops z i = true) (hi : listed.getD i false = false) : z ∉ Region.ready md ops listed := fun hm => by
  obtain ⟨-, o, ho, hall⟩ := mem_ready.1 hm
  unfold waits at h
  rw [ho] at h
  obtain ⟨k, hk, he⟩ := Array.any_eq_true.1 h
  simp at he
  have := hall (o.after[k]) (Array.getElem_mem hk) he.1
  rw [he.2, hi] at this
  cases this
theorem wpAnyZ_first {i : Nat} {oi : Oper} {v : Value} (hi : ops[i]? = some oi) (hsel : ∀ (j : Nat) (o : Oper) cs b, ops[j]? = some o → o.op ≠ .select cs b)
    (hQ : ∀ c a w, Q (.panic c) (a.put oi.dst v) w → Q (.panic c) a w) (hz : waits md ops z i = true) :
    ∀ (n : Nat) (listed : Array Bool) (a : Act) (w : World),
      (∀ j oj, ops[j]? = some oj → j ≠ i → listed.getD j true = false → (∀ e ∈ oj.after, Region.binds md e = true → e.on ≠ i) → oi.apart ops oj = true) →
      i ∈ Region.ready md ops listed → YieldsIf P ops S oi v a → S w →
      wpAnyZ P md ops Q S z n (listed.setIfInBounds i true) (a.put oi.dst v) w → wpAnyZ P md ops Q S z (n + 1) listed a w := by
  intro n
  induction n with
  | zero =>
    intro listed a w _ hr hy hS H
    refine ⟨fun h => (by rw [h] at hr; cases hr), fun j hj => ?_⟩
    by_cases e : j = i
    · subst e; exact hy.wpOp hi hS ⟨fun _ => hS, H⟩
    · have := ready_mono hj e
      rw [H.1] at this
      cases this
  | succ n ih =>
    intro listed a w hfree hr hy hS H
    have hun := (mem_ready.1 hr).1
    have hunf : listed.getD i false = false := by
      rcases Nat.lt_or_ge i listed.size with c | c
      · simp [c] at hun ⊢; exact hun
      · simp [c]
    refine ⟨fun h => (by rw [h] at hr; cases hr), fun j hj => ?_⟩
    by_cases e : j = i
    · subst e; exact hy.wpOp hi hS ⟨fun _ => hS, H⟩
    · have hjz : j ≠ z := fun c => waits_ready hz hunf (c ▸ hj)
      obtain ⟨hju, oj, hoj, hall⟩ := mem_ready.1 hj
      have hno : ∀ e ∈ oj.after, Region.binds md e = true → e.on ≠ i := fun e he hb c => by
        have := hall e he hb
        rw [c, hunf] at this
        cases this
      have h2 := wpOp_putIf hoj (hfree j oj hoj e hju hno) (fun cs b => hsel i oi cs b hi) (fun cs b => hsel j oj cs b hoj) hQ hy (H.2 j (ready_mono hj e))
      have hfree2 : ∀ k ok, ops[k]? = some ok → k ≠ i → (listed.setIfInBounds j true).getD k true = false → (∀ e ∈ ok.after, Region.binds md e = true → e.on ≠ i) → oi.apart ops ok = true := fun k ok hk hki hkj hnk => by
        by_cases c : j = k
        · subst c; exact hfree j ok hk hki hju hnk
        · exact hfree k ok hk hki (by rwa [getD_set_ne true c] at hkj) hnk
      refine wpOp_mono (fun a' w' h3 => ⟨h3.2.1, ih (listed.setIfInBounds j true) a' w' hfree2 (ready_mono hr (Ne.symm e)) h3.1 (h3.2.1 hjz) ?_⟩) h2
      rw [Array.setIfInBounds_comm _ _ e]
      exact h3.2.2
/-- take number i first -/
theorem wpAnyZ_take (i : Nat) {oi : Oper} {v : Value} {n : Nat} {listed : Array Bool} {a : Act} {w : World} (hi : ops[i]? = some oi)
    (hs : Region.noSelect ops = true) (hz : waits md ops z i = true) (hf : Region.free md ops listed i = true) (hr : (Region.ready md ops listed).contains i = true)
    (hQ : ∀ c a w, Q (.panic c) (a.put oi.dst v) w → Q (.panic c) a w) (hw : Region.wanted oi (yielded ops a.tmps) = true) (hy : ∀ w, S w → (execOp a.eval oi).run P w = .ok (.value v) w) (hS : S w)
    (h : wpAnyZ P md ops Q S z n (listed.setIfInBounds i true) (a.put oi.dst v) w) : wpAnyZ P md ops Q S z (n + 1) listed a w :=
  wpAnyZ_first hi (Region.noSelect_spec hs) hQ hz n listed a w (Region.free_spec hi hf) (by simpa using hr) (.inl ⟨hw, hy⟩) hS h
/-- only number i may come up -/
theorem wpAnyZ_one (i : Nat) {oi : Oper} {n : Nat} {listed : Array Bool} {a : Act} {w : World} (hi : ops[i]? = some oi) (hr : Region.ready md ops listed = [i])
    (h : ∀ K : Act → World → Prop, (∀ a' w', (i ≠ z → S w') → wpAnyZ P md ops Q S z n (listed.setIfInBounds i true) a' w' → K a' w') → if Region.wanted oi (yielded ops a.tmps) = true then Oper.wp P oi a w K Q else K (a.put oi.dst undef) w) : wpAnyZ P md ops Q S z (n + 1) listed a w := by
  refine ⟨fun c => absurd (hr.symm.trans c) (by simp), fun j hj => ?_⟩
  rw [hr] at hj
  simp at hj
  subst hj
  exact wpOp_step hi fun K hK => h K fun a' w' h1 h2 => hK a' w' ⟨h1, h2⟩
theorem wpAnyZ_done {listed : Array Bool} {a : Act} {w : World} (hr : Region.ready md ops listed = []) (h : Q .normal a w) : ∀ n, wpAnyZ P md ops Q S z n listed a w
  | 0 => ⟨hr, h⟩
  | _ + 1 => ⟨fun _ => h, by rw [hr]; simp⟩
theorem wp_region_late (S : World → Prop) (z : Nat) {id : Nat} {a : Act} {w : World} (hm : P.follows .mixedOrders = true)
    (h : wpAnyZ P .any ops Q S z ops.size (Array.replicate ops.size false) a w.drew) : (Code.region id ops true).wp P Q a w :=
  wp_region_any hm (wpAnyZ_any _ _ _ _ h)
end
end Go.Proofs.Ytmipmiaflompmab

/-
  OWN WORK. The document's disk: Copy.
-/
namespace Go.Proofs.Ytmipmiaflompmab
open Go.RowKit
set_option linter.unusedVariables false
set_option linter.unusedSimpArgs false

theorem imOf_log (np : Nat) (rows : List (List UInt8)) (l : List UInt8) : ({ imOf np rows [] with log := l } : IM) = imOf np rows l := rfl
set_option maxHeartbeats 3200000 in
theorem copy_any (g : Nat) (d : DS) (R : RDat) (w : World) (h : RD w g d R) (hcap : d.loose.length * 40 ≤ 140737488355328) :
    Calls Try.prog 47 #[.pointer (some ⟨g, 0, none⟩)] w fun e w' => ∃ g' R', e = .returned (.pointer (some ⟨g', 0, none⟩)) ∧ RD w' g' d.copy R' ∧ (∀ x ∈ R'.foot g', w.heap.size ≤ x) ∧ Kept [] w w' := by
  have hsm := imOf_small h.ok h.ok.row [] (by simp)
  have him := fun (w' : World) (kk : Kept [] w w') => images_any R.iv _ w' (h.kept kk (by simp)).see hsm.1 hsm.2
  obtain ⟨pl, cl, el, hbs⟩ := h.shapes
  have hll := h.ok.log
  have hlm := h.ok.lm
  rw [el] at hbs
  have hcp := copied_from _ _ hbs (by omega)
  have hb := h.blk
  have c0 := hb.cell (j := 0) rfl
  have c1 := hb.cell (j := 1) rfl
  have c2 := hb.cell (j := 2) rfl
  have c3 := hb.cell (j := 3) rfl
  have c4 := hb.cell (j := 4) rfl
  have c5 := hb.cell (j := 5) rfl
  have c6 := hb.cell (j := 6) rfl
  have c7 := hb.cell (j := 7) rfl
  have c9 := hb.cell (j := 9) rfl
  have c10 := hb.cell (j := 10) rfl
  rw [el] at c9
  obtain ⟨pp, cp, ep⟩ := own_shape2 h.row
  obtain ⟨p1, q1, e1⟩ := own_shape2 h.pairOwn
  obtain ⟨p3, q3, e3⟩ := own_shape2 h.m0Own
  obtain ⟨p4, q4, e4⟩ := own_shape2 h.m1Own
  obtain ⟨p2, q2, e2, -⟩ := h.vl
  unfold IV.agg RDat.iv at him
  simp only at him
  rw [ep, e1, e2, e3, e4] at him
  rw [ep] at c3
  rw [e1] at c4
  rw [e2] at c5
  rw [e3] at c6
  rw [e4] at c7
  generalize (d.rows.getD 0 []).length = n1 at him c4
  generalize (d.rows.getD (d.np + 1) []).length = n3 at him c6
  generalize (d.rows.getD (d.np + 2) []).length = n4 at him c7
  have HRD : Hid (RD w g d R) := h
  have HC : Hid (d.loose.length * 40 ≤ 140737488355328) := hcap
  clear hb ep e1 e2 e3 e4 hsm el hbs hll hlm hcap h
  go_enter Try.func47, Try.ntmps47
  go_upto_region 1 with fail
  go_cut [3] (fun s wx => ∃ (B : Nat) (V : IV) (vl : Value), s = .pointer (some ⟨B, 0, none⟩) ∧ RD wx B { d.copy with loose := [] } (freshV V vl) ∧ (∀ x ∈ (freshV V vl).foot B, w.heap.size ≤ x) ∧ Kept [] w wx)
  case first =>
    go_region_held3 (fun w' => w'.cell? ⟨g, 0, none⟩ = some (.int .i64 (d.np : Int)) ∧ w'.cell? ⟨g, 1, none⟩ = some (.int .i64 (d.ns : Int)) ∧ w'.cell? ⟨g, 2, none⟩ = some (.int .i64 (d.lm : Int)) ∧ w'.cell? ⟨g, 3, none⟩ = some (.slice pp d.np cp) ∧ w'.cell? ⟨g, 4, none⟩ = some (.slice p1 n1 q1) ∧ w'.cell? ⟨g, 5, none⟩ = some (.slice p2 0 q2) ∧ w'.cell? ⟨g, 6, none⟩ = some (.slice p3 n3 q3) ∧ w'.cell? ⟨g, 7, none⟩ = some (.slice p4 n4 q4) ∧ w'.cell? ⟨g, 9, none⟩ = some (.slice pl d.log.length cl) ∧ w'.cell? ⟨g, 10, none⟩ = some (.int .i64 (d.lasted : Int)))
      (first
        | (with_reducible exact ⟨c0, c1, c2, c3, c4, c5, c6, c7, c9, c10⟩)
        | (with_reducible exact ⟨kA.cell c0 (by simp), kA.cell c1 (by simp), kA.cell c2 (by simp), kA.cell c3 (by simp), kA.cell c4 (by simp), kA.cell c5 (by simp), kA.cell c6 (by simp), kA.cell c7 (by simp), kA.cell c9 (by simp), kA.cell c10 (by simp)⟩)
        | (with_reducible exact ⟨kB.cell c0 (by simp), kB.cell c1 (by simp), kB.cell c2 (by simp), kB.cell c3 (by simp), kB.cell c4 (by simp), kB.cell c5 (by simp), kB.cell c6 (by simp), kB.cell c7 (by simp), kB.cell c9 (by simp), kB.cell c10 (by simp)⟩)
        | (with_reducible exact ⟨(kA.alloc _).cell c0 (by simp), (kA.alloc _).cell c1 (by simp), (kA.alloc _).cell c2 (by simp), (kA.alloc _).cell c3 (by simp), (kA.alloc _).cell c4 (by simp), (kA.alloc _).cell c5 (by simp), (kA.alloc _).cell c6 (by simp), (kA.alloc _).cell c7 (by simp), (kA.alloc _).cell c9 (by simp), (kA.alloc _).cell c10 (by simp)⟩)
        | (with_reducible exact ⟨(kB.alloc _).cell c0 (by simp), (kB.alloc _).cell c1 (by simp), (kB.alloc _).cell c2 (by simp), (kB.alloc _).cell c3 (by simp), (kB.alloc _).cell c4 (by simp), (kB.alloc _).cell c5 (by simp), (kB.alloc _).cell c6 (by simp), (kB.alloc _).cell c7 (by simp), (kB.alloc _).cell c9 (by simp), (kB.alloc _).cell c10 (by simp)⟩)
        | go_keep)
      (first
        | (go_at_call 35; refine (him _ (by first | (with_reducible exact Kept.refl _ _) | (with_reducible exact (Kept.refl _ _).drew) | (with_reducible exact kB) | (with_reducible exact kB.drew))).mono ?_; clear him; rintro e wA ⟨V, rfl, hV, kA0⟩
           try (have kA : Kept [] w wA := ⟨kA0.os, kA0.tape, kA0.output, kA0.size, kA0.block⟩)
           try (have kA : Kept [] w wA := kB.then kA0)
           obtain ⟨vp, qv, pair, log, m0, m1⟩ := V
           obtain ⟨u0, v0, u1, v1, u2, v2, u3, v3, u4, v4, x0, x1, x2, x3, x4⟩ := hV.shapes
           simp only at x0 x1 x2 x3 x4
           subst x0 x1 x2 x3 x4
           try unfold IV.agg
           try dsimp only)
        | (go_at_call 42; refine (hcp _ (by first | (with_reducible exact Kept.refl _ _) | (with_reducible exact (Kept.refl _ _).drew) | (with_reducible exact kA) | (with_reducible exact kA.drew))).mono ?_; clear hcp; rintro e wB ⟨pB, cB, rfl, oB, kB, kB0⟩)
        | fail)
    have hV : OwnIm wA w.heap.size ⟨.slice u0 qv.length v0, qv, .slice u1 (imOf d.np d.rows []).pair.length v1, .slice u2 (imOf d.np d.rows []).log.length v2, .slice u3 (imOf d.np d.rows []).m0.length v3, .slice u4 (imOf d.np d.rows []).m1.length v4⟩ (imOf d.np d.rows []) := hV
    have hW := hV.newLog kA.size kB0 (by simp) (by simp) oB
    have hvl := own_nil_shape (hV.fam.own 0 (.slice u2 (imOf d.np d.rows []).log.length v2) [] rfl rfl)
    have kD := (Kept.refl [] wB).alloc (.cells #[.int .i64 (d.np : Int), .int .i64 (d.ns : Int), .int .i64 (d.lm : Int), .slice u0 qv.length v0, .slice u1 (imOf d.np d.rows []).pair.length v1, .slice u2 (imOf d.np d.rows []).log.length v2, .slice u3 (imOf d.np d.rows []).m0.length v3, .slice u4 (imOf d.np d.rows []).m1.length v4, .slice none 0 0, .slice pB d.log.length cB, .int .i64 (d.lasted : Int), .int .i64 0, .int .i64 0, .bool false] 78)
    have bD := Blk.new wB 78 [.int .i64 (d.np : Int), .int .i64 (d.ns : Int), .int .i64 (d.lm : Int), .slice u0 qv.length v0, .slice u1 (imOf d.np d.rows []).pair.length v1, .slice u2 (imOf d.np d.rows []).log.length v2, .slice u3 (imOf d.np d.rows []).m0.length v3, .slice u4 (imOf d.np d.rows []).m1.length v4, .slice none 0 0, .slice pB d.log.length cB, .int .i64 (d.lasted : Int), .int .i64 0, .int .i64 0, .bool false]
    obtain ⟨f1, f2⟩ := RD.make2 (d := { d.copy with loose := [] }) (g := wB.heap.size) (HRD.out.ok.front 0) (hW.kept0 kD) rfl hvl bD kB.size
    have kZ := kB.then kD
    clear hV hW bD kD hvl oB c0 c1 c2 c3 c4 c5 c6 c7 c9 c10 kA kB kB0 kA0
    go_step
    go_step
    go_meet
    exact ⟨_, _, _, rfl, f1, f2, kZ⟩
  case rest =>
    clear him hcp c0 c1 c2 c3 c4 c5 c6 c7 c9 c10
    obtain ⟨B, V, vl, rfl, rdc, hfoot, kc⟩ := hcut
    have ST : Hid (RD wc B { d.copy with loose := [] } (freshV V vl) ∧ (∀ x ∈ (freshV V vl).foot B, w.heap.size ≤ x) ∧ Kept [] w wc) := ⟨rdc, hfoot, kc⟩
    clear rdc hfoot kc
    go_wp2_with fail
    go_loopw [4] (fun i wr => ∃ (k : Nat) (R' : RDat), k ≤ d.loose.length ∧ i = .int .i64 k ∧ RD wr B { d.copy with loose := d.loose.take k } R' ∧ (∀ x ∈ R'.foot B, w.heap.size ≤ x) ∧ Kept [] w wr) (fun i _ => d.loose.length - (intOf i).toNat)
    case atStart => exact ⟨0, _, Nat.zero_le _, rfl, ST.out.1, ST.out.2.1, ST.out.2.2⟩
    case round =>
      clear ST
      obtain ⟨k, R', hk, rfl, rd', hfoot, kr⟩ := hrel
      have hrd := HRD.out.kept kr (by simp)
      have c8 := hrd.blk.cell (j := 8) rfl
      obtain ⟨pz0, cz0, ez0, hz1, hz2⟩ := hrd.loose.shape
      rw [ez0] at c8
      by_cases hlt : k < d.loose.length
      · obtain ⟨lbk, cc, pl, nu, bp, bc, ix, b, e1, d0, d1, d2, hx, hy, hix, hob, hk2⟩ := hrd.looseAt2 hlt
        rw [ez0] at e1
        cases e1
        have hlt' : (k : Int) < (d.loose.length : Int) := by omega
        have wk : IntKind.i64.wrap ((k : Int) + 1) = (k : Int) + 1 := wrap_i64_of (by omega) (by unfold maxLen at hz2; omega)
        obtain ⟨wa, hwa⟩ : ∃ wa, wa = wr.alloc (.cells #[.int .i64 pl, .int .i64 nu, .slice bp b.length bc] 89) := ⟨_, rfl⟩
        have ka : Kept [] wr wa := by rw [hwa]; exact (Kept.refl [] wr).alloc _
        have bx : Blk wa wr.heap.size 89 [.int .i64 pl, .int .i64 nu, .slice bp b.length bc] := by rw [hwa]; exact Blk.new wr _ _
        have i0 := bx.cell (j := 0) rfl
        have i1 := bx.cell (j := 1) rfl
        have i2 := bx.cell (j := 2) rfl
        have H2 : Hid (RD wa B { d.copy with loose := d.loose.take k } R') := rd'.kept ka (by simp)
        have b8 := H2.out.blk.cell (j := 8) rfl
        obtain ⟨pz, cz, ez, -, -⟩ := H2.out.loose.shape
        have hlen : ({ d.copy with loose := d.loose.take k } : DS).loose.length = k := by show (d.loose.take k).length = k; simp; omega
        rw [hlen] at ez
        rw [ez] at b8
        have EZ : Hid (R'.vloose = .slice pz k cz) := ez
        have HLL : Hid (k = ({ d.copy with loose := d.loose.take k } : DS).loose.length) := hlen.symm
        have hns := HRD.out.ok.ns
        have hcc := copied_from _ _ ((Bs.ofOwn hob).kept ka) (by have := sizeK_le d.np d.ns ix hns.2; omega)
        obtain ⟨inf, hin1, hin2, hin3, hin4⟩ := info_parts3 (show (Try.prog.info? 89).map (fun i => (i.zero, i.size, i.bytes)) = some (some (.agg #[.int .i64 0, .int .i64 0, .slice none 0 0]), 3, 40) by kernel_rfl)
        have HI : Hid (Try.prog.info? 89 = some inf ∧ inf.zero = some (.agg #[.int .i64 0, .int .i64 0, .slice none 0 0]) ∧ inf.size = 3 ∧ inf.bytes = 40) := ⟨hin1, hin2, hin3, hin4⟩
        have HRW : Hid (Row wa 0 3 (.slice pz k cz) k (lcells R'.lv)) := (show Row wa 0 3 (.slice pz k cz) k (lcells R'.lv) by have := H2.out.loose; rw [ez, hlen] at this; exact this)
        have ngl : B ∉ (Value.slice pz k cz).ownBlock.toList := fun hm => (H2.out.apart B (by rw [ez]; simpa using hm)).1 rfl
        have ngw : wr.heap.size ∉ (Value.slice pz k cz).ownBlock.toList := fun hm => by
          have := (rd'.loose.lt wr.heap.size (by rw [ez]; simpa using hm)).2
          omega
        have HIX : Hid (idxOf d.np pl nu = some ix ∧ b.length = sizeK d.np d.ns ix ∧ d.loose[k]? = some (ix, b)) := ⟨hix, hk2, hx⟩
        have HK : Hid (k + 1 ≤ d.loose.length) := (show k + 1 ≤ d.loose.length by omega)
        have KR : Hid (Kept [] w wr ∧ Kept [] wr wa) := ⟨kr, ka⟩
        have HF : Hid (∀ x ∈ R'.foot B, w.heap.size ≤ x) := hfoot
        have HWA : Hid (wa = wr.alloc (.cells #[.int .i64 pl, .int .i64 nu, .slice bp b.length bc] 89)) := hwa
        clear hin1 hin2 hin3 hin4 hwa bx rd' hfoot kr hrd ez0 hz1 hz2 hx hy hix hob hk2 ka ez hlen hns
        go_upto_region 6 with fail
        rw [← HWA.out]
        refine wp_region_late (fun w' => w'.cell? ⟨B, 8, none⟩ = some (.slice pz k cz) ∧ w'.cell? ⟨wr.heap.size, 0, none⟩ = some (.int .i64 pl) ∧ w'.cell? ⟨wr.heap.size, 1, none⟩ = some (.int .i64 nu) ∧ w'.cell? ⟨wr.heap.size, 2, none⟩ = some (.slice bp b.length bc)) 17 (by kernel_rfl) ?_
        have hS : (wa.drew.cell? ⟨B, 8, none⟩ = some (.slice pz k cz) ∧ wa.drew.cell? ⟨wr.heap.size, 0, none⟩ = some (.int .i64 pl) ∧ wa.drew.cell? ⟨wr.heap.size, 1, none⟩ = some (.int .i64 nu) ∧ wa.drew.cell? ⟨wr.heap.size, 2, none⟩ = some (.slice bp b.length bc)) := ⟨b8, i0, i1, i2⟩
        refine wpAnyZ_take 0 (v := ?v0) rfl (by kernel_rfl) (by kernel_rfl) (by kernel_rfl) (by kernel_rfl) (fun _ _ _ h => h) (by rfl) ?hy0 hS ?rest0
        case hy0 => (intro wx hSx; (try dsimp only at hSx); go_simp; (try with_reducible rfl))
        (try simp only [Act.put, List.setIfInBounds_toArray, List.set_cons_zero, List.set_cons_succ])
        refine wpAnyZ_take 1 (v := ?v1) rfl (by kernel_rfl) (by kernel_rfl) (by kernel_rfl) (by kernel_rfl) (fun _ _ _ h => h) (by rfl) ?hy1 hS ?rest1
        case hy1 => (intro wx hSx; (try dsimp only at hSx); go_simp; (try with_reducible rfl))
        (try simp only [Act.put, List.setIfInBounds_toArray, List.set_cons_zero, List.set_cons_succ])
        refine wpAnyZ_take 2 (v := ?v2) rfl (by kernel_rfl) (by kernel_rfl) (by kernel_rfl) (by kernel_rfl) (fun _ _ _ h => h) (by rfl) ?hy2 hS ?rest2
        case hy2 => (intro wx hSx; (try dsimp only at hSx); go_simp; (try with_reducible rfl))
        (try simp only [Act.put, List.setIfInBounds_toArray, List.set_cons_zero, List.set_cons_succ])
        refine wpAnyZ_take 3 (v := ?v3) rfl (by kernel_rfl) (by kernel_rfl) (by kernel_rfl) (by kernel_rfl) (fun _ _ _ h => h) (by rfl) ?hy3 hS ?rest3
        case hy3 => (intro wx hSx; (try dsimp only at hSx); go_simp; (try with_reducible rfl))
        (try simp only [Act.put, List.setIfInBounds_toArray, List.set_cons_zero, List.set_cons_succ])
        refine wpAnyZ_take 4 (v := ?v4) rfl (by kernel_rfl) (by kernel_rfl) (by kernel_rfl) (by kernel_rfl) (fun _ _ _ h => h) (by rfl) ?hy4 hS ?rest4
        case hy4 => (intro wx hSx; (try dsimp only at hSx); go_simp; (try with_reducible rfl))
        (try simp only [Act.put, List.setIfInBounds_toArray, List.set_cons_zero, List.set_cons_succ])
        refine wpAnyZ_take 5 (v := ?v5) rfl (by kernel_rfl) (by kernel_rfl) (by kernel_rfl) (by kernel_rfl) (fun _ _ _ h => h) (by rfl) ?hy5 hS ?rest5
        case hy5 => (intro wx hSx; (try dsimp only at hSx); go_simp; (try with_reducible rfl))
        (try simp only [Act.put, List.setIfInBounds_toArray, List.set_cons_zero, List.set_cons_succ])
        refine wpAnyZ_take 6 (v := ?v6) rfl (by kernel_rfl) (by kernel_rfl) (by kernel_rfl) (by kernel_rfl) (fun _ _ _ h => h) (by rfl) ?hy6 hS ?rest6
        case hy6 => (intro wx hSx; (try dsimp only at hSx); go_simp; (try with_reducible rfl))
        (try simp only [Act.put, List.setIfInBounds_toArray, List.set_cons_zero, List.set_cons_succ])
        refine wpAnyZ_take 7 (v := ?v7) rfl (by kernel_rfl) (by kernel_rfl) (by kernel_rfl) (by kernel_rfl) (fun _ _ _ h => h) (by rfl) ?hy7 hS ?rest7
        case hy7 => (intro wx hSx; (try dsimp only at hSx); go_simp; (try with_reducible rfl))
        (try simp only [Act.put, List.setIfInBounds_toArray, List.set_cons_zero, List.set_cons_succ])
        refine wpAnyZ_take 8 (v := ?v8) rfl (by kernel_rfl) (by kernel_rfl) (by kernel_rfl) (by kernel_rfl) (fun _ _ _ h => h) (by rfl) ?hy8 hS ?rest8
        case hy8 => (intro wx hSx; (try dsimp only at hSx); go_simp; (try with_reducible rfl))
        (try simp only [Act.put, List.setIfInBounds_toArray, List.set_cons_zero, List.set_cons_succ])
        refine wpAnyZ_take 9 (v := ?v9) rfl (by kernel_rfl) (by kernel_rfl) (by kernel_rfl) (by kernel_rfl) (fun _ _ _ h => h) (by rfl) ?hy9 hS ?rest9
        case hy9 => (intro wx hSx; (try dsimp only at hSx); go_simp; (try with_reducible rfl))
        (try simp only [Act.put, List.setIfInBounds_toArray, List.set_cons_zero, List.set_cons_succ])
        refine wpAnyZ_take 10 (v := ?v10) rfl (by kernel_rfl) (by kernel_rfl) (by kernel_rfl) (by kernel_rfl) (fun _ _ _ h => h) (by rfl) ?hy10 hS ?rest10
        case hy10 => (intro wx hSx; (try dsimp only at hSx); go_simp; (try with_reducible rfl))
        (try simp only [Act.put, List.setIfInBounds_toArray, List.set_cons_zero, List.set_cons_succ])
        refine wpAnyZ_one 11 rfl (by kernel_rfl) (fun K hK => ?_)
        go_simp
        refine (hcc _ (by exact (Kept.refl [] wa).drew)).mono ?_
        rintro e w3 ⟨p3, c3, rfl, o3, kA, k3⟩
        dsimp only
        have hS3 : (w3.cell? ⟨B, 8, none⟩ = some (.slice pz k cz) ∧ w3.cell? ⟨wr.heap.size, 0, none⟩ = some (.int .i64 pl) ∧ w3.cell? ⟨wr.heap.size, 1, none⟩ = some (.int .i64 nu) ∧ w3.cell? ⟨wr.heap.size, 2, none⟩ = some (.slice bp b.length bc)) := ⟨kA.cell b8 (by simp), kA.cell i0 (by simp), kA.cell i1 (by simp), kA.cell i2 (by simp)⟩
        refine hK _ _ (fun _ => hS3) ?_
        clear hK K hS
        refine wpAnyZ_take 12 (v := ?v12) rfl (by kernel_rfl) (by kernel_rfl) (by kernel_rfl) (by kernel_rfl) (fun _ _ _ h => h) (by rfl) ?hy12 hS3 ?rest12
        case hy12 => (intro wx hSx; (try dsimp only at hSx); go_simp; (try with_reducible rfl))
        (try simp only [Act.put, List.setIfInBounds_toArray, List.set_cons_zero, List.set_cons_succ])
        refine wpAnyZ_one 13 rfl (by kernel_rfl) (fun K hK => ?_)
        have k4 := (Kept.refl [] w3).alloc (.cells #[.int .i64 pl, .int .i64 nu, .slice p3 b.length c3] 89)
        have hS4 : ((w3.alloc (.cells #[.int .i64 pl, .int .i64 nu, .slice p3 b.length c3] 89)).cell? ⟨B, 8, none⟩ = some (.slice pz k cz) ∧ (w3.alloc (.cells #[.int .i64 pl, .int .i64 nu, .slice p3 b.length c3] 89)).cell? ⟨wr.heap.size, 0, none⟩ = some (.int .i64 pl) ∧ (w3.alloc (.cells #[.int .i64 pl, .int .i64 nu, .slice p3 b.length c3] 89)).cell? ⟨wr.heap.size, 1, none⟩ = some (.int .i64 nu) ∧ (w3.alloc (.cells #[.int .i64 pl, .int .i64 nu, .slice p3 b.length c3] 89)).cell? ⟨wr.heap.size, 2, none⟩ = some (.slice bp b.length bc)) := ⟨k4.cell hS3.1 (by simp), k4.cell hS3.2.1 (by simp), k4.cell hS3.2.2.1 (by simp), k4.cell hS3.2.2.2 (by simp)⟩
        go_simp
        refine hK _ _ (fun _ => hS4) ?_
        clear hK K
        refine wpAnyZ_one 14 rfl (by kernel_rfl) (fun K hK => ?_)
        refine step_append_row (by rfl) (.tmp 46) (.tmp 55) 76 (by rfl) 0 89 inf (.agg #[.int .i64 0, .int .i64 0, .slice none 0 0]) 3 40 Try.underlying76 HI.out.1 HI.out.2.1 HI.out.2.2.1 HI.out.2.2.2 rfl _ _ _ (by rfl) (by exact (HRW.out.kept kA (by simp)).kept ((Kept.refl [] w3).alloc _) (by simp)) _ 1 [.int .i64 pl, .int .i64 nu, .slice p3 b.length c3] (by rfl) (by exact src_write w3 _ _ Try.underlying76 pl nu p3 b.length c3) (by have := HC.out; have := HK.out; omega) (by have := HC.out; have := HK.out; unfold maxLen; omega) (by have := HC.out; have := HK.out; omega) (Nat.zero_le _) ?_
        intro v5 w5 r5 k5 at5
        obtain ⟨p5, c5, rfl, -, -⟩ := r5.shape
        have kE : Kept (Value.slice pz k cz).ownBlock.toList wa w5 := ((kA.alloc (.cells #[.int .i64 pl, .int .i64 nu, .slice p3 b.length c3] 89)).mono (by simp)).trans k5 (by intro x hx; exact .inl hx)
        have b5 := H2.out.blk.kept kE ngl
        have e0 := kE.cell b8 ngl
        have y0 := b5.free 8
        have hS5 : (w5.cell? ⟨B, 8, none⟩ = some (.slice pz k cz) ∧ w5.cell? ⟨wr.heap.size, 0, none⟩ = some (.int .i64 pl) ∧ w5.cell? ⟨wr.heap.size, 1, none⟩ = some (.int .i64 nu) ∧ w5.cell? ⟨wr.heap.size, 2, none⟩ = some (.slice bp b.length bc)) := ⟨e0, kE.cell i0 ngw, kE.cell i1 ngw, kE.cell i2 ngw⟩
        refine hK _ _ (fun _ => hS5) ?_
        clear hK K
        (try simp only [Act.put, List.setIfInBounds_toArray, List.set_cons_zero, List.set_cons_succ])
        refine wpAnyZ_one 15 rfl (by kernel_rfl) (fun K hK => ?_)
        go_simp
        refine hK _ _ (fun _ => hS5) ?_
        clear hK K
        refine wpAnyZ_one 16 rfl (by kernel_rfl) (fun K hK => ?_)
        go_simp
        refine hK _ _ (fun _ => hS5) ?_
        clear hK K
        refine wpAnyZ_one 17 rfl (by kernel_rfl) (fun K hK => ?_)
        go_simp
        refine hK _ _ (fun h => absurd rfl h) ?_
        clear hK K
        refine wpAnyZ_done (by kernel_rfl) ?_ _
        have o3 : w3.ownsRow wa.heap.size 5 1 (.slice p3 b.length c3) b.length (u8s b) := o3
        obtain ⟨f1, f2, f3⟩ := looseEnd H2.out EZ.out HLL.out HIX.out.1 HIX.out.2.1 o3 kA r5 k5 at5
        have F1 : Hid (RD (w5.setCell ⟨B, 8, none⟩ (.slice p5 (k + 1) c5)) B { d.copy with loose := d.loose.take (k + 1) } (R'.more (.slice p5 (k + 1) c5) pl nu (.slice p3 b.length c3))) := (by rw [← copy_next HIX.out.2.2]; exact f1)
        have F2 : Hid (Kept [] w (w5.setCell ⟨B, 8, none⟩ (.slice p5 (k + 1) c5))) := (KR.out.1.then KR.out.2).trans f2 (fun x hx => .inr (HF.out x (by rcases List.mem_cons.1 hx with e | e; (simp [RDat.foot, e]); (unfold RDat.foot; exact List.mem_cons_of_mem _ (List.mem_append_left _ (List.mem_append_right _ e))))))
        have F3 : Hid (∀ x ∈ (R'.more (.slice p5 (k + 1) c5) pl nu (.slice p3 b.length c3)).foot B, w.heap.size ≤ x) := (fun x hx => by have := (KR.out.1.then KR.out.2).size; rcases f3 x hx with c | c; exact HF.out x c; omega)
        clear f1 f2 f3 hcc c8 b8 d0 d1 d2 i0 i1 i2 b5 e0 y0 kE r5 k5 at5 o3 hS3 hS4 hS5 k4 kA k3
        go_wp2
        go_roundw
        case rel => exact ⟨k + 1, _, HK.out, by go_num, F1.out, F3.out, F2.out⟩
        case measure => simp [intOf]; omega
      · obtain rfl : k = d.loose.length := by omega
        rw [List.take_length] at rd'
        have RDX : Hid (RD wr B d.copy R') := rd'
        clear rd' hz1 hz2 ez0 hrd
        go_wp2
        go_ret
        exact ⟨_, _, rfl, RDX.out, hfoot, kr⟩
end Go.Proofs.Ytmipmiaflompmab

/-
  OWN WORK. The document's disk: Crash.
-/
namespace Go.Proofs.Ytmipmiaflompmab
open Go.RowKit
set_option linter.unusedVariables false

/-- THE VALUE v IS A SLICE OF THESE INTEGERS IN w. -/
def Is (w : World) (v : Value) (l : List Int) : Prop :=
  ∃ (p : Option Addr) (c : Nat), v = .slice p l.length c ∧ l.length ≤ c ∧ c ≤ maxLen ∧ (p = none → c = 0) ∧ (∀ x ∈ l, IntKind.i64.wrap x = x) ∧ ∀ a, p = some a → ∀ (i : Nat) x, l[i]? = some x → w.cell? (a.add i) = some (.int .i64 x)
theorem Is.keptOwn {w w' : World} {v : Value} {l : List Int} {S : List Nat} (h : Is w v l) (k : Kept S w w') (hS : ∀ x, v.ownBlock = some x → x ∉ S) : Is w' v l := by
  obtain ⟨p, c, rfl, h1, h2, h3, h5, h4⟩ := h
  refine ⟨p, c, rfl, h1, h2, h3, h5, fun a e i x hx => k.cell (h4 a e i x hx) fun hm => ?_⟩
  subst e
  rw [add_block] at hm
  exact hS a.block (by simp [Value.ownBlock]) hm
theorem Is.kept {w w' : World} {v : Value} {l : List Int} (h : Is w v l) (k : Kept [] w w') : Is w' v l := h.keptOwn k (by simp)
theorem Is.wrap {w : World} {v : Value} {l : List Int} (h : Is w v l) {x : Int} (hx : x ∈ l) : IntKind.i64.wrap x = x := by
  obtain ⟨p, c, -, -, -, -, h5, -⟩ := h
  exact h5 x hx
theorem Is.pos {w : World} {v : Value} {l : List Int} (h : Is w v l) (hl : 0 < l.length) :
    ∃ b o c, v = .slice (some ⟨b, o, none⟩) l.length c ∧ b < w.heap.size ∧ ∀ (i : Nat) x, l[i]? = some x → w.cell? ⟨b, o + i, none⟩ = some (.int .i64 x) := by
  obtain ⟨p, c, rfl, h1, h2, h3, h5, h4⟩ := h
  cases p with
  | none => have := h3 rfl; omega
  | some a =>
    have hc := h4 a rfl 0 l[0] (List.getElem?_eq_getElem hl)
    have hs := spot_of_cell hc
    have hs' : a.spot = none := by
      unfold Addr.add at hs
      split at hs <;> simp_all
    have hb := lt_of_cell hc
    rw [add_block] at hb
    refine ⟨a.block, a.off, c, by obtain ⟨b, o, s⟩ := a; simp_all, hb, fun i x hx => ?_⟩
    have := h4 a rfl i x hx
    rw [add_none hs'] at this
    exact this
theorem crash_take {keep : List Int} {rows : List (List UInt8)} {xs : List (Nat × List UInt8)} {i : Nat} {x : Nat × List UInt8} (h : xs[i]? = some x) : crashRows keep (xs.take (i + 1)) 0 rows = crashLay (crashRows keep (xs.take i) 0 rows) x (keepAt keep i) := by
  obtain ⟨hi, rfl⟩ := List.getElem?_eq_some_iff.1 h
  rw [← List.take_append_getElem hi, crashRows_snoc]
  congr 2
  simp; omega
/-- the same image with another log of its own -/
theorem OwnIm.swapLog {w : World} {base : Nat} {V : IV} {m : IM} {v : Value} {l : List UInt8} (h : OwnIm w base V m) (ho : w.ownsRow base 5 1 v l.length (u8s l)) (hap : ∀ x, v.ownBlock = some x → x ∉ blocks (V.pair :: (V.pv ++ [V.m0, V.m1]))) : OwnIm w base { V with log := v } { m with log := l } := by
  obtain ⟨h1, h2, h3⟩ := Fam.iff.1 h.fam
  refine ⟨Fam.iff.2 ⟨by simpa [IV.rows, IM.all] using h1, fun z hz => ?_, ?_⟩, h.row, h.len⟩
  · have hz' : z ∈ (v, l) :: (V.pair :: (V.pv ++ [V.m0, V.m1])).zip (m.pair :: (m.ps ++ [m.m0, m.m1])) := hz
    rcases List.mem_cons.1 hz' with e | e
    · subst e; exact ho
    · exact h2 z (List.mem_cons_of_mem _ e)
  · have h3' : (V.log :: (V.pair :: (V.pv ++ [V.m0, V.m1]))).Pairwise (fun u v => ∀ x, u.ownBlock = some x → v.ownBlock ≠ some x) := h3
    show (v :: (V.pair :: (V.pv ++ [V.m0, V.m1]))).Pairwise _
    refine List.pairwise_cons.2 ⟨fun u hu x hx hux => hap x hx (List.mem_filterMap.2 ⟨u, hu, hux⟩), (List.pairwise_cons.1 h3').2⟩
end Go.Proofs.Ytmipmiaflompmab

/-
  OWN WORK. The document's disk: Crash, the walk.
-/
namespace Go.Proofs.Ytmipmiaflompmab
open Go.RowKit
set_option linter.unusedVariables false

theorem imOf_log2 (np : Nat) (rows : List (List UInt8)) (a l : List UInt8) : ({ imOf np rows a with log := l } : IM) = imOf np rows l := rfl
set_option maxHeartbeats 3200000 in
theorem crash_any (g : Nat) (d : DS) (R : RDat) (c : Int) (vk : Value) (keep : List Int) (w : World) (h : RD w g d R) (hk : Is w vk keep) :
    Calls Try.prog 15 #[.pointer (some ⟨g, 0, none⟩), .agg #[.int .i64 c, vk]] w fun e w' => ∃ g' R', e = .returned (.pointer (some ⟨g', 0, none⟩)) ∧ RD w' g' (d.crash c keep) R' ∧ (∀ x ∈ R'.foot g', w.heap.size ≤ x) ∧ Kept [] w w' := by
  obtain ⟨pk, ck, rfl, hk1, hk2, hk3, -, hk4⟩ := id hk
  have HKP : Hid (Is w (.slice pk keep.length ck) keep) := hk
  obtain ⟨w0, hw0⟩ : ∃ w0, w0 = w.alloc (.cells #[.int .i64 c, .slice pk keep.length ck] 50) := ⟨_, rfl⟩
  have k0 : Kept [] w w0 := by rw [hw0]; exact (Kept.refl [] w).alloc _
  have s0 : w0.heap.size = w.heap.size + 1 := by rw [hw0]; simp
  have bC : Blk w0 w.heap.size 50 [.int .i64 c, .slice pk keep.length ck] := by rw [hw0]; exact Blk.new w _ _
  have h0 := h.kept k0 (by simp)
  have hla := lasts_any g d R w0 h0
  rw [hw0] at hla
  have HW0 : Hid (w0 = w.alloc (.cells #[.int .i64 c, .slice pk keep.length ck] 50)) := hw0
  have H0 : Hid (RD w0 g d R) := h0
  have HK0 : Hid (Kept [] w w0 ∧ w0.heap.size = w.heap.size + 1 ∧ Blk w0 w.heap.size 50 [.int .i64 c, .slice pk keep.length ck]) := ⟨k0, s0, bC⟩
  have HOK : Hid d.Ok := h.ok
  have HLT : Hid (∀ x ∈ R.foot g, x < w.heap.size) := fun x hx => h.lt hx
  clear h h0 hw0 k0 s0 bC hk hk1 hk2 hk3 hk4
  go_enter Try.func15, Try.ntmps15
  go_wp2_with fail
  refine hla.mono ?_
  clear hla
  rintro e w2 ⟨V, rfl, hV0, k2⟩
  rw [← HW0.out] at k2
  have S02 : Hid (w0.heap.size ≤ w2.heap.size) := k2.size
  have hV : OwnIm w2 w0.heap.size V d.lasts := by rw [HW0.out]; exact hV0
  clear hV0
  have H2 : Hid (RD w2 g d R) := H0.out.kept k2 (by simp)
  obtain ⟨vp, pv, pair, log, m0, m1⟩ := V
  obtain ⟨u0, v0, u1, v1, u2, v2, u3, v3, u4, v4, x0, x1, x2, x3, x4⟩ := hV.shapes
  simp only at x0 x1 x2 x3 x4
  subst x0 x1 x2 x3 x4
  obtain ⟨lp, hlp⟩ : ∃ n, n = d.lasts.pair.length := ⟨_, rfl⟩
  obtain ⟨la, hla⟩ : ∃ n, n = d.lasts.m0.length := ⟨_, rfl⟩
  obtain ⟨lb, hlb⟩ : ∃ n, n = d.lasts.m1.length := ⟨_, rfl⟩
  obtain ⟨lg, hlg⟩ : ∃ n, n = d.lasts.log.length := ⟨_, rfl⟩
  rw [← hlp, ← hla, ← hlb, ← hlg] at hV
  unfold IV.agg
  dsimp only
  rw [← hlp, ← hla, ← hlb, ← hlg]
  have HV : Hid (OwnIm w2 w0.heap.size ⟨.slice u0 pv.length v0, pv, .slice u1 lp v1, .slice u2 lg v2, .slice u3 la v3, .slice u4 lb v4⟩ d.lasts) := hV
  obtain ⟨w3, hw3⟩ : ∃ w3, w3 = w2.alloc (.cells #[.slice u0 pv.length v0, .slice u1 lp v1, .slice u2 lg v2, .slice u3 la v3, .slice u4 lb v4] 28) := ⟨_, rfl⟩
  obtain ⟨w4, hw4⟩ : ∃ w4, w4 = w3.alloc (.cells #[.int .i64 (d.np : Int), .int .i64 (d.ns : Int), .int .i64 (d.lm : Int), .slice none 0 0, .slice none 0 0, .slice none 0 0, .slice none 0 0, .slice none 0 0, .slice none 0 0, .slice none 0 0, .int .i64 0, .int .i64 0, .int .i64 0, .bool false] 78) := ⟨_, rfl⟩
  have k3 : Kept [] w2 w3 := by rw [hw3]; exact (Kept.refl [] w2).alloc _
  have k4 : Kept [] w3 w4 := by rw [hw4]; exact (Kept.refl [] w3).alloc _
  have b3 : Blk w3 w2.heap.size 28 [.slice u0 pv.length v0, .slice u1 lp v1, .slice u2 lg v2, .slice u3 la v3, .slice u4 lb v4] := by rw [hw3]; exact Blk.new w2 _ _
  have s3 : w3.heap.size = w2.heap.size + 1 := by rw [hw3]; simp
  have b4 : Blk w4 (w2.heap.size + 1) 78 [.int .i64 (d.np : Int), .int .i64 (d.ns : Int), .int .i64 (d.lm : Int), .slice none 0 0, .slice none 0 0, .slice none 0 0, .slice none 0 0, .slice none 0 0, .slice none 0 0, .slice none 0 0, .int .i64 0, .int .i64 0, .int .i64 0, .bool false] := by rw [hw4, ← s3]; exact Blk.new w3 _ _
  have hrd3 := H2.out.kept k3 (by simp)
  have hrd := hrd3.kept k4 (by simp)
  have c0 := hrd3.blk.cell (j := 0) rfl
  have c1 := hrd3.blk.cell (j := 1) rfl
  have c2 := hrd3.blk.cell (j := 2) rfl
  have c9 := hrd.blk.cell (j := 9) rfl
  have c10 := hrd.blk.cell (j := 10) rfl
  have bC := ((HK0.out.2.2.kept k2 (by simp)).kept k3 (by simp)).kept k4 (by simp)
  have q0 := bC.cell (j := 0) rfl
  have n10 := b4.cell (j := 10) rfl
  have y10 := b4.free 10
  obtain ⟨pl, cl, el, hbs⟩ := hrd.shapes
  rw [el] at c9 hbs
  have hll := HOK.out.log
  have hlt := HOK.out.lasted
  have hlm := HOK.out.lm
  obtain ⟨q, hq⟩ : ∃ q, q = d.log.length - d.lasted := ⟨_, rfl⟩
  have e1 : IntKind.i64.wrap ((d.log.length : Int) - (d.lasted : Int)) = (q : Int) := by rw [show ((d.log.length : Int) - (d.lasted : Int)) = (q : Int) by omega]; exact wrap_i64_of (by omega) (by omega)
  have e2 : IntKind.i64.wrap ((q : Int) + 1) = (q : Int) + 1 := wrap_i64_of (by omega) (by omega)
  have hre := fun w' => rest_any c (q + 1) w' (by omega) (by omega)
  simp only [show (((q + 1 : Nat) : Int)) = (q : Int) + 1 by omega] at hre
  have hr1 := restN_lt c q
  obtain ⟨L, hL⟩ : ∃ L, L = crashLog d c := ⟨_, rfl⟩
  have eL : L = d.lasted + restN c (q + 1) := by rw [hL, hq]; rfl
  obtain ⟨rr, hrr⟩ : ∃ rr, rr = restN c (q + 1) := ⟨_, rfl⟩
  rw [← hrr] at hre hr1 eL
  have e3 : IntKind.i64.wrap ((d.lasted : Int) + (rr : Int)) = (L : Int) := by rw [show (d.lasted : Int) + (rr : Int) = (L : Int) by omega]; exact wrap_i64_of (by omega) (by omega)
  have HL : Hid (L ≤ d.log.length ∧ L = crashLog d c ∧ d.log.length ≤ 65536) := ⟨by omega, hL, by omega⟩
  have HW3 : Hid (w3 = w2.alloc (.cells #[.slice u0 pv.length v0, .slice u1 lp v1, .slice u2 lg v2, .slice u3 la v3, .slice u4 lb v4] 28)) := hw3
  have HW4 : Hid (w4 = w3.alloc (.cells #[.int .i64 (d.np : Int), .int .i64 (d.ns : Int), .int .i64 (d.lm : Int), .slice none 0 0, .slice none 0 0, .slice none 0 0, .slice none 0 0, .slice none 0 0, .slice none 0 0, .slice none 0 0, .int .i64 0, .int .i64 0, .int .i64 0, .bool false] 78)) := hw4
  have HB4 : Hid (Blk w4 (w2.heap.size + 1) 78 [.int .i64 (d.np : Int), .int .i64 (d.ns : Int), .int .i64 (d.lm : Int), .slice none 0 0, .slice none 0 0, .slice none 0 0, .slice none 0 0, .slice none 0 0, .slice none 0 0, .slice none 0 0, .int .i64 0, .int .i64 0, .int .i64 0, .bool false]) := b4
  have HB3 : Hid (Blk w4 w2.heap.size 28 [.slice u0 pv.length v0, .slice u1 lp v1, .slice u2 lg v2, .slice u3 la v3, .slice u4 lb v4]) := b3.kept k4 (by simp)
  have HBC : Hid (Blk w4 w.heap.size 50 [.int .i64 c, .slice pk keep.length ck]) := bC
  have HRD : Hid (RD w4 g d R) := hrd
  have HKK : Hid (Kept [] w w2 ∧ Kept [] w2 w3 ∧ Kept [] w3 w4) := ⟨HK0.out.1.then k2, k3, k4⟩
  have S3 : Hid (w3.heap.size = w2.heap.size + 1) := s3
  have ngB : ¬ g = w2.heap.size + 1 := by have := hrd3.blk.lt; omega
  have ncB : ¬ w.heap.size = w2.heap.size + 1 := by have := (HK0.out.1.then k2).size; have := S3.out; have := HK0.out.2.1; omega
  rw [hw3] at c0 c1 c2
  clear s3 k2 hV hlp hla hlb hlg hw3 hw4 k3 k4 b3 b4 hrd3 hrd bC el hll hlt hlm hq hL eL hrr hr1
  go_wp2_with fail
  rw [← HW3.out, ← HW4.out]
  obtain ⟨b5, k5⟩ := HB4.out.set 10 (.int .i64 (L : Int))
  have z9 := k5.cell c9 (by simpa using ngB)
  have z10 := k5.cell c10 (by simpa using ngB)
  have zq := k5.cell q0 (by simpa using ncB)
  go_region_held3 (fun w' => w'.cell? ⟨g, 9, none⟩ = some (.slice pl d.log.length cl) ∧ w'.cell? ⟨g, 10, none⟩ = some (.int .i64 (d.lasted : Int)) ∧ w'.cell? ⟨w.heap.size, 0, none⟩ = some (.int .i64 c))
    (first
      | (with_reducible exact ⟨c9, c10, q0⟩)
      | (exact ⟨z9, z10, zq⟩)
      | go_keep)
    (first
      | (go_at_call 41; refine (hre _).mono ?_; rintro e w5 ⟨rfl, rfl⟩)
      | fail)
  obtain ⟨w5, hw5⟩ : ∃ w5, w5 = (w4.setCell ⟨w2.heap.size + 1, 10, none⟩ (.int .i64 (L : Int))).drew := ⟨_, rfl⟩
  have k5' : Kept [w2.heap.size + 1] w4 w5 := by rw [hw5]; exact k5.drew
  have b5' : Blk w5 (w2.heap.size + 1) 78 [.int .i64 (d.np : Int), .int .i64 (d.ns : Int), .int .i64 (d.lm : Int), .slice none 0 0, .slice none 0 0, .slice none 0 0, .slice none 0 0, .slice none 0 0, .slice none 0 0, .slice none 0 0, .int .i64 (L : Int), .int .i64 0, .int .i64 0, .bool false] := by rw [hw5]; exact b5
  have hfar : ∀ x ∈ [w2.heap.size + 1], x ∉ R.foot g := fun x hx hm => by
    have := H2.out.lt hm
    simp at hx
    omega
  have hrd5 := HRD.out.kept k5' hfar
  have hbs5 : Bs w5 (.slice pl d.log.length cl) d.log := by
    have := hrd5.shapes
    obtain ⟨p', c', e', hb'⟩ := this
    have z := hrd5.blk.cell (j := 9) rfl
    rw [show w5.cell? ⟨g, 9, none⟩ = some (.slice pl d.log.length cl) by rw [hw5]; exact z9] at z
    simp at z
    rw [z]
    exact hb'
  obtain ⟨p2, hcut, -, hb2, -⟩ := hbs5.cuts (P := Try.prog) 25 5 Try.underlying25 (by kernel_rfl) L HL.out.1
  have hcp := copied_from _ _ hb2 (by simp; have := HL.out; omega)
  have hlen : (d.log.take L).length = L := by have := HL.out.1; simp; omega
  rw [hlen] at hcp
  have t9 := k5'.cell c9 (by simpa using ngB)
  have n10 := b5'.cell (j := 10) rfl
  have n9 := b5'.cell (j := 9) rfl
  have y9 := b5'.free 9
  have HW5 : Hid (w5 = (w4.setCell ⟨w2.heap.size + 1, 10, none⟩ (.int .i64 (L : Int))).drew) := hw5
  have HRD5 : Hid (RD w5 g d R) := hrd5
  have HB5 : Hid (Blk w5 (w2.heap.size + 1) 78 [.int .i64 (d.np : Int), .int .i64 (d.ns : Int), .int .i64 (d.lm : Int), .slice none 0 0, .slice none 0 0, .slice none 0 0, .slice none 0 0, .slice none 0 0, .slice none 0 0, .slice none 0 0, .int .i64 (L : Int), .int .i64 0, .int .i64 0, .bool false]) := b5'
  have K5 : Hid (Kept [w2.heap.size + 1] w4 w5) := k5'
  clear b5 k5 z9 z10 zq c9 c10 q0 y10 e1 e2 e3 hre hbs hw5 hrd5 hbs5 hb2 b5' k5' hlen hfar
  rw [← HW5.out]
  go_wp2_with fail
  go_region_held3 (fun w' => w'.cell? ⟨g, 9, none⟩ = some (.slice pl d.log.length cl) ∧ w'.cell? ⟨w2.heap.size + 1, 10, none⟩ = some (.int .i64 (L : Int)))
    (first
      | (with_reducible exact ⟨t9, n10⟩)
      | (with_reducible exact ⟨f9, f10⟩)
      | (exact ⟨z9, z10⟩)
      | go_keep)
    (first
      | (go_at_call 42; refine (hcp _ (by first | (with_reducible exact Kept.refl _ _) | (with_reducible exact (Kept.refl _ _).drew))).mono ?_; clear hcp; rintro e w6 ⟨pB, cB, rfl, oB, kB, kB0⟩
         have f9 := kB.cell t9 (by simp)
         have f10 := kB.cell n10 (by simp)
         have b6 := HB5.out.kept kB (by simp)
         have m9 := b6.cell (j := 9) rfl
         have o9 := b6.free 9
         obtain ⟨b7, k7⟩ := b6.set 9 (.slice pB L cB)
         have z9 := k7.cell f9 (by simpa using ngB)
         have z10 := b7.cell (j := 10) rfl)
      | fail)
  obtain ⟨w7, hw7⟩ : ∃ w7, w7 = w6.setCell ⟨w2.heap.size + 1, 9, none⟩ (.slice pB L cB) := ⟨_, rfl⟩
  have k67 : Kept [w2.heap.size + 1] w6 w7 := by rw [hw7]; exact k7
  have k57 : Kept [w2.heap.size + 1] w5 w7 := (kB.mono (by simp)).trans k67 (by intro x hx; exact .inl hx)
  have k47 : Kept [w2.heap.size + 1] w4 w7 := K5.out.trans k57 (by intro x hx; exact .inl hx)
  have k27 : Kept [] w2 w7 := (HKK.out.2.1.then HKK.out.2.2).trans k47 (by intro x hx; simp at hx; exact .inr (by omega))
  have A1 : Hid (RD w7 g d R) := H2.out.kept k27 (by simp)
  have A2 : Hid (Blk w7 (w2.heap.size + 1) 78 [.int .i64 (d.np : Int), .int .i64 (d.ns : Int), .int .i64 (d.lm : Int), .slice none 0 0, .slice none 0 0, .slice none 0 0, .slice none 0 0, .slice none 0 0, .slice none 0 0, .slice pB L cB, .int .i64 (L : Int), .int .i64 0, .int .i64 0, .bool false]) := (by rw [hw7]; exact b7)
  have A3 : Hid (Blk w7 w2.heap.size 28 [.slice u0 pv.length v0, .slice u1 lp v1, .slice u2 lg v2, .slice u3 la v3, .slice u4 lb v4]) := HB3.out.kept k47 (by simp)
  have A4 : Hid (Blk w7 w.heap.size 50 [.int .i64 c, .slice pk keep.length ck]) := HBC.out.kept k47 (by simpa using ncB)
  have A5 : Hid (OwnIm w7 w0.heap.size ⟨.slice u0 pv.length v0, pv, .slice u1 lp v1, .slice u2 lg v2, .slice u3 la v3, .slice u4 lb v4⟩ d.lasts) := HV.out.kept0 k27
  have hw5s : w2.heap.size + 1 < w5.heap.size := HB5.out.lt
  have A6 : Hid (w7.ownsRow w5.heap.size 5 1 (.slice pB L cB) L (u8s (d.log.take L)) ∧ w2.heap.size + 1 < w5.heap.size) := ⟨own_of_kept oB k67 (fun x hx hm => by have h5 : w5.heap.size ≤ x := own_ge oB x hx; simp at hm; omega), hw5s⟩
  have A7 : Hid (Kept [] w w7) := HKK.out.1.then k27
  have A8 : Hid (Is w7 (.slice pk keep.length ck) keep) := HKP.out.kept (HKK.out.1.then k27)
  obtain ⟨bl, hbl⟩ : ∃ bl, bl = blocks (Value.slice u2 lg v2 :: IV.tail ⟨.slice u0 pv.length v0, pv, .slice u1 lp v1, .slice u2 lg v2, .slice u3 la v3, .slice u4 lb v4⟩) := ⟨_, rfl⟩
  have HBL : Hid (∀ x, x ∈ bl → w.heap.size + 1 ≤ x ∧ x < w2.heap.size) := (show ∀ x, x ∈ bl → w.heap.size + 1 ≤ x ∧ x < w2.heap.size from fun x hx => by
    rw [hbl] at hx
    obtain ⟨q, vv, hq, hqx⟩ := blocks_mem hx
    have := HV.out.fam.lt q vv x hq hqx
    have := HK0.out.2.1
    omega)
  have HBLE : Hid (bl = blocks (Value.slice u2 lg v2 :: IV.tail ⟨.slice u0 pv.length v0, pv, .slice u1 lp v1, .slice u2 lg v2, .slice u3 la v3, .slice u4 lb v4⟩)) := hbl
  have S0 : Hid (w0.heap.size = w.heap.size + 1 ∧ w0.heap.size ≤ w2.heap.size) := ⟨HK0.out.2.1, S02.out⟩
  have HW7 : Hid (w7 = w6.setCell ⟨w2.heap.size + 1, 9, none⟩ (.slice pB L cB)) := hw7
  rw [← HW7.out]
  clear hw7 k67 k57 k47 k27 hbl hw5s oB kB kB0 f9 f10 b6 m9 o9 b7 k7 z9 z10 t9 n10 n9 y9 hcut HB5 HRD5 K5 HRD HBC HB3 HB4 HW5 HW4 HW3 H2 H0 HV HKK
  go_wp2_with fail
  go_loopw [7] (fun i wr => ∃ k : Nat, k ≤ d.loose.length ∧ i = .int .i64 k ∧ OwnIm wr w0.heap.size ⟨.slice u0 pv.length v0, pv, .slice u1 lp v1, .slice u2 lg v2, .slice u3 la v3, .slice u4 lb v4⟩ (imOf d.np (crashRows keep (d.loose.take k) 0 d.rows) (d.log.take d.lasted)) ∧ Kept bl w7 wr) (fun i _ => d.loose.length - (intOf i).toNat)
  case atStart => exact ⟨0, Nat.zero_le _, rfl, A5.out, Kept.refl _ _⟩
  case round =>
    obtain ⟨k, hk, rfl, hV, kr⟩ := hrel
    have nf : ∀ x ∈ bl, x ∉ R.foot g := fun x hx hm => by have := HBL.out x hx; have := HLT.out x hm; omega
    have nC : w.heap.size ∉ bl := fun hm => by have := HBL.out _ hm; omega
    have nM : w2.heap.size ∉ bl := fun hm => by have := HBL.out _ hm; omega
    have nB : w2.heap.size + 1 ∉ bl := fun hm => by have := HBL.out _ hm; omega
    have hrd := A1.out.kept kr nf
    have c8 := hrd.blk.cell (j := 8) rfl
    obtain ⟨pz, cz, ez, hz1, hz2⟩ := hrd.loose.shape
    rw [ez] at c8
    have bC := A4.out.kept kr nC
    have bM := A3.out.kept kr nM
    have bD := A2.out.kept kr nB
    have C1 := bC.cell (j := 1) rfl
    by_cases hlt : k < d.loose.length
    · obtain ⟨lbk, cc, pl, nu, bp, bc, ix, b, e1, d0, d1, d2, hx, hy, hix, hob, hk2⟩ := hrd.looseAt2 hlt
      rw [ez] at e1
      cases e1
      have hlt' : (k : Int) < (d.loose.length : Int) := by omega
      have wk : IntKind.i64.wrap ((k : Int) + 1) = (k : Int) + 1 := wrap_i64_of (by omega) (by unfold maxLen at hz2; omega)
      have hnext := crash_take (keep := keep) (rows := d.rows) hx
      by_cases hkl : keep.length = 0
      · have ek : keepAt keep k = 0 := by
          unfold keepAt
          have : keep = [] := List.length_eq_zero_iff.1 hkl
          subst this
          rfl
        rw [ek] at hnext
        have hnext' : crashRows keep (d.loose.take (k + 1)) 0 d.rows = crashRows keep (d.loose.take k) 0 d.rows := hnext
        have HN : Hid (OwnIm wr w0.heap.size ⟨.slice u0 pv.length v0, pv, .slice u1 lp v1, .slice u2 lg v2, .slice u3 la v3, .slice u4 lb v4⟩ (imOf d.np (crashRows keep (d.loose.take (k + 1)) 0 d.rows) (d.log.take d.lasted))) := (by rw [hnext']; exact hV)
        rw [hkl] at C1
        clear hnext hnext' hV hrd bC bM bD hob hz1 hz2 ez ek nf nC nM nB
        go_wp2
        go_roundw
        case rel => exact ⟨k + 1, by omega, by go_num, HN.out.kept0 ((Kept.refl [] wr).alloc _), kr.then ((Kept.refl [] wr).alloc _)⟩
        case measure => simp [intOf]; omega
      · obtain ⟨kb, ko, kc, eK, hkb, hkc⟩ := HKP.out.pos (by omega)
        cases eK
        have hkl' : (0 : Int) < (keep.length : Int) := by omega
        have hkl0 : ¬ (keep.length : Int) = 0 := by omega
        have hmod : k % keep.length < keep.length := Nat.mod_lt _ (by omega)
        obtain ⟨kk, hkk⟩ : ∃ x, keep[k % keep.length]? = some x := ⟨_, List.getElem?_eq_getElem hmod⟩
        have hwk := wrap_i64_range (HKP.out.wrap (List.mem_of_getElem? hkk))
        have ek : keepAt keep k = kk := by unfold keepAt; simp [List.getD, hkk]
        have kc0 := kr.cell (A7.out.cell (hkc _ _ hkk) (by simp)) (fun hm => by have := HBL.out _ hm; simp at this; omega)
        rw [ek] at hnext
        obtain ⟨j, hj⟩ : ∃ j, j = k % keep.length := ⟨_, rfl⟩
        rw [← hj] at hmod hkk kc0
        have hmod' : (j : Int) < (keep.length : Int) := by omega
        have hjk : j ≤ k := by rw [hj]; exact Nat.mod_le _ _
        have r1 : (k : Int) % (keep.length : Int) = (j : Int) := by rw [hj]; rfl
        have r2 : (k : Int).tmod (keep.length : Int) = (j : Int) := by rw [Int.tmod_eq_emod_of_nonneg (by omega), r1]
        have r3 : IntKind.i64.wrap (j : Int) = (j : Int) := wrap_i64_of (by omega) (by unfold maxLen at hz2; omega)
        clear hjk
        obtain ⟨i0, i1, i2, i3, i4⟩ := bM.five.1
        have hsz : Sized d.np d.ns (crashRows keep (d.loose.take k) 0 d.rows) ∧ (crashRows keep (d.loose.take k) 0 d.rows).length = d.rows.length := crashRows_sized keep _ 0 _ HOK.out.row fun x hx => (HOK.out.loose x (List.mem_of_mem_take hx)).2
        have hr := hsz.2.trans HOK.out.len
        have hbl : b.length = ((crashRows keep (d.loose.take k) 0 d.rows).getD ix []).length := by rw [hsz.1 ix _ (getD_some (by have := idxOf_lt hix; omega))]; exact hk2
        have hl := fun (n : Nat) (w' : World) (hn : n ≤ b.length) (kk : Kept [] wr w') => lay_im ⟨.slice u0 pv.length v0, pv, .slice u1 lp v1, .slice u2 lg v2, .slice u3 la v3, .slice u4 lb v4⟩ d.np w0.heap.size (crashRows keep (d.loose.take k) 0 d.rows) (d.log.take d.lasted) b (.slice bp b.length bc) pl nu ix n w' (hV.kept0 kk) hr hix ((Bs.ofOwn hob).kept kk) hbl hn (fun x hx e => by
          rw [← HBLE.out] at hx
          have h1 := HBL.out x hx
          have h2 : x ∈ R.foot g := by
            unfold RDat.foot
            refine List.mem_cons_of_mem _ (List.mem_append_right _ (List.mem_filterMap.2 ⟨.slice bp b.length bc, ?_, e⟩))
            unfold RDat.rows RDat.tail
            exact List.mem_cons_of_mem _ (List.mem_append_right _ (List.mem_map.2 ⟨_, List.mem_of_getElem? hy, rfl⟩))
          have := HLT.out x h2
          omega)
        rw [← HBLE.out] at hl
        unfold IV.agg at hl
        simp only at hl
        have HR : Hid (∀ m wx, Kept bl w7 wx → OwnIm wx w0.heap.size ⟨.slice u0 pv.length v0, pv, .slice u1 lp v1, .slice u2 lg v2, .slice u3 la v3, .slice u4 lb v4⟩ (imOf d.np m (d.log.take d.lasted)) → m = crashLay (crashRows keep (d.loose.take k) 0 d.rows) (ix, b) kk → OwnIm wx w0.heap.size ⟨.slice u0 pv.length v0, pv, .slice u1 lp v1, .slice u2 lg v2, .slice u3 la v3, .slice u4 lb v4⟩ (imOf d.np (crashRows keep (d.loose.take (k + 1)) 0 d.rows) (d.log.take d.lasted)) ∧ Kept bl w7 wx) := (fun m wx hkx hm e => by rw [hnext, ← e]; exact ⟨hm, hkx⟩)
        have HVV : Hid (OwnIm wr w0.heap.size ⟨.slice u0 pv.length v0, pv, .slice u1 lp v1, .slice u2 lg v2, .slice u3 la v3, .slice u4 lb v4⟩ (imOf d.np (crashRows keep (d.loose.take k) 0 d.rows) (d.log.take d.lasted))) := hV
        have HBN : Hid (b.length ≤ 168) := (show b.length ≤ 168 by rw [hk2]; exact sizeK_le _ _ _ HOK.out.ns.2)
        have HM : Hid (wr.heap.size ∉ bl) := (show wr.heap.size ∉ bl from fun hm => by have := HBL.out _ hm; have := bM.lt; omega)
        clear hnext hV hrd bC bM bD hob hz1 hz2 ez ek nf nC nB hsz hr hbl hk2 hkc hkk hj hy hx hix
        go_wp2
        go_region_held3 (fun w' => w'.cell? ⟨w.heap.size, 1, none⟩ = some (.slice (some ⟨kb, ko, none⟩) keep.length ck) ∧ w'.cell? ⟨kb, ko + j, none⟩ = some (.int .i64 kk)) (first | (with_reducible exact ⟨C1, kc0⟩) | go_keep) (fail)
        have ka : Kept [] wr (wr.alloc (.cells #[.int .i64 pl, .int .i64 nu, .slice bp b.length bc] 89)) := (Kept.refl [] wr).alloc _
        have ba : Blk (wr.alloc (.cells #[.int .i64 pl, .int .i64 nu, .slice bp b.length bc] 89)) wr.heap.size 89 [.int .i64 pl, .int .i64 nu, .slice bp b.length bc] := Blk.new wr _ _
        have a0 := ba.cell (j := 0) rfl
        have a1 := ba.cell (j := 1) rfl
        have a2 := ba.cell (j := 2) rfl
        have j0 := ka.cell i0 (by simp)
        have j1 := ka.cell i1 (by simp)
        have j2 := ka.cell i2 (by simp)
        have j3 := ka.cell i3 (by simp)
        have j4 := ka.cell i4 (by simp)
        by_cases h1 : kk = 1
        · subst h1
          go_wp2_with fail
          refine (hl b.length _ (Nat.le_refl _) (by exact ka.drew)).mono ?_
          rintro e w8 ⟨⟨vv, rfl⟩, hV8, kL⟩
          have kN : Kept bl w7 w8 := (kr.then ka.drew).trans kL (by intro x hx; exact .inl hx)
          have hfin := HR.out _ w8 kN hV8 rfl
          clear hl a0 a1 a2 j0 j1 j2 j3 j4 hV8 kL
          go_wp2
          go_roundw
          case rel => exact ⟨k + 1, by omega, by go_num, hfin.1, hfin.2⟩
          case measure => simp [intOf]; omega
        · by_cases h2 : 2 ≤ kk
          · have h2' : ¬ kk = 1 := h1
            have e5 : IntKind.i64.wrap (kk - 1) = kk - 1 := wrap_i64_of (by omega) (by omega)
            have e6 : IntKind.i64.wrap ((b.length : Int) + 1) = (b.length : Int) + 1 := wrap_i64_of (by omega) (by have := HBN.out; omega)
            have hre := fun w' => rest_any (kk - 1) (b.length + 1) w' (by omega) (by have := HBN.out; omega)
            simp only [show (((b.length + 1 : Nat) : Int)) = (b.length : Int) + 1 by omega] at hre
            have hr1 := restN_lt (kk - 1) b.length
            have HE : Hid (∀ rows, layR rows ix b (restN (kk - 1) (b.length + 1)) = crashLay rows (ix, b) kk) := (fun rows => by unfold crashLay; rw [if_neg h1, if_pos h2])
            have hl2 := fun w' kkk => hl (restN (kk - 1) (b.length + 1)) w' hr1 kkk
            generalize restN (kk - 1) (b.length + 1) = rr at *
            clear hl hr1 hwk
            go_wp2
            go_region_held3 (fun w' => (w'.cell? ⟨w2.heap.size, 0, none⟩ = some (.slice u0 pv.length v0) ∧ w'.cell? ⟨w2.heap.size, 1, none⟩ = some (.slice u1 lp v1) ∧ w'.cell? ⟨w2.heap.size, 2, none⟩ = some (.slice u2 lg v2) ∧ w'.cell? ⟨w2.heap.size, 3, none⟩ = some (.slice u3 la v3) ∧ w'.cell? ⟨w2.heap.size, 4, none⟩ = some (.slice u4 lb v4)) ∧
                w'.cell? ⟨wr.heap.size, 0, none⟩ = some (.int .i64 pl) ∧ w'.cell? ⟨wr.heap.size, 1, none⟩ = some (.int .i64 nu) ∧ w'.cell? ⟨wr.heap.size, 2, none⟩ = some (.slice bp b.length bc))
              (first
                | (exact ⟨⟨j0, j1, j2, j3, j4⟩, a0, a1, a2⟩)
                | (exact ⟨⟨kL.cell j0 nM, kL.cell j1 nM, kL.cell j2 nM, kL.cell j3 nM, kL.cell j4 nM⟩, kL.cell a0 HM.out, kL.cell a1 HM.out, kL.cell a2 HM.out⟩)
                | go_keep)
              (first
                | (go_at_call 41; refine (hre _).mono ?_; rintro e w5 ⟨rfl, rfl⟩)
                | (go_at_call 43; refine (hl2 _ (by first | (with_reducible exact ka) | (with_reducible exact ka.drew) | (with_reducible exact ka.drew.drew))).mono ?_; rintro e w8 ⟨⟨vv, rfl⟩, hV8, kL⟩)
                | fail)
            have kN : Kept bl w7 w8 := (kr.then ka).trans ⟨kL.os, kL.tape, kL.output, kL.size, kL.block⟩ (by intro x hx; exact .inl hx)
            have hfin := HR.out _ w8 kN hV8 (HE.out _)
            clear hl2 a0 a1 a2 j0 j1 j2 j3 j4 hV8 kL
            go_wp2
            go_roundw
            case rel => exact ⟨k + 1, by omega, by go_num, hfin.1, hfin.2⟩
            case measure => simp [intOf]; omega
          · have hfin := HR.out _ (wr.alloc (.cells #[.int .i64 pl, .int .i64 nu, .slice bp b.length bc] 89)).drew (kr.then ka.drew) (HVV.out.kept0 ka.drew) (by unfold crashLay; rw [if_neg h1, if_neg h2])
            clear hl a0 a1 a2 j0 j1 j2 j3 j4
            go_wp2
            go_roundw
            case rel => exact ⟨k + 1, by omega, by go_num, hfin.1, hfin.2⟩
            case measure => simp [intOf]; omega
    · obtain rfl : k = d.loose.length := by omega
      rw [List.take_length] at hV
      have hne : w2.heap.size + 1 ∉ [w2.heap.size] := by simp
      obtain ⟨bM2, kM2⟩ := bM.set 2 (.slice none 0 0)
      have bD2 := bD.kept kM2 hne
      have t2 := bM.cell (j := 2) rfl
      have f2 := bM.free 2
      obtain ⟨⟨i0, i1, i2, i3, i4⟩, -⟩ := Blk.five (show Blk _ w2.heap.size 28 [.slice u0 pv.length v0, .slice u1 lp v1, .slice none 0 0, .slice u3 la v3, .slice u4 lb v4] from bM2)
      have n3 := bD2.cell (j := 3) rfl
      have n4 := bD2.cell (j := 4) rfl
      have n5 := bD2.cell (j := 5) rfl
      have n6 := bD2.cell (j := 6) rfl
      have n7 := bD2.cell (j := 7) rfl
      have y3 := bD2.free 3
      have y4 := bD2.free 4
      have y5 := bD2.free 5
      have y6 := bD2.free 6
      have y7 := bD2.free 7
      obtain ⟨x3, l3⟩ := bD2.set 3 (.slice u0 pv.length v0)
      obtain ⟨x4, l4⟩ := x3.set 4 (.slice u1 lp v1)
      obtain ⟨x5, l5⟩ := x4.set 5 (.slice none 0 0)
      obtain ⟨x6, l6⟩ := x5.set 6 (.slice u3 la v3)
      obtain ⟨x7, l7⟩ := x6.set 7 (.slice u4 lb v4)
      have lall : Kept [w2.heap.size, w2.heap.size + 1] wr _ := (kM2.mono (T := [w2.heap.size, w2.heap.size + 1]) (by simp)).trans ((((l3.trans l4 (by simp)).trans l5 (by simp)).trans l6 (by simp)).trans l7 (by simp)) (by simp)
      have o6 := own_mono (own_of_kept A6.out.1 kr (fun x hx hm => by have := own_ge A6.out.1 x hx; have := HBL.out x hm; have := A6.out.2; omega)) (show w0.heap.size ≤ w5.heap.size by have := S0.out; have := A6.out.2; omega)
      have hll : (d.log.take L).length = L := by have := HL.out.1; simp; omega
      have hsw := hV.swapLog (v := .slice pB L cB) (l := d.log.take L) (by rw [hll]; exact o6) (fun x hx hm => by
        have h1 := own_ge A6.out.1 x hx
        obtain ⟨q, vv, hq, hqx⟩ := blocks_mem hm
        have h2 : x ∈ bl := by rw [HBLE.out]; exact mem_blocks (k := q + 1) hq hqx
        have := HBL.out x h2
        have := A6.out.2
        omega)
      have nM8 := bM.not8 (by decide)
      have nD8 := bD.not8 (by decide)
      have hfin : OwnIm _ w0.heap.size ⟨.slice u0 pv.length v0, pv, .slice u1 lp v1, .slice pB L cB, .slice u3 la v3, .slice u4 lb v4⟩ (imOf d.np (crashRows keep d.loose 0 d.rows) (d.log.take L)) := ⟨hsw.fam.kept lall (by intro x hx; simp at hx; rcases hx with rfl | rfl; exact .inl nM8; exact .inl nD8), own_of_kept hsw.row lall (fun x hx hm => by simp at hm; rcases hm with rfl | rfl; exact bM.far hsw.row (by decide) _ hx rfl; exact bD.far hsw.row (by decide) _ hx rfl), hsw.len⟩
      obtain ⟨g1, g2⟩ := RD.make2 (d := d.crash c keep) (g := w2.heap.size + 1) (vl := .slice none 0 0) (HOK.out.crash c keep) (by rw [HL.out.2.1] at hfin; exact hfin) rfl ⟨none, 0, rfl, by unfold maxLen; omega, fun _ => rfl⟩ (by rw [HL.out.2.1] at x7; exact x7) (by have := S0.out; omega)
      have G1 : Hid (RD _ (w2.heap.size + 1) (d.crash c keep) (freshV _ (.slice none 0 0))) := g1
      have kZ : Kept [] w _ := (A7.out.trans kr (fun x hx => .inr (by have := HBL.out x hx; omega))).trans lall (by intro x hx; have := S0.out; simp at hx; exact .inr (by omega))
      clear hfin hsw g1
      go_wp2
      go_ret
      exact ⟨_, _, rfl, G1.out, fun x hx => by have := g2 x hx; have := S0.out; omega, kZ⟩
end Go.Proofs.Ytmipmiaflompmab

/-
  OWN WORK. The document's disk, by its pointer and the blocks that are its own: one form for all calls.
-/
namespace Go.Proofs.Ytmipmiaflompmab
open Go.RowKit
set_option linter.unusedVariables false

/-- the blocks F turn, and F' is what is owned then -/
def Next (w w' : World) (F F' : List Nat) : Prop := Kept F w w' ∧ ∀ x ∈ F', x ∈ F ∨ w.heap.size ≤ x
theorem Next.of {w w' : World} {S F F' : List Nat} (k : Kept S w w') (hS : ∀ x ∈ S, x ∈ F) (h : ∀ x ∈ F', x ∈ F ∨ w.heap.size ≤ x) : Next w w' F F' := ⟨k.mono hS, h⟩
/-- a pointer that is no nil -/
def IsPtr (v : Value) : Prop := ∃ g, v = .pointer (some ⟨g, 0, none⟩)
/-- a disk of the document's at v tells d; F: its blocks -/
def QD (w : World) (v : Value) (d : DS) (F : List Nat) : Prop := ∃ g R, v = .pointer (some ⟨g, 0, none⟩) ∧ RD w g d R ∧ F = R.foot g
theorem QD.ptr {w : World} {v : Value} {d : DS} {F : List Nat} (h : QD w v d F) : IsPtr v := by
  obtain ⟨g, R, rfl, -, -⟩ := h
  exact ⟨g, rfl⟩
theorem QD.ok {w : World} {v : Value} {d : DS} {F : List Nat} (h : QD w v d F) : d.Ok := by
  obtain ⟨g, R, -, h, -⟩ := h
  exact h.ok
theorem QD.lt {w : World} {v : Value} {d : DS} {F : List Nat} (h : QD w v d F) : ∀ x ∈ F, x < w.heap.size := by
  obtain ⟨g, R, -, h, rfl⟩ := h
  exact fun x hx => h.lt hx
theorem QD.kept {w w' : World} {v : Value} {d : DS} {F S : List Nat} (h : QD w v d F) (k : Kept S w w') (hS : ∀ x ∈ S, x ∉ F) : QD w' v d F := by
  obtain ⟨g, R, e, h, rfl⟩ := h
  exact ⟨g, R, e, h.kept k hS, rfl⟩
theorem foot_self {R : RDat} {g : Nat} : g ∈ R.foot g := by simp [RDat.foot]
theorem foot_loose {R : RDat} {g x : Nat} (h : x ∈ g :: R.vloose.ownBlock.toList) : x ∈ R.foot g := by
  unfold RDat.foot
  rcases List.mem_cons.1 h with e | e
  · simp [e]
  · exact List.mem_cons_of_mem _ (List.mem_append_left _ (List.mem_append_right _ e))
theorem qHalts (v : Value) (d : DS) (F : List Nat) (n : Int) (w : World) (h : QD w v d F) (hn : IntKind.i64.wrap n = n) :
    Calls Try.prog 45 #[v, .int .i64 n] w fun e w' => (∃ r, e = .returned r) ∧ QD w' v (d.halts n) F ∧ Next w w' F F := by
  obtain ⟨g, R, rfl, h, rfl⟩ := h
  refine (halts_any g d R n w h hn).mono ?_
  rintro e w' ⟨h1, h2, h3⟩
  exact ⟨h1, ⟨g, R, rfl, h2, rfl⟩, Next.of h3 (by intro x hx; simp at hx; subst hx; exact foot_self) (fun x hx => .inl hx)⟩
theorem qSyncLog (v : Value) (d : DS) (F : List Nat) (w : World) (h : QD w v d F) :
    Calls Try.prog 71 #[v] w fun e w' => ∃ F', e = .returned (.int .i64 (aliveE d)) ∧ QD w' v d.syncLog F' ∧ Next w w' F F' := by
  obtain ⟨g, R, rfl, h, rfl⟩ := h
  refine (syncLog_any g d R w h).mono ?_
  rintro e w' ⟨h1, h2, h3⟩
  exact ⟨_, h1, ⟨g, R, rfl, h2, rfl⟩, Next.of h3 (by intro x hx; simp at hx; subst hx; exact foot_self) (fun x hx => .inl hx)⟩
theorem qCut (v : Value) (d : DS) (F : List Nat) (n : Int) (w : World) (h : QD w v d F) :
    Calls Try.prog 73 #[v, .int .i64 n] w fun e w' => ∃ F', e = .returned (.int .i64 (cutE d n)) ∧ QD w' v (d.cut n) F' ∧ Next w w' F F' := by
  obtain ⟨g, R, rfl, h, rfl⟩ := h
  refine (cut_any g d R n w h).mono ?_
  rintro e w' ⟨R', h1, h2, h3, h4⟩
  exact ⟨_, h1, ⟨g, R', rfl, h2, rfl⟩, Next.of h3 (by intro x hx; simp at hx; subst hx; exact foot_self) h4⟩
theorem qAppend (v : Value) (d : DS) (F : List Nat) (u : Value) (b : List UInt8) (w : World) (h : QD w v d F) (hu : Bs w u b) (hne : b ≠ [] → ∀ x, u.ownBlock = some x → x ∉ F) :
    Calls Try.prog 69 #[v, u] w fun e w' => ∃ F', e = .returned (.int .i64 (appendE d b)) ∧ QD w' v (d.append b) F' ∧ Next w w' F F' := by
  obtain ⟨g, R, rfl, h, rfl⟩ := h
  refine (append_any g d R u b w h hu (fun h0 e => hne h0 g e foot_self)).mono ?_
  rintro e w' ⟨R', h1, h2, h3, h4⟩
  exact ⟨_, h1, ⟨g, R', rfl, h2, rfl⟩, Next.of h3 (by intro x hx; simp at hx; subst hx; exact foot_self) h4⟩
theorem qWrite (v : Value) (d : DS) (F : List Nat) (p n : Int) (u : Value) (b : List UInt8) (w : World) (h : QD w v d F) (hu : Bs w u b) (hne : b ≠ [] → ∀ x, u.ownBlock = some x → x ∉ F) (hcap : (d.loose.length + 1) * 40 ≤ 140737488355328) :
    Calls Try.prog 63 #[v, .int .i64 p, .int .i64 n, u] w fun e w' => ∃ F', e = .returned (.int .i64 (writeE d (idxOf d.np p n) b)) ∧ QD w' v (d.write (idxOf d.np p n) b) F' ∧ Next w w' F F' := by
  obtain ⟨g, R, rfl, h, rfl⟩ := h
  refine (write_any g d R p n u b w h hu (fun h0 e => hne h0 g e foot_self) hcap).mono ?_
  rintro e w' ⟨R', h1, h2, h3, h4⟩
  exact ⟨_, h1, ⟨g, R', rfl, h2, rfl⟩, Next.of h3 (fun x hx => foot_loose hx) h4⟩
theorem qSync (v : Value) (d : DS) (F : List Nat) (m : Bool) (w : World) (h : QD w v d F) (hcap : d.loose.length * 40 ≤ 140737488355328) :
    Calls Try.prog 67 #[v, .bool m] w fun e w' => ∃ F', e = .returned (.int .i64 (aliveE d)) ∧ QD w' v (d.sync m) F' ∧ Next w w' F F' := by
  obtain ⟨g, R, rfl, h, rfl⟩ := h
  refine (sync_any g d R m w h hcap).mono ?_
  rintro e w' ⟨R', h1, h2, h3, h4⟩
  exact ⟨_, h1, ⟨g, R', rfl, h2, rfl⟩, h3, h4⟩
theorem qRead (v : Value) (d : DS) (F : List Nat) (p n : Int) (w : World) (h : QD w v d F) :
    Calls Try.prog 74 #[v, .int .i64 p, .int .i64 n] w fun e w' => ∃ c F', e = .returned (.tuple #[c, .int .i64 (readE d (idxOf d.np p n))]) ∧ w'.ownsRow w.heap.size 5 1 c (readL d (idxOf d.np p n)).length (u8s (readL d (idxOf d.np p n))) ∧ (∀ x, c.ownBlock = some x → x ∉ F') ∧ QD w' v d.act F' ∧ Next w w' F F' := by
  obtain ⟨g, R, rfl, h, rfl⟩ := h
  refine (read_any g d R p n w h).mono ?_
  rintro e w' ⟨c, h1, h2, h3, h4⟩
  exact ⟨c, _, h1, h2, fun x hx hm => by have h8 := own_ge h2 x hx; have h9 := h.lt hm; omega, ⟨g, R, rfl, h3, rfl⟩, Next.of h4 (by intro x hx; simp at hx; subst hx; exact foot_self) (fun x hx => .inl hx)⟩
theorem qReadLog (v : Value) (d : DS) (F : List Nat) (f n : Int) (w : World) (h : QD w v d F) :
    Calls Try.prog 77 #[v, .int .i64 f, .int .i64 n] w fun e w' => ∃ c F', e = .returned (.tuple #[c, .int .i64 (readLogE d f n)]) ∧ w'.ownsRow w.heap.size 5 1 c (readLogL d f n).length (u8s (readLogL d f n)) ∧ (∀ x, c.ownBlock = some x → x ∉ F') ∧ QD w' v d.act F' ∧ Next w w' F F' := by
  obtain ⟨g, R, rfl, h, rfl⟩ := h
  refine (readLog_any g d R f n w h).mono ?_
  rintro e w' ⟨c, h1, h2, h3, h4⟩
  exact ⟨c, _, h1, h2, fun x hx hm => by have h8 := own_ge h2 x hx; have h9 := h.lt hm; omega, ⟨g, R, rfl, h3, rfl⟩, Next.of h4 (by intro x hx; simp at hx; subst hx; exact foot_self) (fun x hx => .inl hx)⟩
theorem qImage (v : Value) (d : DS) (F : List Nat) (w : World) (h : QD w v d F) :
    Calls Try.prog 55 #[v] w fun e w' => ∃ V, e = .returned V.agg ∧ OwnIm w' w.heap.size V d.image ∧ Kept [] w w' := by
  obtain ⟨g, R, rfl, h, rfl⟩ := h
  exact image_any g d R w h
theorem qLasts (v : Value) (d : DS) (F : List Nat) (w : World) (h : QD w v d F) :
    Calls Try.prog 40 #[v] w fun e w' => ∃ V, e = .returned V.agg ∧ OwnIm w' w.heap.size V d.lasts ∧ Kept [] w w' := by
  obtain ⟨g, R, rfl, h, rfl⟩ := h
  exact lasts_any g d R w h
/-- a disk made anew -/
def Born (D : World → Value → DS → List Nat → Prop) (w w' : World) (v : Value) (d : DS) : Prop := ∃ F, D w' v d F ∧ (∀ x ∈ F, w.heap.size ≤ x) ∧ Kept [] w w'
theorem qCrash (v : Value) (d : DS) (F : List Nat) (c : Int) (vk : Value) (keep : List Int) (w : World) (h : QD w v d F) (hk : Is w vk keep) :
    Calls Try.prog 15 #[v, .agg #[.int .i64 c, vk]] w fun e w' => ∃ u, e = .returned u ∧ Born QD w w' u (d.crash c keep) := by
  obtain ⟨g, R, rfl, h, rfl⟩ := h
  refine (crash_any g d R c vk keep w h hk).mono ?_
  rintro e w' ⟨g', R', h1, h2, h3, h4⟩
  exact ⟨_, h1, _, ⟨g', R', rfl, h2, rfl⟩, h3, h4⟩
theorem qCopy (v : Value) (d : DS) (F : List Nat) (w : World) (h : QD w v d F) (hcap : d.loose.length * 40 ≤ 140737488355328) :
    Calls Try.prog 47 #[v] w fun e w' => ∃ u, e = .returned u ∧ Born QD w w' u d.copy := by
  obtain ⟨g, R, rfl, h, rfl⟩ := h
  refine (copy_any g d R w h hcap).mono ?_
  rintro e w' ⟨g', R', h1, h2, h3, h4⟩
  exact ⟨_, h1, _, ⟨g', R', rfl, h2, rfl⟩, h3, h4⟩
/-- what New and Load answer -/
def newE (a b c : Int) : Int := if shapeOk a b c = true then 0 else 60
def newD (a b c : Int) : DS := DS.blank a.toNat b.toNat c.toNat
def loadE (a b c : Int) (m : IM) : Int := if shapeOk a b c = true then (if imOk a.toNat b.toNat c.toNat m = true then 0 else 62) else 60
def loadD (a b c : Int) (m : IM) : DS := DS.load a.toNat b.toNat c.toNat m
/-- a disk made anew, or none -/
def Made (D : World → Value → DS → List Nat → Prop) (w w' : World) (v : Value) (d : DS) (e : Int) : Prop := (e = 0 ∧ Born D w w' v d) ∨ (e ≠ 0 ∧ v = .pointer none ∧ Kept [] w w')
theorem qNew (a b c : Int) (w : World) :
    Calls Try.prog 11 #[.agg #[.int .i64 a, .int .i64 b, .int .i64 c]] w fun e w' => ∃ u, e = .returned (.tuple #[u, .int .i64 (newE a b c)]) ∧ Made QD w w' u (newD a b c) (newE a b c) := by
  cases h : shapeOk a b c with
  | false =>
    refine (new_bad a b c w h).mono ?_
    rintro e w' ⟨h1, h2⟩
    have : newE a b c = 60 := by unfold newE; rw [h]; rfl
    exact ⟨_, by rw [this]; exact h1, .inr ⟨by rw [this]; omega, rfl, h2⟩⟩
  | true =>
    have hE : newE a b c = 0 := by unfold newE; rw [h]; rfl
    obtain ⟨np, ns, lm, rfl, rfl, rfl, h1, h2, h3⟩ := shapeOk_nat h
    refine (new_ok np ns lm w h1 h2 h3).mono ?_
    rintro e w' ⟨g, R, q1, q2, q3, q4⟩
    exact ⟨_, by rw [hE]; exact q1, .inl ⟨hE, _, ⟨g, R, rfl, q2, rfl⟩, q3, q4⟩⟩
theorem qLoad (a b c : Int) (V : IV) (m : IM) (w : World) (hV : SeeIm w V m) :
    Calls Try.prog 7 #[.agg #[.int .i64 a, .int .i64 b, .int .i64 c], V.agg] w fun e w' => ∃ u, e = .returned (.tuple #[u, .int .i64 (loadE a b c m)]) ∧ Made QD w w' u (loadD a b c m) (loadE a b c m) := by
  cases h : shapeOk a b c with
  | false =>
    refine (load_bad a b c V m w hV h).mono ?_
    rintro e w' ⟨h1, h2⟩
    have : loadE a b c m = 60 := by unfold loadE; rw [h]; rfl
    exact ⟨_, by rw [this]; exact h1, .inr ⟨by rw [this]; omega, rfl, h2⟩⟩
  | true =>
    obtain ⟨np, ns, lm, rfl, rfl, rfl, h1, h2, h3⟩ := shapeOk_nat h
    have hE : loadE (np : Int) (ns : Int) (lm : Int) m = if imOk np ns lm m = true then 0 else 62 := by
      unfold loadE
      rw [if_pos h]
      rfl
    refine (load_ok np ns lm V m w hV h1 h2 h3).mono ?_
    rintro e w' ⟨kk, q⟩
    cases hi : imOk np ns lm m with
    | false =>
      rw [hi] at hE q
      have hE : loadE (np : Int) (ns : Int) (lm : Int) m = 62 := hE
      exact ⟨_, by rw [hE]; exact q, .inr ⟨by rw [hE]; omega, rfl, kk⟩⟩
    | true =>
      rw [hi] at hE q
      have hE : loadE (np : Int) (ns : Int) (lm : Int) m = 0 := hE
      obtain ⟨g, R, q1, q2, q3⟩ := q
      exact ⟨_, by rw [hE]; exact q1, .inl ⟨hE, _, ⟨g, R, rfl, q2, rfl⟩, q3, kk⟩⟩
end Go.Proofs.Ytmipmiaflompmab

/-
  OWN WORK. The program's disk in memory: what lasts, what is read, the loose writes (functions whose own cells never change); act, places.
-/
namespace Go.Proofs.Ytmipmiaflompmab
open Go.RowKit
set_option linter.unusedVariables false

structure PDat where
  vl : Value
  pl : List Value
  vr : Value
  pr : List Value
  vf : Value
  fs : List Value
  vlog : Value
  left : Int
  Z : List Nat
def PDat.cells (R : PDat) (d : DS) : List Value := [.int .i64 (d.np : Int), .int .i64 (d.ns : Int), .int .i64 (d.lm : Int), R.vl, R.vr, R.vf, R.vlog, .int .i64 (d.lasted : Int), .int .i64 d.acts, .int .i64 R.left, .bool d.dead]
def PDat.rows (R : PDat) : List Value := R.vlog :: (R.pl ++ R.pr)
def DS.pall (d : DS) : List (List UInt8) := d.log :: (prows d.np d.rows ++ prows d.np d.seen)
def PDat.foot (R : PDat) (g : Nat) : List Nat := g :: (R.vl.ownBlock.toList ++ R.vr.ownBlock.toList ++ R.vf.ownBlock.toList ++ blocks R.rows)
/-- f lays the bytes b over the place k; its own cells lie in Z -/
def Lo (np : Nat) (Z : List Nat) (w : World) (f : Value) (k : Nat) (b : List UInt8) : Prop :=
  ∃ gp gb vb, f = theWrite gp gb ∧ Cap w gp gb (pix np k) vb b ∧ gp ∈ Z ∧ gb ∈ Z ∧ ∀ x, vb.ownBlock = some x → x ∈ Z
theorem Cap.kept {w w' : World} {gp gb j : Nat} {vb : Value} {b : List UInt8} {S : List Nat} (h : Cap w gp gb j vb b) (k : Kept S w w') (h1 : gp ∉ S) (h2 : gb ∉ S) (h3 : ∀ x, vb.ownBlock = some x → x ∉ S) : Cap w' gp gb j vb b :=
  ⟨k.cell h.place h1, k.cell h.slice h2, h.bytes.keptOwn k h3⟩
theorem Lo.kept {np : Nat} {Z S : List Nat} {w w' : World} {f : Value} {k : Nat} {b : List UInt8} (h : Lo np Z w f k b) (kp : Kept S w w') (hS : ∀ x ∈ S, x ∉ Z) : Lo np Z w' f k b := by
  obtain ⟨gp, gb, vb, h1, h2, h3, h4, h5⟩ := h
  exact ⟨gp, gb, vb, h1, h2.kept kp (fun hm => hS _ hm h3) (fun hm => hS _ hm h4) (fun x hx hm => hS _ hm (h5 x hx)), h3, h4, h5⟩
theorem Lo.mono {np : Nat} {Z Z' : List Nat} {w : World} {f : Value} {k : Nat} {b : List UInt8} (h : Lo np Z w f k b) (hZ : ∀ x ∈ Z, x ∈ Z') : Lo np Z' w f k b := by
  obtain ⟨gp, gb, vb, h1, h2, h3, h4, h5⟩ := h
  exact ⟨gp, gb, vb, h1, h2, hZ _ h3, hZ _ h4, fun x hx => hZ _ (h5 x hx)⟩
structure PR (w : World) (g : Nat) (d : DS) (R : PDat) : Prop where
  ok : d.Ok
  blk : Blk w g 83 (R.cells d)
  fam : Fam w 0 R.rows d.pall
  rowL : w.ownsRow 0 25 1 R.vl (d.np + 3) R.pl
  rowR : w.ownsRow 0 25 1 R.vr (d.np + 3) R.pr
  rowF : w.ownsRow 0 85 1 R.vf d.loose.length R.fs
  loose : ∀ (i : Nat) f x, R.fs[i]? = some f → d.loose[i]? = some x → Lo d.np R.Z w f x.1 x.2
  apart : ∀ x, R.vl.ownBlock = some x → R.vr.ownBlock ≠ some x
  left : d.dead = false → d.stop = if 1 ≤ R.left then R.left else 0
  leftw : IntKind.i64.wrap R.left = R.left
  frz : ∀ x ∈ R.Z, x ∉ R.foot g ∧ x < w.heap.size
theorem PR.lt {w : World} {g : Nat} {d : DS} {R : PDat} (h : PR w g d R) {x : Nat} (hx : x ∈ R.foot g) : x < w.heap.size := by
  unfold PDat.foot at hx
  rcases List.mem_cons.1 hx with e | hx
  · subst e; exact h.blk.lt
  · rcases List.mem_append.1 hx with hx | hx
    · rcases List.mem_append.1 hx with hx | hx
      · rcases List.mem_append.1 hx with hx | hx
        · exact own_lt h.rowL x (by simpa using hx)
        · exact own_lt h.rowR x (by simpa using hx)
      · exact own_lt h.rowF x (by simpa using hx)
    · exact (h.fam.not8 hx).2.2
theorem PDat.self {R : PDat} {g : Nat} : g ∈ R.foot g := by simp [PDat.foot]
theorem PDat.inL {R : PDat} {g x : Nat} (h : R.vl.ownBlock = some x) : x ∈ R.foot g := by simp [PDat.foot, h]
theorem PDat.inR {R : PDat} {g x : Nat} (h : R.vr.ownBlock = some x) : x ∈ R.foot g := by simp [PDat.foot, h]
theorem PDat.inF {R : PDat} {g x : Nat} (h : R.vf.ownBlock = some x) : x ∈ R.foot g := by simp [PDat.foot, h]
theorem PDat.inB {R : PDat} {g x : Nat} (h : x ∈ blocks R.rows) : x ∈ R.foot g := by simp [PDat.foot, h]
theorem Fam.keptAll {w w' : World} {base : Nat} {vs : List Value} {ls : List (List UInt8)} {S : List Nat} (h : Fam w base vs ls) (k : Kept S w w') (hS : ∀ x ∈ S, x ∉ blocks vs) : Fam w' base vs ls :=
  ⟨h.len, fun i v l hv hl => own_of_kept (h.own i v l hv hl) k fun x hx hm => hS x hm (mem_blocks hv hx), h.apart⟩
/-- nothing of it is touched -/
theorem PR.kept {w w' : World} {g : Nat} {d : DS} {R : PDat} {S : List Nat} (h : PR w g d R) (k : Kept S w w') (hS : ∀ x ∈ S, x ∉ R.foot g) (hZ : ∀ x ∈ S, x ∉ R.Z) : PR w' g d R :=
  ⟨h.ok, h.blk.kept k (fun hm => hS _ hm PDat.self), h.fam.keptAll k (fun x hx hm => hS x hx (PDat.inB hm)), own_of_kept h.rowL k (fun x hx hm => hS x hm (PDat.inL hx)), own_of_kept h.rowR k (fun x hx hm => hS x hm (PDat.inR hx)), own_of_kept h.rowF k (fun x hx hm => hS x hm (PDat.inF hx)),
    fun i f x hf hx => (h.loose i f x hf hx).kept k hZ, h.apart, h.left, h.leftw, fun x hx => ⟨(h.frz x hx).1, Nat.lt_of_lt_of_le (h.frz x hx).2 k.size⟩⟩
/-- its own block is no row's -/
theorem PR.far {w : World} {g : Nat} {d : DS} {R : PDat} (h : PR w g d R) : R.vl.ownBlock ≠ some g ∧ R.vr.ownBlock ≠ some g ∧ R.vf.ownBlock ≠ some g ∧ g ∉ blocks R.rows ∧ g ∉ R.Z :=
  ⟨fun e => h.blk.far h.rowL (by decide) g e rfl, fun e => h.blk.far h.rowR (by decide) g e rfl, fun e => h.blk.far h.rowF (by decide) g e rfl, fun hm => (h.fam.not8 hm).1 (h.blk.not8 (by decide)), fun hm => (h.frz g hm).1 PDat.self⟩
/-- its own block is written, and nothing else -/
theorem PR.turn {w w' : World} {g : Nat} {d d' : DS} {R R' : PDat} (h : PR w g d R) (k : Kept [g] w w') (hb : Blk w' g 83 (R'.cells d')) (hok : d'.Ok) (e1 : d'.np = d.np) (e2 : d'.rows = d.rows) (e3 : d'.loose = d.loose) (e4 : d'.log = d.log) (eR : R' = { R with left := R'.left }) (hl : d'.dead = false → d'.stop = if 1 ≤ R'.left then R'.left else 0) (hw : IntKind.i64.wrap R'.left = R'.left) : PR w' g d' R' := by
  obtain ⟨f1, f2, f3, f4, f5⟩ := h.far
  have hs : ∀ {x : Nat}, x ∈ [g] → x = g := by simp
  have hall : d'.pall = d.pall := by unfold DS.pall DS.seen; rw [e1, e2, e3, e4]
  obtain ⟨vl, pl, vr, pr, vf, fs, vlog, left, Z⟩ := R
  obtain ⟨vl', pl', vr', pr', vf', fs', vlog', left', Z'⟩ := R'
  simp only [PDat.mk.injEq] at eR
  obtain ⟨rfl, rfl, rfl, rfl, rfl, rfl, rfl, -, rfl⟩ := eR
  refine ⟨hok, hb, ?_, ?_, ?_, ?_, ?_, h.apart, hl, hw, fun x hx => ⟨(h.frz x hx).1, Nat.lt_of_lt_of_le (h.frz x hx).2 k.size⟩⟩
  · rw [hall]
    exact h.fam.keptAll k (fun x hx hm => f4 (by rw [← hs hx]; exact hm))
  · rw [e1]; exact own_of_kept h.rowL k (fun x hx hm => f1 (by rw [← hs hm]; exact hx))
  · rw [e1]; exact own_of_kept h.rowR k (fun x hx hm => f2 (by rw [← hs hm]; exact hx))
  · rw [e3]; exact own_of_kept h.rowF k (fun x hx hm => f3 (by rw [← hs hm]; exact hx))
  · rw [e1, e3]
    exact fun i f x hf hx => (h.loose i f x hf hx).kept k (fun y hy hm => f5 (by rw [← hs hy]; exact hm))
def PDat.act (R : PDat) (d : DS) : PDat := if d.dead = true ∨ R.left = 1 then R else { R with left := if 1 < R.left then R.left - 1 else R.left }
theorem PDat.act_eq (R : PDat) (d : DS) : ∃ l, R.act d = { R with left := l } := by
  unfold PDat.act
  split
  · exact ⟨R.left, rfl⟩
  · exact ⟨_, rfl⟩
theorem PDat.act_foot (R : PDat) (d : DS) (g : Nat) : (R.act d).foot g = R.foot g := by obtain ⟨l, e⟩ := R.act_eq d; rw [e]; rfl
theorem PDat.act_Z (R : PDat) (d : DS) : (R.act d).Z = R.Z := by obtain ⟨l, e⟩ := R.act_eq d; rw [e]
theorem pact_any (g : Nat) (d : DS) (R : PDat) (w : World) (h : PR w g d R) :
    Calls Try.prog 59 #[.pointer (some ⟨g, 0, none⟩)] w fun e w' => e = .returned (.int .i64 (aliveE d)) ∧ (∃ l, PR w' g d.act { R with left := l }) ∧ Kept [g] w w' := by
  have hb := h.blk
  have c8 := hb.cell (j := 8) rfl
  have c9 := hb.cell (j := 9) rfl
  have c10 := hb.cell (j := 10) rfl
  have f8 := hb.free 8
  have f9 := hb.free 9
  have f10 := hb.free 10
  have hok := h.ok.act
  have hlw := h.leftw
  by_cases h1 : d.dead = true
  · have ea : aliveE d = 1 := by simp [aliveE, DS.alive, h1]
    have ed : d.act = d := by unfold DS.act; rw [if_pos h1]
    rw [ea, ed]
    rw [h1] at c10
    by_cases h2 : R.left = 1
    · obtain ⟨b2, k2⟩ := hb.set 10 (.bool true)
      have fin : PR _ g d R := h.turn k2 (by have e : (R.cells d).set 10 (.bool true) = R.cells d := by unfold PDat.cells; rw [h1]; rfl
                                             rw [← e]; exact b2) h.ok rfl rfl rfl rfl rfl h.left hlw
      have H : Hid (PR _ g d R) := fin
      have y10 := b2.cell (j := 10) (v := .bool true) rfl
      rw [h2] at c9
      clear h hb hok fin b2
      go_enter Try.func59, Try.ntmps59
      go_wp2
      go_ret
      exact ⟨rfl, ⟨R.left, H.out⟩, k2⟩
    · have H : Hid (PR w g d R) := h
      clear h hb hok
      generalize R.left = L at *
      go_enter Try.func59, Try.ntmps59
      go_wp2
      go_ret
      exact ⟨rfl, ⟨R.left, H.out⟩, Kept.refl _ _⟩
  · have h1' : d.dead = false := by simpa using h1
    rw [h1'] at c10
    have hl := h.left h1'
    by_cases h2 : R.left = 1
    · have hst : d.stop = 1 := by rw [hl, h2]; rfl
      have ea : aliveE d = 1 := by simp [aliveE, DS.alive, h1', hst]
      have ed : d.act = { d with dead := true } := by unfold DS.act; rw [if_neg h1, if_pos hst]
      rw [ea]
      obtain ⟨b2, k2⟩ := hb.set 10 (.bool true)
      have fin : PR _ g d.act R := h.turn k2 (by rw [ed]; exact b2) hok (by rw [d.act_np]) (by rw [d.act_rows]) (by rw [d.act_loose]) (by rw [d.act_log]) rfl (by rw [ed]; intro c; cases c) hlw
      have H : Hid (PR _ g d.act R) := fin
      have y10 := b2.cell (j := 10) (v := .bool true) rfl
      rw [h2] at c9
      clear h hb hok ed fin h1 h1' b2 hl hst
      go_enter Try.func59, Try.ntmps59
      go_wp2
      go_ret
      exact ⟨rfl, ⟨R.left, H.out⟩, k2⟩
    · have hst : d.stop ≠ 1 := by rw [hl]; split <;> omega
      have ea : aliveE d = 0 := by simp [aliveE, DS.alive, h1', hst]
      rw [ea]
      obtain ⟨A, hA⟩ : ∃ A, IntKind.i64.wrap (d.acts + 1) = A := ⟨_, rfl⟩
      by_cases h3 : 1 < R.left
      · have hst2 : d.stop = R.left := by rw [hl, if_pos (by omega)]
        have ed : d.act = { d with stop := R.left - 1, acts := A } := by unfold DS.act; rw [if_neg h1, if_neg hst, if_pos (by omega), hA, hst2]
        have wr := wrap_i64_range hlw
        have ew : IntKind.i64.wrap (R.left - 1) = R.left - 1 := wrap_i64_of (by omega) (by omega)
        obtain ⟨b2, k2⟩ := hb.set 9 (.int .i64 (R.left - 1))
        obtain ⟨b3, k3⟩ := b2.set 8 (.int .i64 A)
        have k4 := k2.trans k3 (by simp)
        have fin : PR _ g d.act { R with left := R.left - 1 } := h.turn k4 (by rw [ed]; exact b3) hok (by rw [d.act_np]) (by rw [d.act_rows]) (by rw [d.act_loose]) (by rw [d.act_log]) rfl (by rw [ed]; intro _; show R.left - 1 = if 1 ≤ R.left - 1 then R.left - 1 else 0; rw [if_pos (by omega)]) ew
        have H : Hid (PR _ g d.act { R with left := R.left - 1 }) := fin
        have y8 := b2.cell (j := 8) (v := .int .i64 d.acts) rfl
        have y8' := b2.free 8
        clear h hb hok ed fin h1 h1' b2 b3 wr hl hst hst2 hlw
        generalize R.left = L at *
        go_enter Try.func59, Try.ntmps59
        go_wp2
        go_ret
        exact ⟨rfl, ⟨_, H.out⟩, k4⟩
      · have hst2 : d.stop = 0 := by rw [hl, if_neg (by omega)]
        have ed : d.act = { d with acts := A } := by unfold DS.act; rw [if_neg h1, if_neg hst, if_neg (by omega), hA]
        obtain ⟨b3, k3⟩ := hb.set 8 (.int .i64 A)
        have fin : PR _ g d.act R := h.turn k3 (by rw [ed]; exact b3) hok (by rw [d.act_np]) (by rw [d.act_rows]) (by rw [d.act_loose]) (by rw [d.act_log]) rfl (by rw [ed]; exact fun _ => hl) hlw
        have H : Hid (PR _ g d.act R) := fin
        clear h hb hok ed fin h1 h1' b3 hl hst hst2 hlw
        generalize hLL : R.left = L at *
        go_enter Try.func59, Try.ntmps59
        go_wp2
        go_ret
        exact ⟨rfl, ⟨R.left, H.out⟩, k3⟩
end Go.Proofs.Ytmipmiaflompmab

/-
  OWN WORK. The program's disk: places, reads, what it tells of itself.
-/
namespace Go.Proofs.Ytmipmiaflompmab
open Go.RowKit
set_option linter.unusedVariables false

/-- a disk of the program's at v tells d; F: its blocks; Z: the cells that its loose writes have (they never change) -/
def PD (Z : List Nat) (w : World) (v : Value) (d : DS) (F : List Nat) : Prop := ∃ g R, v = .pointer (some ⟨g, 0, none⟩) ∧ PR w g d R ∧ F = R.foot g ∧ Z = R.Z
theorem PD.ptr {Z : List Nat} {w : World} {v : Value} {d : DS} {F : List Nat} (h : PD Z w v d F) : IsPtr v := by
  obtain ⟨g, R, rfl, -⟩ := h
  exact ⟨g, rfl⟩
theorem PD.ok {Z : List Nat} {w : World} {v : Value} {d : DS} {F : List Nat} (h : PD Z w v d F) : d.Ok := by
  obtain ⟨g, R, -, h, -⟩ := h
  exact h.ok
theorem PD.lt {Z : List Nat} {w : World} {v : Value} {d : DS} {F : List Nat} (h : PD Z w v d F) : ∀ x ∈ F, x < w.heap.size := by
  obtain ⟨g, R, -, h, rfl, -⟩ := h
  exact fun x hx => h.lt hx
theorem PD.frz {Z : List Nat} {w : World} {v : Value} {d : DS} {F : List Nat} (h : PD Z w v d F) : ∀ x ∈ Z, x ∉ F ∧ x < w.heap.size := by
  obtain ⟨g, R, -, h, rfl, rfl⟩ := h
  exact fun x hx => h.frz x hx
theorem PD.kept {Z : List Nat} {w w' : World} {v : Value} {d : DS} {F S : List Nat} (h : PD Z w v d F) (k : Kept S w w') (hS : ∀ x ∈ S, x ∉ F) (hZ : ∀ x ∈ S, x ∉ Z := by simp) : PD Z w' v d F := by
  obtain ⟨g, R, e, h, rfl, rfl⟩ := h
  exact ⟨g, R, e, h.kept k hS hZ, rfl, rfl⟩
theorem PR.atR {w : World} {g : Nat} {d : DS} {R : PDat} (h : PR w g d R) {k : Nat} (hk : k < d.np + 3) :
    ∃ gr cr u, R.vr = .slice (some ⟨gr, 0, none⟩) (d.np + 3) cr ∧ R.pr[pix d.np k]? = some u ∧ w.cell? ⟨gr, pix d.np k, none⟩ = some u ∧ w.ownsRow 0 5 1 u (d.seen.getD k []).length (u8s (d.seen.getD k [])) ∧ (d.seen.getD k []).length = sizeK d.np d.ns k := by
  obtain ⟨gr, cr, e, -, -⟩ := own_at8 h.rowR (by omega)
  have hpl : R.pr.length = d.np + 3 := by have := h.rowR.1; omega
  have hll : R.pl.length = d.np + 3 := by have := h.rowL.1; omega
  have hp := pix_lt hk
  obtain ⟨u, hu⟩ : ∃ u, R.pr[pix d.np k]? = some u := ⟨_, List.getElem?_eq_getElem (by omega)⟩
  have hrow := h.rowR
  rw [e] at hrow
  refine ⟨gr, cr, u, e, hu, (own_cell hrow hu).1, ?_, ?_⟩
  · refine h.fam.own (1 + (d.np + 3) + pix d.np k) u _ ?_ ?_
    · unfold PDat.rows
      rw [show 1 + (d.np + 3) + pix d.np k = ((d.np + 3) + pix d.np k) + 1 by omega, List.getElem?_cons_succ, List.getElem?_append_right (by omega), hll]
      rw [show d.np + 3 + pix d.np k - (d.np + 3) = pix d.np k by omega]; exact hu
    · unfold DS.pall
      rw [show 1 + (d.np + 3) + pix d.np k = ((d.np + 3) + pix d.np k) + 1 by omega, List.getElem?_cons_succ, List.getElem?_append_right (by rw [prows_length]; omega), prows_length]
      rw [show d.np + 3 + pix d.np k - (d.np + 3) = pix d.np k by omega]; exact prows_at _ hk
  · exact h.ok.seen k _ (by rw [List.getD_eq_getElem?_getD, List.getElem?_eq_getElem (by rw [h.ok.seenLen]; exact hk)]; rfl)
theorem PR.atL {w : World} {g : Nat} {d : DS} {R : PDat} (h : PR w g d R) {k : Nat} (hk : k < d.np + 3) :
    ∃ gr cr u, R.vl = .slice (some ⟨gr, 0, none⟩) (d.np + 3) cr ∧ R.pl[pix d.np k]? = some u ∧ w.cell? ⟨gr, pix d.np k, none⟩ = some u ∧ w.ownsRow 0 5 1 u (d.rows.getD k []).length (u8s (d.rows.getD k [])) ∧ (d.rows.getD k []).length = sizeK d.np d.ns k := by
  obtain ⟨gr, cr, e, -, -⟩ := own_at8 h.rowL (by omega)
  have hll : R.pl.length = d.np + 3 := by have := h.rowL.1; omega
  have hp := pix_lt hk
  obtain ⟨u, hu⟩ : ∃ u, R.pl[pix d.np k]? = some u := ⟨_, List.getElem?_eq_getElem (by omega)⟩
  have hrow := h.rowL
  rw [e] at hrow
  refine ⟨gr, cr, u, e, hu, (own_cell hrow hu).1, ?_, ?_⟩
  · refine h.fam.own (pix d.np k + 1) u _ ?_ ?_
    · unfold PDat.rows
      rw [List.getElem?_cons_succ, List.getElem?_append_left (by omega)]; exact hu
    · unfold DS.pall
      rw [List.getElem?_cons_succ, List.getElem?_append_left (by rw [prows_length]; omega)]; exact prows_at _ hk
  · exact h.ok.row k _ (by rw [List.getD_eq_getElem?_getD, List.getElem?_eq_getElem (by rw [h.ok.len]; exact hk)]; rfl)
def plc (np : Nat) (ix : Option Nat) : Int := match ix with
  | none => -1
  | some k => (pix np k : Int)
theorem plc_some (np k : Nat) : plc np (some k) = (pix np k : Int) := rfl
theorem pagePlace_any (g : Nat) (d : DS) (R : PDat) (n : Int) (w : World) (h : PR w g d R) :
    Calls Try.prog 57 #[.pointer (some ⟨g, 0, none⟩), .int .i64 n] w fun e w' => e = .returned (.int .i64 (plc d.np (pageIx d.np n))) ∧ w' = w := by
  have c0 := h.blk.cell (j := 0) rfl
  clear h
  by_cases h1 : n < 0
  · rw [show pageIx d.np n = none by unfold pageIx; rw [if_neg (by omega)], show plc d.np none = -1 from rfl]
    go_enter Try.func57, Try.ntmps57
    go_wp2
    go_ret
    exact ⟨rfl, rfl⟩
  · by_cases h2 : (d.np : Int) ≤ n
    · rw [show pageIx d.np n = none by unfold pageIx; rw [if_neg (by omega)], show plc d.np none = -1 from rfl]
      go_enter Try.func57, Try.ntmps57
      go_wp2
      go_ret
      exact ⟨rfl, rfl⟩
    · rw [show pageIx d.np n = some (1 + n.toNat) by unfold pageIx; rw [if_pos (by omega)], show plc d.np (some (1 + n.toNat)) = n by rw [plc_some]; unfold pix; rw [if_neg (by omega), if_pos (by omega)]; omega]
      go_enter Try.func57, Try.ntmps57
      go_wp2
      go_ret
      exact ⟨rfl, rfl⟩
theorem pairPlace_any (g : Nat) (d : DS) (R : PDat) (w : World) (h : PR w g d R) :
    Calls Try.prog 82 #[.pointer (some ⟨g, 0, none⟩)] w fun e w' => e = .returned (.int .i64 (d.np : Int)) ∧ w' = w := by
  have c0 := h.blk.cell (j := 0) rfl
  clear h
  go_enter Try.func82, Try.ntmps82
  go_wp2
  go_ret
  exact ⟨rfl, rfl⟩
theorem plc_pair (np : Nat) : plc np (some 0) = (np : Int) := by rw [plc_some]; unfold pix; rw [if_pos rfl]
theorem masterPlace_any (g : Nat) (d : DS) (R : PDat) (n : Int) (w : World) (h : PR w g d R) :
    Calls Try.prog 83 #[.pointer (some ⟨g, 0, none⟩), .int .i64 n] w fun e w' => e = .returned (.int .i64 (plc d.np (masterIx d.np n))) ∧ w' = w := by
  have hc := pairPlace_any g d R w h
  have hnp := h.ok.np
  clear h
  by_cases h1 : n = 0
  · subst h1
    rw [show masterIx d.np 0 = some (d.np + 1) by unfold masterIx; rw [if_pos (by omega)]; simp, show plc d.np (some (d.np + 1)) = (d.np : Int) + 1 by rw [plc_some]; unfold pix; rw [if_neg (by omega), if_neg (by omega)]; omega]
    have w1 : IntKind.i64.wrap ((d.np : Int) + 1) = (d.np : Int) + 1 := wrap_i64_of (by omega) (by omega)
    clear hnp
    go_enter Try.func83, Try.ntmps83
    go_wp2_with fail
    refine hc.mono ?_
    rintro e w2 ⟨rfl, rfl⟩
    clear hc
    go_wp2
    go_ret
    exact ⟨by simp, rfl⟩
  · by_cases h2 : n = 1
    · subst h2
      rw [show masterIx d.np 1 = some (d.np + 2) by unfold masterIx; rw [if_pos (by omega)]; rfl, show plc d.np (some (d.np + 2)) = (d.np : Int) + 2 by rw [plc_some]; unfold pix; rw [if_neg (by omega), if_neg (by omega)]; omega]
      have w1 : IntKind.i64.wrap ((d.np : Int) + 1) = (d.np : Int) + 1 := wrap_i64_of (by omega) (by omega)
      have w2 : IntKind.i64.wrap ((d.np : Int) + 1 + 1) = (d.np : Int) + 2 := by rw [wrap_i64_of (by omega) (by omega)]; omega
      clear hnp h1
      go_enter Try.func83, Try.ntmps83
      go_wp2_with fail
      refine hc.mono ?_
      rintro e w2 ⟨rfl, rfl⟩
      clear hc
      go_wp2
      go_ret
      exact ⟨rfl, rfl⟩
    · rw [show masterIx d.np n = none by unfold masterIx; rw [if_neg (by omega)], show plc d.np none = -1 from rfl]
      have b1 : (n != 0) = true := by simpa using h1
      have b2 : (n != 1) = true := by simpa using h2
      clear hc hnp
      go_enter Try.func83, Try.ntmps83
      go_wp2
      go_ret
      exact ⟨rfl, rfl⟩
set_option maxHeartbeats 800000 in
theorem readAt_any (g : Nat) (d : DS) (R : PDat) (ix : Option Nat) (w : World) (h : PR w g d R) (hix : ∀ k, ix = some k → k < d.np + 3) :
    Calls Try.prog 56 #[.pointer (some ⟨g, 0, none⟩), .int .i64 (plc d.np ix)] w fun e w' => ∃ c, e = .returned (.tuple #[c, .int .i64 (readE d ix)]) ∧ w'.ownsRow w.heap.size 5 1 c (readL d ix).length (u8s (readL d ix)) ∧ (∃ l, PR w' g d.act { R with left := l }) ∧ Kept [g] w w' := by
  have ha := pact_any g d R w h
  obtain ⟨z, hz⟩ : ∃ z, z = d.alive := ⟨_, rfl⟩
  cases z with
  | false =>
    have eE : readE d ix = 1 := by unfold readE; rw [← hz]; rfl
    have eL : readL d ix = [] := by unfold readL; rw [← hz]; rfl
    have e1 : aliveE d = 1 := by unfold aliveE; rw [← hz]; rfl
    rw [eE, eL]
    rw [e1] at ha
    generalize plc d.np ix = q
    clear hz eE eL e1 h hix
    go_enter Try.func56, Try.ntmps56
    go_wp2_with fail
    refine ha.mono ?_
    rintro e w1 ⟨rfl, h1, k1⟩
    go_wp2
    go_ret2
    exact ⟨_, rfl, World.ownsRow_nil _ _ _ _, h1, k1⟩
  | true =>
    have e1 : aliveE d = 0 := by unfold aliveE; rw [← hz]; rfl
    rw [e1] at ha
    cases ix with
    | none =>
      have eE : readE d none = 61 := by unfold readE; rw [← hz]; rfl
      have eL : readL d none = [] := by unfold readL; rw [← hz]; rfl
      rw [eE, eL, show plc d.np none = -1 from rfl]
      clear hz eE eL e1 h hix
      go_enter Try.func56, Try.ntmps56
      go_wp2_with fail
      refine ha.mono ?_
      rintro e w1 ⟨rfl, h1, k1⟩
      go_wp2
      go_ret2
      exact ⟨_, rfl, World.ownsRow_nil _ _ _ _, h1, k1⟩
    | some k =>
      have hk := hix k rfl
      have eE : readE d (some k) = 0 := by unfold readE; rw [← hz]; rfl
      have eL : readL d (some k) = d.seen.getD k [] := by unfold readL; rw [← hz]; rfl
      rw [eE, eL, show plc d.np (some k) = (pix d.np k : Int) from rfl]
      have hp := pix_lt hk
      have hne : ¬ (pix d.np k : Int) = -1 := by omega
      have hp0 : (0 : Int) ≤ (pix d.np k : Int) := by omega
      have hp1 : (pix d.np k : Int) < ((d.np + 3 : Nat) : Int) := by omega
      have hns := h.ok.ns
      have HP : Hid (k < d.np + 3) := hk
      generalize hLL : d.seen.getD k [] = L
      generalize hjj : pix d.np k = j at *
      clear hz eE eL e1 h hix hk hp
      go_enter Try.func56, Try.ntmps56
      go_wp2_with fail
      refine ha.mono ?_
      clear ha
      rintro e w1 ⟨rfl, ⟨l, h1⟩, k1⟩
      obtain ⟨gr, cr, u, ev, hu, hc, ho, hsz⟩ := h1.atR (k := k) (by rw [d.act_np]; exact HP.out)
      rw [d.act_np] at hc ev hsz
      rw [hjj] at hc
      rw [d.act_seen, hLL] at ho hsz
      rw [d.act_ns] at hsz
      simp only at ev
      have c4 := h1.blk.cell (j := 4) (v := R.vr) rfl
      rw [ev] at c4
      have hb := Bs.ofOwn ho
      have hlen : L.length ≤ 140737488355328 := by rw [hsz]; have := sizeK_le d.np d.ns k hns.2; omega
      have hown := pown_any u _ w1 hb hlen
      obtain ⟨pu, cu, rfl, -⟩ := id hb
      have H1 : Hid (PR w1 g d.act { R with left := l }) := h1
      clear h1 hb ho hsz ev hlen hu hns hLL hjj
      go_wp2_with fail
      refine hown.mono ?_
      rintro e w2 ⟨c, rfl, o2, k2⟩
      have hs := k1.size
      clear hown
      go_wp2
      go_ret2
      exact ⟨_, rfl, own_mono o2 hs, ⟨l, H1.out.kept k2 (by simp) (by simp)⟩, k1.then k2⟩
end Go.Proofs.Ytmipmiaflompmab

/-
  OWN WORK. The program's disk: the log; stops; what it tells of itself.
-/
namespace Go.Proofs.Ytmipmiaflompmab
open Go.RowKit
set_option linter.unusedVariables false

theorem own_front {w : World} {base e n c : Nat} {p : Option Addr} {xs : List Value} (h : w.ownsRow base e 1 (.slice p n c) n xs) (k : Nat) (hk : k ≤ n) : w.ownsRow base e 1 (.slice p k c) k (xs.take k) := by
  have hl := h.1
  refine ⟨by rw [List.length_take]; omega, ?_⟩
  rcases h.2 with ⟨e1, e2⟩ | ⟨g, cap, cur, e1, h2, h3, h4, h5, h6, h7⟩
  · cases e1
    have : k = 0 := by omega
    subst this
    exact .inl ⟨rfl, rfl⟩
  · cases e1
    refine .inr ⟨g, c, cur, rfl, h2, h3, by omega, h5, h6, ?_⟩
    rw [← h7, List.take_take]
    congr 1; omega
theorem own_same (p : Option Addr) (n c n' c' : Nat) : (Value.slice p n c).ownBlock = (Value.slice p n' c').ownBlock := by cases p <;> rfl
theorem PR.shapes {w : World} {g : Nat} {d : DS} {R : PDat} (h : PR w g d R) : ∃ p c, R.vlog = .slice p d.log.length c ∧ Bs w R.vlog d.log ∧ w.ownsRow 0 5 1 R.vlog d.log.length (u8s d.log) := by
  have ho := h.fam.own 0 R.vlog d.log rfl rfl
  obtain ⟨p, c, e⟩ := own_shape2 ho
  exact ⟨p, c, e, Bs.ofOwn ho, ho⟩
/-- the first row of a family is another: in its own block, or made just now -/
theorem Fam.front {w w' : World} {base : Nat} {v0 v : Value} {vs : List Value} {l0 l : List UInt8} {ls : List (List UInt8)} {S : List Nat} (h : Fam w base (v0 :: vs) (l0 :: ls)) (k : Kept S w w') (hS : ∀ x ∈ S, x ∉ blocks vs)
    (ho : w'.ownsRow base 5 1 v l.length (u8s l)) (hv : ∀ x, v.ownBlock = some x → v0.ownBlock = some x ∨ w.heap.size ≤ x) : Fam w' base (v :: vs) (l :: ls) := by
  have hlen : vs.length = ls.length := by have := h.len; simpa using this
  refine ⟨by simp [hlen], fun i u m hu hm => ?_, fun i j u u' x hij hu hu' hx => ?_⟩
  · rcases i with _ | i
    · simp at hu hm; subst hu; subst hm; exact ho
    · simp at hu hm
      exact own_of_kept (h.own (i + 1) u m (by simpa using hu) (by simpa using hm)) k fun x hx hs => hS x hs (mem_blocks hu hx)
  · rcases j with _ | j
    · omega
    · simp at hu'
      rcases i with _ | i
      · simp at hu; subst hu
        intro e
        rcases hv x hx with c | c
        · exact h.apart 0 (j + 1) v0 u' x (by omega) rfl (by simpa using hu') c e
        · have := (h.lt (j + 1) u' x (by simpa using hu') e).2
          omega
      · simp at hu
        exact h.apart (i + 1) (j + 1) u u' x (by omega) (by simpa using hu) (by simpa using hu') hx
/-- another log -/
theorem PR.newLog {w w' : World} {g : Nat} {d d' : DS} {R : PDat} {v : Value} {S : List Nat} (h : PR w g d R) (k : Kept S w w') (hS : ∀ x ∈ S, x = g ∨ R.vlog.ownBlock = some x) (hb : Blk w' g 83 (({ R with vlog := v } : PDat).cells d')) (hok : d'.Ok) (e1 : d'.np = d.np) (e2 : d'.rows = d.rows) (e3 : d'.loose = d.loose) (e4 : d'.stop = d.stop) (e5 : d'.dead = d.dead)
    (ho : w'.ownsRow 0 5 1 v d'.log.length (u8s d'.log)) (hv : ∀ x, v.ownBlock = some x → R.vlog.ownBlock = some x ∨ w.heap.size ≤ x) : PR w' g d' { R with vlog := v } ∧ ∀ x ∈ ({ R with vlog := v } : PDat).foot g, x ∈ R.foot g ∨ w.heap.size ≤ x := by
  obtain ⟨f1, f2, f3, f4, f5⟩ := h.far
  have hlg : ∀ x, R.vlog.ownBlock = some x → x ∈ blocks R.rows := fun x hx => mem_blocks (k := 0) (by rfl) hx
  have n8 : ∀ x, R.vlog.ownBlock = some x → ¬ Not8 w x := fun x hx => (h.fam.not8 (hlg x hx)).1
  have nt : ∀ x ∈ S, x ∉ blocks (R.pl ++ R.pr) := fun x hx hm => by
    rcases hS x hx with c | c
    · subst c; exact f4 (blocks_tail hm)
    · obtain ⟨j, u, hu, hux⟩ := blocks_mem hm
      exact h.fam.apart 0 (j + 1) R.vlog u x (by omega) rfl (by simpa [PDat.rows] using hu) c hux
  have nl : ∀ (u : Value) (n e : Nat) xs, w.ownsRow 0 e 1 u n xs → e ≠ 5 → u.ownBlock ≠ some g → ∀ x, u.ownBlock = some x → x ∉ S := fun u n e xs ho he hg x hx hm => by
    rcases hS x hm with c | c
    · subst c; exact hg hx
    · exact n8 x c (own_not8 ho he x hx)
  have nZ : ∀ x ∈ S, x ∉ R.Z := fun x hx hm => by
    rcases hS x hx with c | c
    · subst c; exact f5 hm
    · exact (h.frz x hm).1 (PDat.inB (hlg x c))
  have hs : d'.seen = d.seen := by unfold DS.seen; rw [e2, e3]
  have hfoot : ∀ x ∈ ({ R with vlog := v } : PDat).foot g, x ∈ R.foot g ∨ w.heap.size ≤ x := fun x hx => by
    unfold PDat.foot at hx
    rcases List.mem_cons.1 hx with c | hx
    · exact .inl (by rw [c]; exact PDat.self)
    · rcases List.mem_append.1 hx with hx | hx
      · exact .inl (List.mem_cons_of_mem _ (List.mem_append_left _ hx))
      · rcases blocks_cons_ne (v := v) hx with c | c
        · rcases hv x c with c2 | c2
          · exact .inl (PDat.inB (hlg x c2))
          · exact .inr c2
        · exact .inl (PDat.inB (blocks_tail c))
  refine ⟨⟨hok, hb, ?_, ?_, ?_, ?_, ?_, h.apart, ?_, h.leftw, fun x hx => ⟨fun hm => ?_, Nat.lt_of_lt_of_le (h.frz x hx).2 k.size⟩⟩, hfoot⟩
  · unfold DS.pall
    rw [e1, e2, hs]
    exact Fam.front (v0 := R.vlog) (l0 := d.log) h.fam k nt ho hv
  · rw [e1]; exact own_of_kept h.rowL k (nl _ _ _ _ h.rowL (by decide) f1)
  · rw [e1]; exact own_of_kept h.rowR k (nl _ _ _ _ h.rowR (by decide) f2)
  · rw [e3]; exact own_of_kept h.rowF k (nl _ _ _ _ h.rowF (by decide) f3)
  · rw [e1, e3]; exact fun i f x hf hx => (h.loose i f x hf hx).kept k nZ
  · rw [e4, e5]; exact h.left
  · rcases hfoot x hm with c | c
    · exact (h.frz x hx).1 c
    · have := (h.frz x hx).2; omega
theorem psyncLog_any (g : Nat) (d : DS) (R : PDat) (w : World) (h : PR w g d R) :
    Calls Try.prog 70 #[.pointer (some ⟨g, 0, none⟩)] w fun e w' => e = .returned (.int .i64 (aliveE d)) ∧ (∃ l, PR w' g d.syncLog { R with left := l }) ∧ Kept [g] w w' := by
  have ha := pact_any g d R w h
  have hok := h.ok.syncLog
  obtain ⟨z, hz⟩ : ∃ z, z = d.alive := ⟨_, rfl⟩
  cases z with
  | false =>
    have eE : aliveE d = 1 := by unfold aliveE; rw [← hz]; rfl
    have ed : d.syncLog = d.act := by unfold DS.syncLog; rw [← hz]; rfl
    rw [eE] at ha
    rw [eE, ed]
    clear hz eE ed hok h
    go_enter Try.func70, Try.ntmps70
    go_wp2_with fail
    refine ha.mono ?_
    rintro e w1 ⟨rfl, h1, k1⟩
    go_wp2
    go_ret
    exact ⟨rfl, h1, k1⟩
  | true =>
    have eE : aliveE d = 0 := by unfold aliveE; rw [← hz]; rfl
    have ed : d.syncLog = { d.act with lasted := d.log.length } := by unfold DS.syncLog; rw [← hz]; rfl
    rw [eE] at ha
    rw [eE]
    have ED : Hid (d.syncLog = { d.act with lasted := d.log.length }) := ed
    clear hz eE ed h
    go_enter Try.func70, Try.ntmps70
    go_wp2_with fail
    refine ha.mono ?_
    rintro e w1 ⟨rfl, ⟨l, h1⟩, k1⟩
    obtain ⟨p, c, e1, -⟩ := h1.shapes
    rw [d.act_log] at e1
    simp only at e1
    have c6 := h1.blk.cell (j := 6) (v := R.vlog) rfl
    have c7 := h1.blk.cell (j := 7) rfl
    have f7 := h1.blk.free 7
    rw [e1] at c6
    obtain ⟨b2, k2⟩ := h1.blk.set 7 (.int .i64 (d.log.length : Int))
    have fin : PR _ g d.syncLog { R with left := l } := h1.turn k2 (by rw [ED.out]; exact b2) hok (by rw [ED.out]) (by rw [ED.out]) (by rw [ED.out]) (by rw [ED.out]) rfl (by rw [ED.out]; exact h1.left) h1.leftw
    have H : Hid (PR _ g d.syncLog { R with left := l }) := fin
    clear fin b2 h1 e1 ha hok
    go_wp2
    go_ret
    exact ⟨rfl, ⟨l, H.out⟩, k1.trans k2 (by simp)⟩
set_option maxHeartbeats 800000 in
theorem pcut_any (g : Nat) (d : DS) (R : PDat) (n : Int) (w : World) (h : PR w g d R) :
    Calls Try.prog 72 #[.pointer (some ⟨g, 0, none⟩), .int .i64 n] w fun e w' => ∃ R', e = .returned (.int .i64 (cutE d n)) ∧ PR w' g (d.cut n) R' ∧ R'.Z = R.Z ∧ Kept [g] w w' ∧ ∀ x ∈ R'.foot g, x ∈ R.foot g ∨ w.heap.size ≤ x := by
  have ha := pact_any g d R w h
  have hok := h.ok.cut n
  obtain ⟨z, hz⟩ : ∃ z, z = d.alive := ⟨_, rfl⟩
  cases z with
  | false =>
    have eA : aliveE d = 1 := by unfold aliveE; rw [← hz]; rfl
    have eE : cutE d n = 1 := by unfold cutE; rw [← hz]; rfl
    have ed : d.cut n = d.act := by unfold DS.cut; rw [eE]; rfl
    rw [eA] at ha
    rw [eE, ed]
    clear hz eE ed hok h eA
    go_enter Try.func72, Try.ntmps72
    go_wp2_with fail
    refine ha.mono ?_
    rintro e w1 ⟨rfl, ⟨l, h1⟩, k1⟩
    go_wp2
    go_ret
    exact ⟨_, rfl, h1, rfl, k1, fun x hx => .inl hx⟩
  | true =>
    have eA : aliveE d = 0 := by unfold aliveE; rw [← hz]; rfl
    rw [eA] at ha
    by_cases hc : n < 0 ∨ (d.log.length : Int) < n
    · have eE : cutE d n = 61 := by unfold cutE; rw [← hz]; simp [hc]
      have ed : d.cut n = d.act := by unfold DS.cut; rw [eE]; rfl
      rw [eE, ed]
      clear hz eE ed hok h eA
      go_enter Try.func72, Try.ntmps72
      go_wp2_with fail
      refine ha.mono ?_
      rintro e w1 ⟨rfl, ⟨l, h1⟩, k1⟩
      obtain ⟨p, c, e1, -⟩ := h1.shapes
      rw [d.act_log] at e1
      simp only at e1
      have c6 := h1.blk.cell (j := 6) (v := R.vlog) rfl
      rw [e1] at c6
      have H1 : Hid (PR w1 g d.act { R with left := l }) := h1
      clear h1 e1 ha
      by_cases hc0 : n < 0
      · clear hc
        go_wp2
        go_ret
        exact ⟨_, rfl, H1.out, rfl, k1, fun x hx => .inl hx⟩
      · have hc1 : (d.log.length : Int) < n := by omega
        clear hc
        go_wp2
        go_ret
        exact ⟨_, rfl, H1.out, rfl, k1, fun x hx => .inl hx⟩
    · obtain ⟨m, rfl⟩ : ∃ m : Nat, n = (m : Int) := ⟨n.toNat, by omega⟩
      have hm : m ≤ d.log.length := by omega
      have eE : cutE d (m : Int) = 0 := by unfold cutE; rw [← hz]; simp; omega
      have ed : d.cut (m : Int) = { d.act with log := d.log.take m, lasted := min d.lasted m } := by unfold DS.cut; rw [eE]; rfl
      rw [eE]
      have ED : Hid (d.cut (m : Int) = { d.act with log := d.log.take m, lasted := min d.lasted m }) := ed
      have hm0 : ¬ (m : Int) < 0 := by omega
      have hm1 : ¬ (d.log.length : Int) < (m : Int) := by omega
      clear hz eE ed h hc eA
      go_enter Try.func72, Try.ntmps72
      go_wp2_with fail
      refine ha.mono ?_
      rintro e w1 ⟨rfl, ⟨l, h1⟩, k1⟩
      obtain ⟨p, c, e1, hbs, how⟩ := h1.shapes
      rw [d.act_log] at e1 hbs how
      simp only at e1 hbs how
      have c6 := h1.blk.cell (j := 6) (v := R.vlog) rfl
      have f6 := h1.blk.free 6
      rw [e1] at hbs how c6
      obtain ⟨p2, hcut, -, hb2, -⟩ := hbs.cuts (P := Try.prog) 25 5 Try.underlying25 (by kernel_rfl) m hm
      have hfr := own_front how m hm
      obtain ⟨b2, k2⟩ := h1.blk.set 6 (.slice p m c)
      have c7 := b2.cell (j := 7) (v := .int .i64 (d.act.lasted : Int)) rfl
      rw [d.act_lasted] at c7
      have f7 := b2.free 7
      obtain ⟨mn, hmn⟩ : ∃ mn, mn = min d.lasted m := ⟨_, rfl⟩
      obtain ⟨b3, k3⟩ := b2.set 7 (.int .i64 (mn : Int))
      have k4 : Kept [g] w1 _ := k2.trans k3 (by simp)
      have hlen : (d.log.take m).length = m := by simp; omega
      have gn := h1.far.2.2.2.1
      have o4 := own_of_kept hfr k4 (fun x hx hmm => gn (by simp at hmm; subst hmm; exact mem_blocks (vs := ({ R with left := l } : PDat).rows) (k := 0) (v := R.vlog) rfl (by rw [e1, own_same p d.log.length c m c]; exact hx)))
      have eu : (u8s d.log).take m = u8s (d.log.take m) := by simp [u8s, List.map_take]
      rw [eu] at o4
      have fin := h1.newLog (v := .slice p m c) (d' := d.cut (m : Int)) k4 (by simp) (by rw [ED.out, ← hmn]; exact b3) hok (by rw [ED.out]) (by rw [ED.out]) (by rw [ED.out]) (by rw [ED.out]) (by rw [ED.out]) (by rw [ED.out]; show World.ownsRow _ 0 _ 1 _ (d.log.take m).length (u8s (d.log.take m)); rw [hlen]; exact o4) (fun x hx => .inl (by simp only; rw [e1, own_same p d.log.length c m c]; exact hx))
      have FIN : Hid (PR _ g (d.cut (m : Int)) { ({ R with left := l } : PDat) with vlog := .slice p m c } ∧ ∀ x ∈ ({ ({ R with left := l } : PDat) with vlog := .slice p m c } : PDat).foot g, x ∈ ({ R with left := l } : PDat).foot g ∨ w1.heap.size ≤ x) := fin
      have hsz := k1.size
      have K5 : Hid (Kept [g] w _) := k1.trans k4 (by simp)
      clear fin b2 b3 hb2 hbs h1 ha hfr o4 how e1 hok gn k4 hlen eu
      by_cases hgt : (m : Int) < (d.lasted : Int)
      · have emin : mn = m := by omega
        subst emin
        clear hmn
        go_wp2
        go_ret
        exact ⟨_, rfl, FIN.out.1, rfl, K5.out, fun x hx => by rcases FIN.out.2 x hx with c | c; exact .inl c; exact .inr (by omega)⟩
      · have emin : mn = d.lasted := by omega
        subst emin
        clear hmn
        go_wp2
        go_ret
        exact ⟨_, rfl, FIN.out.1, rfl, K5.out, fun x hx => by rcases FIN.out.2 x hx with c | c; exact .inl c; exact .inr (by omega)⟩
set_option maxHeartbeats 1600000 in
theorem pappend_any (g : Nat) (d : DS) (R : PDat) (u : Value) (b : List UInt8) (w : World) (h : PR w g d R) (hu : Bs w u b) (hne : b ≠ [] → u.ownBlock ≠ some g) :
    Calls Try.prog 22 #[.pointer (some ⟨g, 0, none⟩), u] w fun e w' => ∃ R', e = .returned (.int .i64 (appendE d b)) ∧ PR w' g (d.append b) R' ∧ R'.Z = R.Z ∧ Kept (g :: R.vlog.ownBlock.toList) w w' ∧ ∀ x ∈ R'.foot g, x ∈ R.foot g ∨ w.heap.size ≤ x := by
  have ha := pact_any g d R w h
  have hok := h.ok.append b
  have hl := h.ok.log
  have hlm := h.ok.lm
  obtain ⟨pu, cu, rfl, hu1, hu2, -⟩ := id hu
  unfold maxLen at hu2
  have HU : Hid (b.length ≤ 9223372036854775807) := (show b.length ≤ 9223372036854775807 by omega)
  clear hu1 hu2
  obtain ⟨z, hz⟩ : ∃ z, z = d.alive := ⟨_, rfl⟩
  cases z with
  | false =>
    have eA : aliveE d = 1 := by unfold aliveE; rw [← hz]; rfl
    have eE : appendE d b = 1 := by unfold appendE; rw [← hz]; rfl
    have ed : d.append b = d.act := by unfold DS.append; rw [eE]; rfl
    rw [eA] at ha
    rw [eE, ed]
    clear hz eE ed hok h hl hlm eA
    go_enter Try.func22, Try.ntmps22
    go_wp2_with fail
    refine ha.mono ?_
    rintro e w1 ⟨rfl, ⟨l, h1⟩, k1⟩
    go_wp2
    go_ret
    exact ⟨_, rfl, h1, rfl, k1.mono (by simp), fun x hx => .inl hx⟩
  | true =>
    have eA : aliveE d = 0 := by unfold aliveE; rw [← hz]; rfl
    rw [eA] at ha
    have ws : IntKind.i64.wrap ((d.lm : Int) - (d.log.length : Int)) = (d.lm : Int) - (d.log.length : Int) := wrap_i64_of (by omega) (by omega)
    by_cases hc : d.lm < d.log.length + b.length
    · have eE : appendE d b = 63 := by unfold appendE; rw [← hz]; simp [hc]
      have ed : d.append b = d.act := by unfold DS.append; rw [eE]; rfl
      have hc' : (d.lm : Int) - (d.log.length : Int) < (b.length : Int) := by omega
      rw [eE, ed]
      clear hz eE ed hok h hl hlm hc eA
      go_enter Try.func22, Try.ntmps22
      go_wp2_with fail
      refine ha.mono ?_
      rintro e w1 ⟨rfl, ⟨l, h1⟩, k1⟩
      obtain ⟨p, c, e1, -⟩ := h1.shapes
      rw [d.act_log] at e1
      simp only at e1
      have c6 := h1.blk.cell (j := 6) (v := R.vlog) rfl
      have c2 := h1.blk.cell (j := 2) rfl
      rw [e1] at c6
      rw [d.act_lm] at c2
      have H1 : Hid (PR w1 g d.act { R with left := l }) := h1
      clear h1 e1 ha
      go_wp2
      go_quiet (fail)
      go_wp2
      go_ret
      exact ⟨_, rfl, H1.out.kept ((Kept.refl [] w1).drewN' _) (by simp) (by simp), rfl, (k1.then ((Kept.refl [] w1).drewN' _)).mono (by simp), fun x hx => .inl hx⟩
    · have eE : appendE d b = 0 := by unfold appendE; rw [← hz]; simp [hc]
      have ed : d.append b = { d.act with log := d.log ++ b } := by unfold DS.append; rw [eE]; rfl
      have hc' : ¬ (d.lm : Int) - (d.log.length : Int) < (b.length : Int) := by omega
      rw [eE]
      have ED : Hid (d.append b = { d.act with log := d.log ++ b }) := ed
      have HL : Hid (d.log.length + b.length ≤ 65536) := (show d.log.length + b.length ≤ 65536 by omega)
      clear hz eE ed h hl hlm hc eA
      go_enter Try.func22, Try.ntmps22
      go_wp2_with fail
      refine ha.mono ?_
      rintro e w1 ⟨rfl, ⟨l, h1⟩, k1⟩
      obtain ⟨p, c, e1, -, how⟩ := h1.shapes
      rw [d.act_log] at e1 how
      simp only at e1 how
      have c6 := h1.blk.cell (j := 6) (v := R.vlog) rfl
      have c2 := h1.blk.cell (j := 2) rfl
      rw [e1] at c6 how
      rw [d.act_lm] at c2
      have hub : Bs w1 (.slice pu b.length cu) b := hu.keptNe k1 fun h0 x hx hm => hne h0 (by simp at hm; subst hm; exact hx)
      have gn : g ∉ (Value.slice p d.log.length c).ownBlock.toList := fun hm => h1.far.2.2.2.1 (mem_blocks (vs := ({ R with left := l } : PDat).rows) (k := 0) (v := R.vlog) rfl (by rw [e1]; simpa using hm))
      have H1 : Hid (PR w1 g d.act { R with left := l }) := h1
      have E1 : Hid (R.vlog = .slice p d.log.length c) := e1
      clear h1 e1 ha hu hne
      go_wp2
      go_quiet (fail)
      have o1 : (w1.drewN nq).ownsRow 0 5 1 (.slice p d.log.length c) d.log.length (u8s d.log) := own_of_kept how ((Kept.refl [] w1).drewN' nq) (by simp)
      have hub1 : Bs (w1.drewN nq) (.slice pu b.length cu) b := hub.kept ((Kept.refl [] w1).drewN' nq)
      clear how hub c2
      go_wp2_with (at_builtin; refine wpList_append_bs rfl (.tmp 29) (.tmp 30) 25 rfl 0 5 Try.underlying25 (by kernel_rfl) _ _ _ (by rfl) o1 _ b (by rfl) hub1 (by have := HL.out; omega) (Nat.zero_le _) ?_; intro v5 w5 o5 g5 at5; obtain ⟨p5, c5, rfl⟩ := own_shape2 o5; have kE : Kept (Value.slice p d.log.length c).ownBlock.toList w1 w5 := ((Kept.refl _ w1).drewN' nq).trans (Kept.ofGrown (S := (Value.slice p d.log.length c).ownBlock.toList) g5 (by intro k e _; simp [e])) (fun x hx => .inl hx); have b5 := H1.out.blk.kept kE gn; have f6 := b5.free 6; have c6' := b5.cell (j := 6) (v := R.vlog) rfl; rw [E1.out] at c6')
      obtain ⟨b6, k6⟩ := b5.set 6 (.slice p5 (d.log.length + b.length) c5)
      have k7 : Kept (g :: (Value.slice p d.log.length c).ownBlock.toList) w1 (w5.setCell ⟨g, 6, none⟩ (.slice p5 (d.log.length + b.length) c5)) := (kE.mono (by intro x hx; simp [hx])).trans k6 (by intro x hx; simp at hx; subst hx; exact .inl (by simp))
      have hwv : ∀ x, (Value.slice p5 (d.log.length + b.length) c5).ownBlock = some x → (Value.slice p d.log.length c).ownBlock = some x ∨ w1.heap.size ≤ x := fun x hx => by
        rcases at5 with e | e
        · rw [e] at hx; exact .inl hx
        · rw [e] at hx; cases hx; exact .inr (Nat.le_refl _)
      have o6 := own_of_kept o5 k6 (fun x hx hm => by
        simp at hm; subst hm
        rcases hwv x hx with e | e
        · exact gn (by simp [e])
        · have := H1.out.blk.lt; omega)
      rw [← u8s_append] at o6
      have fin := H1.out.newLog (v := .slice p5 (d.log.length + b.length) c5) (d' := d.append b) k7 (by intro x hx; rcases List.mem_cons.1 hx with c | c; exact .inl c; exact .inr (by simp only; rw [E1.out]; simpa using c)) (by rw [ED.out]; exact b6) hok (by rw [ED.out]) (by rw [ED.out]) (by rw [ED.out]) (by rw [ED.out]) (by rw [ED.out]) (by rw [ED.out]; show World.ownsRow _ 0 _ 1 _ (d.log ++ b).length (u8s (d.log ++ b)); rw [List.length_append]; exact o6) (fun x hx => by simp only; rw [E1.out]; exact hwv x hx)
      have hsz := k1.size
      have kk : Kept (g :: R.vlog.ownBlock.toList) w (w5.setCell ⟨g, 6, none⟩ (.slice p5 (d.log.length + b.length) c5)) := by rw [E1.out]; exact (k1.mono (by simp)).trans k7 (fun x hx => .inl hx)
      go_ret
      exact ⟨_, rfl, fin.1, rfl, kk, fun x hx => by rcases fin.2 x hx with c | c; exact .inl c; exact .inr (by omega)⟩
end Go.Proofs.Ytmipmiaflompmab

