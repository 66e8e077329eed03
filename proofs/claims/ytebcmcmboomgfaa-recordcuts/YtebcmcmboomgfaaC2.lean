import Derived.Test.YtebcmcmboomgfaaC1
/-
  OWN WORK (by mkrec3.py). The document's records (tidemarkref09): lists.
-/
namespace Go.Proofs.Ytebcmcmboomgfaa
open Go.RowKit
set_option linter.unusedVariables false
set_option linter.unusedSimpArgs false

theorem Cs.rowAt {w : World} {v : Value} {l : List RowR} (h : Cs w 5 v l.length (rcells l)) (hn : 0 < l.length) : ∃ b o c, v = .slice (some ⟨b, o, none⟩) l.length c ∧ ∀ (i : Nat) x, l[i]? = some x → w.cell? ⟨b, o + i * 5, none⟩ = some (.int .i64 x.birth) ∧ w.cell? ⟨b, o + i * 5 + 1, none⟩ = some (.int .i64 x.id) ∧ w.cell? ⟨b, o + i * 5 + 2, none⟩ = some (.int .i64 x.state) ∧ w.cell? ⟨b, o + i * 5 + 3, none⟩ = some (.int .i64 x.last) ∧ w.cell? ⟨b, o + i * 5 + 4, none⟩ = some (.int .i64 x.next) := by
  obtain ⟨b, o, c, e, hc⟩ := h.pos hn (by omega)
  refine ⟨b, o, c, e, fun i x hx => ?_⟩
  obtain ⟨h0, h1, h2, h3, h4⟩ := rcells_at hx
  exact ⟨hc _ _ h0, hc _ _ h1, hc _ _ h2, hc _ _ h3, hc _ _ h4⟩
theorem Cs.recAt {w : World} {v : Value} {l : List RecR} (h : Cs w 2 v l.length (dcells l)) (hn : 0 < l.length) : ∃ b o c, v = .slice (some ⟨b, o, none⟩) l.length c ∧ ∀ (i : Nat) x, l[i]? = some x → w.cell? ⟨b, o + i * 2, none⟩ = some (.int .i64 x.page) ∧ w.cell? ⟨b, o + i * 2 + 1, none⟩ = some (.int .i64 x.lsn) := by
  obtain ⟨b, o, c, e, hc⟩ := h.pos hn (by omega)
  refine ⟨b, o, c, e, fun i x hx => ?_⟩
  obtain ⟨h0, h1⟩ := dcells_at hx
  exact ⟨hc _ _ h0, hc _ _ h1⟩
/-- the first k rows are right, and rise -/
def rowsTo (l : List RowR) (k : Nat) : Prop := (∀ (i : Nat) x, i < k → l[i]? = some x → rowOk x) ∧ ∀ (i : Nat) x y, i + 1 < k → l[i]? = some x → l[i + 1]? = some y → x.birth < y.birth
def recsTo (l : List RecR) (k : Nat) : Prop := (∀ (i : Nat) x, i < k → l[i]? = some x → recOk x) ∧ ∀ (i : Nat) x y, i + 1 < k → l[i]? = some x → l[i + 1]? = some y → x.page < y.page
theorem rowsTo.all {l : List RowR} (h : rowsTo l l.length) : (∀ x ∈ l, rowOk x) ∧ ∀ (i : Nat) x y, l[i]? = some x → l[i + 1]? = some y → x.birth < y.birth :=
  ⟨fun x hx => by obtain ⟨i, hi⟩ := List.getElem?_of_mem hx; exact h.1 i x (List.getElem?_eq_some_iff.1 hi).1 hi, fun i x y hx hy => h.2 i x y (List.getElem?_eq_some_iff.1 hy).1 hx hy⟩
theorem recsTo.all {l : List RecR} (h : recsTo l l.length) : (∀ x ∈ l, recOk x) ∧ ∀ (i : Nat) x y, l[i]? = some x → l[i + 1]? = some y → x.page < y.page :=
  ⟨fun x hx => by obtain ⟨i, hi⟩ := List.getElem?_of_mem hx; exact h.1 i x (List.getElem?_eq_some_iff.1 hi).1 hi, fun i x y hx hy => h.2 i x y (List.getElem?_eq_some_iff.1 hy).1 hx hy⟩
theorem rowsTo.next {l : List RowR} {k : Nat} {x : RowR} (h : rowsTo l k) (hx : l[k]? = some x) (ho : rowOk x) (hr : ∀ j y, k = j + 1 → l[j]? = some y → y.birth < x.birth) : rowsTo l (k + 1) := by
  refine ⟨fun i y hi hy => ?_, fun i y z hi hy hz => ?_⟩
  · by_cases c : i = k
    · subst c; rw [hx] at hy; cases hy; exact ho
    · exact h.1 i y (by omega) hy
  · by_cases c : i + 1 = k
    · subst c; rw [hx] at hz; cases hz; exact hr i y rfl hy
    · exact h.2 i y z (by omega) hy hz
theorem recsTo.next {l : List RecR} {k : Nat} {x : RecR} (h : recsTo l k) (hx : l[k]? = some x) (ho : recOk x) (hr : ∀ j y, k = j + 1 → l[j]? = some y → y.page < x.page) : recsTo l (k + 1) := by
  refine ⟨fun i y hi hy => ?_, fun i y z hi hy hz => ?_⟩
  · by_cases c : i = k
    · subst c; rw [hx] at hy; cases hy; exact ho
    · exact h.1 i y (by omega) hy
  · by_cases c : i + 1 = k
    · subst c; rw [hx] at hz; cases hz; exact hr i y rfl hy
    · exact h.2 i y z (by omega) hy hz

set_option maxRecDepth 20000 in
set_option maxHeartbeats 6400000 in
theorem rLists (V : RV) (r : Rcd) (w : World) (h : SeeR w V r) : Calls Try.prog 61 #[r.agg V] w fun e w' => e = .returned (.bool (bl (listsOk r))) ∧ Kept [] w w' := by
  haveI HNE : ∀ w2, Nonempty (Calm w2) := calmNe
  obtain ⟨pb, cb, pa, ca, pr, cr, pd, cd, rfl⟩ := h.shapes
  have F : ∀ {P : Prop}, (listsOk r → P) → ¬ P → bl (listsOk r) = false := fun h1 h2 => bl_f fun h => h2 (h1 h)
  have hT := fun (h : listsOk r) => bl_t h
  have hLO : listsOk r = listsOk r := rfl
  obtain ⟨kind, birth, prev, id, page, frm, before, after, next, rows, dirty⟩ := r
  have HR := @hideH _ h.rows
  have HD := @hideH _ h.dirty
  clear h
  unfold Rcd.agg
  dsimp only at HR HD ⊢
  obtain ⟨R, hRd⟩ : ∃ R : Rcd, R = ⟨kind, birth, prev, id, page, frm, before, after, next, rows, dirty⟩ := ⟨_, rfl⟩
  rw [← hRd] at F hT ⊢
  have eR : R.rows = rows ∧ R.dirty = dirty := by rw [hRd]; exact ⟨rfl, rfl⟩
  have HEQ := @hideH _ eR
  have HT := @hideH _ hT
  clear hLO hRd eR hT
  obtain ⟨Q, hQ⟩ : ∃ Q, Q = bl (listsOk R) := ⟨_, rfl⟩
  have HQ := @hideH _ hQ
  have HF1 := @hideH _ (show ¬ (rows.length ≤ 8 ∧ dirty.length ≤ 16) → Q = false from fun h => by rw [hQ]; exact F (fun q => by have := q.1; rw [HEQ.out.1, HEQ.out.2] at this; exact this) h)
  have HF2 := @hideH _ (show ∀ (i : Nat) x, rows[i]? = some x → ¬ rowOk x → Q = false from fun i x hx h => by rw [hQ]; exact F (fun q => by have := q.2.1.1; rw [HEQ.out.1] at this; exact this x (List.mem_of_getElem? hx)) h)
  have HF3 := @hideH _ (show ∀ (i : Nat) x y, rows[i]? = some x → rows[i + 1]? = some y → ¬ x.birth < y.birth → Q = false from fun i x y hx hy h => by rw [hQ]; exact F (fun q => by have := q.2.1.2; rw [HEQ.out.1] at this; exact this i x y hx hy) h)
  have HF4 := @hideH _ (show ∀ (i : Nat) x, dirty[i]? = some x → ¬ recOk x → Q = false from fun i x hx h => by rw [hQ]; exact F (fun q => by have := q.2.2.1; rw [HEQ.out.2] at this; exact this x (List.mem_of_getElem? hx)) h)
  have HF5 := @hideH _ (show ∀ (i : Nat) x y, dirty[i]? = some x → dirty[i + 1]? = some y → ¬ x.page < y.page → Q = false from fun i x y hx hy h => by rw [hQ]; exact F (fun q => by have := q.2.2.2; rw [HEQ.out.2] at this; exact this i x y hx hy) h)
  have HF6 := @hideH _ (show rows.length ≤ 8 ∧ dirty.length ≤ 16 → rowsTo rows rows.length → recsTo dirty dirty.length → Q = true from fun h1 h2 h3 => by rw [hQ]; exact HT.out (by refine ⟨by rw [HEQ.out.1, HEQ.out.2]; exact h1, by rw [HEQ.out.1]; exact h2.all, ?_⟩; rw [HEQ.out.2]; exact h3.all))
  rw [← hQ]
  clear hQ F HT
  obtain ⟨w1, hw1⟩ : ∃ w1, w1 = w.alloc (.cells #[.int .i64 kind, .int .i64 birth, .int .i64 prev, .int .i64 id, .int .i64 page, .int .i64 frm, .slice pb before.length cb, .slice pa after.length ca, .int .i64 next, .slice pr rows.length cr, .slice pd dirty.length cd] 26) := ⟨_, rfl⟩
  have k1 : Kept [] w w1 := by rw [hw1]; exact (Kept.refl [] w).alloc _
  have bR : Blk w1 w.heap.size 26 [.int .i64 kind, .int .i64 birth, .int .i64 prev, .int .i64 id, .int .i64 page, .int .i64 frm, .slice pb before.length cb, .slice pa after.length ca, .int .i64 next, .slice pr rows.length cr, .slice pd dirty.length cd] := by rw [hw1]; exact Blk.new w _ _
  have HW1 := @hideH _ hw1
  have HB := @hideH _ bR
  have K1 := @hideH _ k1
  have c9 := bR.cell (j := 9) rfl
  have c10 := bR.cell (j := 10) rfl
  clear bR k1
  by_cases hs : rows.length ≤ 8 ∧ dirty.length ≤ 16
  rotate_left
  · have eQ := @hideH _ (HF1.out hs)
    by_cases h8 : (8 : Int) < (rows.length : Int)
    · go_enter Try.func61, Try.ntmps61
      go_upto_region 1 with fail
      rw [← HW1.out]
      clear hw1
      go_wp2
      go_ret
      exact ⟨by rw [eQ.out]; rfl, K1.out⟩
    · have h16 : (16 : Int) < (dirty.length : Int) := by omega
      go_enter Try.func61, Try.ntmps61
      go_upto_region 1 with fail
      rw [← HW1.out]
      clear hw1
      go_wp2
      go_ret
      exact ⟨by rw [eQ.out]; rfl, K1.out⟩
  have h8 : ¬ (8 : Int) < (rows.length : Int) := by omega
  have h16 : ¬ (16 : Int) < (dirty.length : Int) := by omega
  have HS := @hideH _ hs
  clear hs
  go_enter Try.func61, Try.ntmps61
  go_upto_region 1 with fail
  rw [← HW1.out]
  clear hw1 HW1
  go_wp2
  go_loopw [3] (fun vi wr => ∃ k : Nat, k ≤ rows.length ∧ vi = .int .i64 k ∧ Hid (rowsTo rows k ∧ Kept [] w1 wr)) (fun vi _ => rows.length - (intOf vi).toNat)
  case atStart => exact ⟨0, Nat.zero_le _, rfl, ⟨fun i x hi => by omega, fun i x y hi => by omega⟩, Kept.refl [] _⟩
  case round =>
    obtain ⟨k, hk, rfl, hh⟩ := hrel
    have d9 := hh.out.2.cell c9 (by simp)
    have d10 := hh.out.2.cell c10 (by simp)
    by_cases hkl : k < rows.length
    · have hkl' : (k : Int) < (rows.length : Int) := by omega
      have hk0 : (0 : Int) ≤ (k : Int) := by omega
      have wk : IntKind.i64.wrap ((k : Int) + 1) = (k : Int) + 1 := wrap_i64_of (by omega) (by have := HS.out; omega)
      obtain ⟨x, hx⟩ : ∃ x, rows[k]? = some x := ⟨_, List.getElem?_eq_getElem hkl⟩
      obtain ⟨b, o, c, ev, hc⟩ := ((HR.out.kept K1.out).kept hh.out.2).rowAt (by omega)
      cases ev
      obtain ⟨x0, x1, x2, x3, x4⟩ := hc k x hx
      have hrr := fun w => rRow x w
      have kx : Kept [] wr wr.drew := (Kept.refl [] wr).drew
      have KR := @hideH _ (Kept.refl [] wr)
      by_cases hok : rowOk x
      · have HOK := @hideH _ hok
        simp only [bl_t hok] at hrr
        clear hok
        by_cases hz : k = 0
        · have HZ := @hideH _ hz
          have kpos : ¬ 0 < k := by omega
          have REL := @hideH _ (hh.out.1.next hx HOK.out (fun j y e => by omega))
          have HK := @hideH _ hh.out.2
          clear hh hc hx hz
          go_upto_region 6 with fail
          have s_d9 := fun (s : Calm wr) => s.kept.cell d9 (by simp)
          have s_x0 := fun (s : Calm wr) => s.kept.cell x0 (by simp)
          have s_x1 := fun (s : Calm wr) => s.kept.cell x1 (by simp)
          have s_x2 := fun (s : Calm wr) => s.kept.cell x2 (by simp)
          have s_x3 := fun (s : Calm wr) => s.kept.cell x3 (by simp)
          have s_x4 := fun (s : Calm wr) => s.kept.cell x4 (by simp)
          clear kx d9 x0 x1 x2 x3 x4
          refine wp_region_calm KR.out (by kernel_rfl) (by kernel_rfl) ?_
          repeat (go_big_quiet_step ((go_at_call 78; exact Calm.call hrr _)))
          refine wpQuiet_nil ?_
          intro _ hw'
          obtain ⟨sq, hw''⟩ := hw'
          subst hw''
          have ks := sq.kept
          generalize sq.at = wx at ks ⊢
          clear sq
          have kx := @hideH _ ks
          clear ks s_d9 s_x0 s_x1 s_x2 s_x3 s_x4
          have RK := @hideH _ (And.intro REL.out (HK.out.then kx.out))
          clear kx HK d10
          go_wp2
          go_roundw
          case rel => exact ⟨k + 1, by omega, by go_num, RK⟩
          case measure => simp [intOf]; omega
        · obtain ⟨y, hy⟩ : ∃ y, rows[k - 1]? = some y := ⟨_, List.getElem?_eq_getElem (by omega)⟩
          have y0 := (hc (k - 1) y hy).1
          have kpos : 0 < k := by omega
          have wk1 : IntKind.i64.wrap ((k : Int) - 1) = ((k - 1 : Nat) : Int) := by rw [show (k : Int) - 1 = ((k - 1 : Nat) : Int) by omega]; exact wrap_i64_of (by omega) (by omega)
          have kb1 : ((k - 1 : Nat) : Int) < (rows.length : Int) := by omega
          have kb0 : (0 : Int) ≤ ((k - 1 : Nat) : Int) := by omega
          have HK := @hideH _ hh.out.2
          by_cases hlt : y.birth < x.birth
          · have hge : ¬ x.birth ≤ y.birth := by omega
            have REL := @hideH _ (hh.out.1.next hx HOK.out (fun j y' e hy' => by subst e; simp at hy; rw [hy] at hy'; cases hy'; exact hlt))
            clear hh hc hx hy
            go_upto_region 6 with fail
            have s_d9 := fun (s : Calm wr) => s.kept.cell d9 (by simp)
            have s_x0 := fun (s : Calm wr) => s.kept.cell x0 (by simp)
            have s_x1 := fun (s : Calm wr) => s.kept.cell x1 (by simp)
            have s_x2 := fun (s : Calm wr) => s.kept.cell x2 (by simp)
            have s_x3 := fun (s : Calm wr) => s.kept.cell x3 (by simp)
            have s_x4 := fun (s : Calm wr) => s.kept.cell x4 (by simp)
            have s_y0 := fun (s : Calm wr) => s.kept.cell y0 (by simp)
            clear kx d9 x0 x1 x2 x3 x4 y0
            refine wp_region_calm KR.out (by kernel_rfl) (by kernel_rfl) ?_
            repeat (go_big_quiet_step ((go_at_call 78; exact Calm.call hrr _)))
            refine wpQuiet_nil ?_
            intro _ hw'
            obtain ⟨sq, hw''⟩ := hw'
            subst hw''
            have ks := sq.kept
            generalize sq.at = wx at ks ⊢
            clear sq
            have kx := @hideH _ ks
            clear ks s_d9 s_x0 s_x1 s_x2 s_x3 s_x4 s_y0
            have RK := @hideH _ (And.intro REL.out (HK.out.then kx.out))
            clear kx HK d10
            go_wp2
            go_roundw
            case rel => exact ⟨k + 1, by omega, by go_num, RK⟩
            case measure => simp [intOf]; omega
          · have hge : x.birth ≤ y.birth := by omega
            have eQ := @hideH _ (HF3.out (k - 1) y x hy (by rw [show k - 1 + 1 = k by omega]; exact hx) (by first | exact hge | exact hlt))
            clear hh hc hx hy
            go_upto_region 6 with fail
            have s_d9 := fun (s : Calm wr) => s.kept.cell d9 (by simp)
            have s_x0 := fun (s : Calm wr) => s.kept.cell x0 (by simp)
            have s_x1 := fun (s : Calm wr) => s.kept.cell x1 (by simp)
            have s_x2 := fun (s : Calm wr) => s.kept.cell x2 (by simp)
            have s_x3 := fun (s : Calm wr) => s.kept.cell x3 (by simp)
            have s_x4 := fun (s : Calm wr) => s.kept.cell x4 (by simp)
            have s_y0 := fun (s : Calm wr) => s.kept.cell y0 (by simp)
            clear kx d9 x0 x1 x2 x3 x4 y0
            refine wp_region_calm KR.out (by kernel_rfl) (by kernel_rfl) ?_
            repeat (go_big_quiet_step ((go_at_call 78; exact Calm.call hrr _)))
            refine wpQuiet_nil ?_
            intro _ hw'
            obtain ⟨sq, hw''⟩ := hw'
            subst hw''
            have ks := sq.kept
            generalize sq.at = wx at ks ⊢
            clear sq
            have kx := @hideH _ ks
            clear ks s_d9 s_x0 s_x1 s_x2 s_x3 s_x4 s_y0
            have RK := @hideH _ (K1.out.then (HK.out.then kx.out))
            clear kx HK d10
            go_wp2
            go_ret
            exact ⟨by rw [eQ.out]; rfl, RK.out⟩
      · have eQ := @hideH _ (HF2.out k x hx hok)
        simp only [bl_f hok] at hrr
        have HK := @hideH _ hh.out.2
        clear hok hh hc hx
        go_upto_region 6 with fail
        have s_d9 := fun (s : Calm wr) => s.kept.cell d9 (by simp)
        have s_x0 := fun (s : Calm wr) => s.kept.cell x0 (by simp)
        have s_x1 := fun (s : Calm wr) => s.kept.cell x1 (by simp)
        have s_x2 := fun (s : Calm wr) => s.kept.cell x2 (by simp)
        have s_x3 := fun (s : Calm wr) => s.kept.cell x3 (by simp)
        have s_x4 := fun (s : Calm wr) => s.kept.cell x4 (by simp)
        clear kx d9 x0 x1 x2 x3 x4
        refine wp_region_calm KR.out (by kernel_rfl) (by kernel_rfl) ?_
        repeat (go_big_quiet_step ((go_at_call 78; exact Calm.call hrr _)))
        refine wpQuiet_nil ?_
        intro _ hw'
        obtain ⟨sq, hw''⟩ := hw'
        subst hw''
        have ks := sq.kept
        generalize sq.at = wx at ks ⊢
        clear sq
        have kx := @hideH _ ks
        clear ks s_d9 s_x0 s_x1 s_x2 s_x3 s_x4
        have RK := @hideH _ (K1.out.then (HK.out.then kx.out))
        clear kx HK d10
        go_wp2
        go_ret
        exact ⟨by rw [eQ.out]; rfl, RK.out⟩
    · have hkl' : ¬ (k : Int) < (rows.length : Int) := by omega
      have hke : k = rows.length := by omega
      have H1 := @hideH _ (show rowsTo rows rows.length ∧ Kept [] w1 wr from ⟨hke ▸ hh.out.1, hh.out.2⟩)
      obtain ⟨wo, rfl⟩ : ∃ wo, wo = wr := ⟨_, rfl⟩
      clear hh hke
      go_wp2
      go_loopw [4] (fun vi wr => ∃ q : Nat, q ≤ dirty.length ∧ vi = .int .i64 q ∧ Hid (recsTo dirty q ∧ Kept [] w1 wr)) (fun vi _ => dirty.length - (intOf vi).toNat)
      case atStart => exact ⟨0, Nat.zero_le _, rfl, ⟨fun i x hi => by omega, fun i x y hi => by omega⟩, H1.out.2⟩
      case round =>
        clear d10 d9
        obtain ⟨q, hq, rfl, hh⟩ := hrel
        have d10 := hh.out.2.cell c10 (by simp)
        by_cases hql : q < dirty.length
        · have hql' : (q : Int) < (dirty.length : Int) := by omega
          have hq0 : (0 : Int) ≤ (q : Int) := by omega
          have wq : IntKind.i64.wrap ((q : Int) + 1) = (q : Int) + 1 := wrap_i64_of (by omega) (by have := HS.out; omega)
          obtain ⟨x, hx⟩ : ∃ x, dirty[q]? = some x := ⟨_, List.getElem?_eq_getElem hql⟩
          obtain ⟨b, o, c, ev, hc⟩ := ((HD.out.kept K1.out).kept hh.out.2).recAt (by omega)
          cases ev
          obtain ⟨x0, x1⟩ := hc q x hx
          obtain ⟨pg, ln⟩ := x
          simp only at x0 x1
          obtain ⟨wd, hwd⟩ : ∃ wd, wd = wr.alloc (.cells #[.int .i64 pg, .int .i64 ln] 68) := ⟨_, rfl⟩
          have kd : Kept [] wr wd := by rw [hwd]; exact (Kept.refl [] wr).alloc _
          have bd : Blk wd wr.heap.size 68 [.int .i64 pg, .int .i64 ln] := by rw [hwd]; exact Blk.new wr _ _
          have z0 := bd.cell (j := 0) rfl
          have z1 := bd.cell (j := 1) rfl
          have e10 := kd.cell d10 (by simp)
          have HWD := @hideH _ hwd
          have HK := @hideH _ (hh.out.2.then kd)
          have HX := @hideH _ hx
          have HC := @hideH _ hc
          have H2 := @hideH _ hh.out.1
          have KD := @hideH _ kd
          have hrl : ∀ w, Calls Try.prog 60 #[.int .i64 ln] w fun e w' => e = .returned (.bool (bl (lsnOk ln))) ∧ Kept [] w w' := fun w => (rIsLsn ln w).mono (by rintro e w' ⟨rfl, rfl⟩; exact ⟨rfl, Kept.refl [] _⟩)
          have KR := @hideH _ (Kept.refl [] wd)
          clear hh hc hx kd bd
          go_upto_region 12 with fail
          rw [← hwd]
          clear hwd x0 x1 d10
          by_cases h0 : pg < 0
          · have eQ := @hideH _ (HF4.out q _ HX.out (fun h => by have := h.1.1; simp only at this; omega))
            have s_z0 := fun (s : Calm wd) => s.kept.cell z0 (by simp)
            have s_z1 := fun (s : Calm wd) => s.kept.cell z1 (by simp)
            have s_e10 := fun (s : Calm wd) => s.kept.cell e10 (by simp)
            clear z0 z1 e10
            refine wp_region_calm KR.out (by kernel_rfl) (by kernel_rfl) ?_
            repeat (go_big_quiet_step ((go_at_call 60; exact Calm.call hrl _)))
            refine wpQuiet_nil ?_
            intro _ hw'
            obtain ⟨sq, hw''⟩ := hw'
            subst hw''
            have ks := sq.kept
            generalize sq.at = wx at ks ⊢
            clear sq
            have kx := @hideH _ ks
            clear ks s_z0 s_z1 s_e10 
            have RK := @hideH _ (K1.out.then (HK.out.then kx.out))
            clear kx HK
            go_wp2
            go_ret
            exact ⟨by rw [eQ.out]; rfl, RK.out⟩
          · by_cases h15 : 16 ≤ pg
            · have eQ := @hideH _ (HF4.out q _ HX.out (fun h => by have := h.1.2; simp only at this; omega))
              have s_z0 := fun (s : Calm wd) => s.kept.cell z0 (by simp)
              have s_z1 := fun (s : Calm wd) => s.kept.cell z1 (by simp)
              have s_e10 := fun (s : Calm wd) => s.kept.cell e10 (by simp)
              clear z0 z1 e10
              refine wp_region_calm KR.out (by kernel_rfl) (by kernel_rfl) ?_
              repeat (go_big_quiet_step ((go_at_call 60; exact Calm.call hrl _)))
              refine wpQuiet_nil ?_
              intro _ hw'
              obtain ⟨sq, hw''⟩ := hw'
              subst hw''
              have ks := sq.kept
              generalize sq.at = wx at ks ⊢
              clear sq
              have kx := @hideH _ ks
              clear ks s_z0 s_z1 s_e10 
              have RK := @hideH _ (K1.out.then (HK.out.then kx.out))
              clear kx HK
              go_wp2
              go_ret
              exact ⟨by rw [eQ.out]; rfl, RK.out⟩
            · by_cases hl : lsnOk ln
              · simp only [bl_t hl] at hrl
                have HOK := @hideH _ (show recOk ⟨pg, ln⟩ from ⟨⟨by show 0 ≤ pg; omega, by show pg < 16; omega⟩, hl⟩)
                clear hl
                by_cases hz : q = 0
                · have HZ := @hideH _ hz
                  have kpos : ¬ 0 < q := by omega
                  have REL := @hideH _ (H2.out.next HX.out HOK.out (fun j y e => by have := HZ.out; omega))
                  clear hz
                  have s_z0 := fun (s : Calm wd) => s.kept.cell z0 (by simp)
                  have s_z1 := fun (s : Calm wd) => s.kept.cell z1 (by simp)
                  have s_e10 := fun (s : Calm wd) => s.kept.cell e10 (by simp)
                  clear z0 z1 e10
                  refine wp_region_calm KR.out (by kernel_rfl) (by kernel_rfl) ?_
                  repeat (go_big_quiet_step ((go_at_call 60; exact Calm.call hrl _)))
                  refine wpQuiet_nil ?_
                  intro _ hw'
                  obtain ⟨sq, hw''⟩ := hw'
                  subst hw''
                  have ks := sq.kept
                  generalize sq.at = wx at ks ⊢
                  clear sq
                  have kx := @hideH _ ks
                  clear ks s_z0 s_z1 s_e10 
                  have RK := @hideH _ (And.intro REL.out (HK.out.then kx.out))
                  clear kx HK
                  go_wp2
                  go_roundw
                  case rel => exact ⟨q + 1, by omega, by go_num, RK⟩
                  case measure => simp [intOf]; omega
                · obtain ⟨y, hy⟩ : ∃ y, dirty[q - 1]? = some y := ⟨_, List.getElem?_eq_getElem (by omega)⟩
                  have y0 := KD.out.cell (HC.out (q - 1) y hy).1 (by simp)
                  have kpos : 0 < q := by omega
                  have wk1 : IntKind.i64.wrap ((q : Int) - 1) = ((q - 1 : Nat) : Int) := by rw [show (q : Int) - 1 = ((q - 1 : Nat) : Int) by omega]; exact wrap_i64_of (by omega) (by omega)
                  have kb1 : ((q - 1 : Nat) : Int) < (dirty.length : Int) := by omega
                  have kb0 : (0 : Int) ≤ ((q - 1 : Nat) : Int) := by omega
                  by_cases hlt : y.page < pg
                  · have hge : ¬ pg ≤ y.page := by omega
                    have REL := @hideH _ (H2.out.next HX.out HOK.out (fun j y' e hy' => by subst e; simp at hy; rw [hy] at hy'; cases hy'; exact hlt))
                    clear hy
                    have s_z0 := fun (s : Calm wd) => s.kept.cell z0 (by simp)
                    have s_z1 := fun (s : Calm wd) => s.kept.cell z1 (by simp)
                    have s_e10 := fun (s : Calm wd) => s.kept.cell e10 (by simp)
                    have s_y0 := fun (s : Calm wd) => s.kept.cell y0 (by simp)
                    clear z0 z1 e10 y0
                    refine wp_region_calm KR.out (by kernel_rfl) (by kernel_rfl) ?_
                    repeat (go_big_quiet_step ((go_at_call 60; exact Calm.call hrl _)))
                    refine wpQuiet_nil ?_
                    intro _ hw'
                    obtain ⟨sq, hw''⟩ := hw'
                    subst hw''
                    have ks := sq.kept
                    generalize sq.at = wx at ks ⊢
                    clear sq
                    have kx := @hideH _ ks
                    clear ks s_z0 s_z1 s_e10 s_y0 
                    have RK := @hideH _ (And.intro REL.out (HK.out.then kx.out))
                    clear kx HK
                    go_wp2
                    go_roundw
                    case rel => exact ⟨q + 1, by omega, by go_num, RK⟩
                    case measure => simp [intOf]; omega
                  · have hge : pg ≤ y.page := by omega
                    have eQ := @hideH _ (HF5.out (q - 1) y ⟨pg, ln⟩ hy (by rw [show q - 1 + 1 = q by omega]; exact HX.out) (by first | exact hge | exact hlt))
                    clear hy
                    have s_z0 := fun (s : Calm wd) => s.kept.cell z0 (by simp)
                    have s_z1 := fun (s : Calm wd) => s.kept.cell z1 (by simp)
                    have s_e10 := fun (s : Calm wd) => s.kept.cell e10 (by simp)
                    have s_y0 := fun (s : Calm wd) => s.kept.cell y0 (by simp)
                    clear z0 z1 e10 y0
                    refine wp_region_calm KR.out (by kernel_rfl) (by kernel_rfl) ?_
                    repeat (go_big_quiet_step ((go_at_call 60; exact Calm.call hrl _)))
                    refine wpQuiet_nil ?_
                    intro _ hw'
                    obtain ⟨sq, hw''⟩ := hw'
                    subst hw''
                    have ks := sq.kept
                    generalize sq.at = wx at ks ⊢
                    clear sq
                    have kx := @hideH _ ks
                    clear ks s_z0 s_z1 s_e10 s_y0 
                    have RK := @hideH _ (K1.out.then (HK.out.then kx.out))
                    clear kx HK
                    go_wp2
                    go_ret
                    exact ⟨by rw [eQ.out]; rfl, RK.out⟩
              · have eQ := @hideH _ (HF4.out q _ HX.out (fun h => hl h.2))
                simp only [bl_f hl] at hrl
                clear hl
                have s_z0 := fun (s : Calm wd) => s.kept.cell z0 (by simp)
                have s_z1 := fun (s : Calm wd) => s.kept.cell z1 (by simp)
                have s_e10 := fun (s : Calm wd) => s.kept.cell e10 (by simp)
                clear z0 z1 e10
                refine wp_region_calm KR.out (by kernel_rfl) (by kernel_rfl) ?_
                repeat (go_big_quiet_step ((go_at_call 60; exact Calm.call hrl _)))
                refine wpQuiet_nil ?_
                intro _ hw'
                obtain ⟨sq, hw''⟩ := hw'
                subst hw''
                have ks := sq.kept
                generalize sq.at = wx at ks ⊢
                clear sq
                have kx := @hideH _ ks
                clear ks s_z0 s_z1 s_e10 
                have RK := @hideH _ (K1.out.then (HK.out.then kx.out))
                clear kx HK
                go_wp2
                go_ret
                exact ⟨by rw [eQ.out]; rfl, RK.out⟩
        · have hql' : ¬ (q : Int) < (dirty.length : Int) := by omega
          have hqe : q = dirty.length := by omega
          have eQ := @hideH _ (HF6.out HS.out H1.out.1 (hqe ▸ hh.out.1))
          have RK := @hideH _ (K1.out.then hh.out.2)
          clear hh hqe
          go_wp2
          go_ret
          exact ⟨by rw [eQ.out]; rfl, RK.out⟩
end Go.Proofs.Ytebcmcmboomgfaa

/-
  OWN WORK (by mkrec4.py). The document's records (tidemarkref09): Right, of one kind.
-/
namespace Go.Proofs.Ytebcmcmboomgfaa
open Go.RowKit
set_option linter.unusedVariables false
set_option linter.unusedSimpArgs false

set_option maxRecDepth 20000 in
set_option maxHeartbeats 12800000 in
theorem rRight_1 (V : RV) (birth prev id page frm : Int) (before after : List UInt8) (next : Int) (rows : List RowR) (dirty : List RecR) (w : World) (h : SeeR w V (⟨1, birth, prev, id, page, frm, before, after, next, rows, dirty⟩ : Rcd)) : Calls Try.prog 39 #[(⟨1, birth, prev, id, page, frm, before, after, next, rows, dirty⟩ : Rcd).agg V] w fun e w' => e = .returned (.bool (bl (⟨1, birth, prev, id, page, frm, before, after, next, rows, dirty⟩ : Rcd).Right)) ∧ Kept [] w w' := by
  haveI HNE : ∀ w2, Nonempty (Calm w2) := calmNe
  obtain ⟨pb, cb, pa, ca, pr, cr, pd, cd, rfl⟩ := h.shapes
  have HRI := @hideH _ (show (⟨1, birth, prev, id, page, frm, before, after, next, rows, dirty⟩ : Rcd).Right ↔ (birth = 0 ∧ prev = 0) ∧ (1 ≤ id ∧ id ≤ 64) ∧ (rows = [] ∧ dirty = []) ∧ next = 0 ∧ (page = 0 ∧ frm = 0 ∧ after = []) ∧ before = [] by unfold Rcd.Right; simp)
  have hb := fun w => rIsLsn birth w
  have hp := fun w => rIsLsn prev w
  have hn := fun w => rIsNext next w
  have hu := fun (wz : World) (kz : Kept [] w wz) => rUnranged _ (⟨1, birth, prev, id, page, frm, before, after, next, rows, dirty⟩ : Rcd) wz (h.kept kz)
  have hr := fun (wz : World) (kz : Kept [] w wz) => rRanged _ (⟨1, birth, prev, id, page, frm, before, after, next, rows, dirty⟩ : Rcd) wz (h.kept kz)
  have hl := fun (wz : World) (kz : Kept [] w wz) => rLists _ (⟨1, birth, prev, id, page, frm, before, after, next, rows, dirty⟩ : Rcd) wz (h.kept kz)
  have hBS := @hideH _ h.before
  have hAS := @hideH _ h.after
  have hmx := @hideH _ (show after.length ≤ maxLen from (by obtain ⟨_, _, e, h1, h2, _⟩ := h.after; cases e; exact Nat.le_trans h1 h2))
  clear h
  unfold Rcd.agg at hu hr hl ⊢
  dsimp only at hu hr hl hBS hAS ⊢
  obtain ⟨Q, hQ⟩ : ∃ Q, Q = bl (⟨1, birth, prev, id, page, frm, before, after, next, rows, dirty⟩ : Rcd).Right := ⟨_, rfl⟩
  rw [← hQ]
  have HQ := @hideH _ hQ
  clear hQ
  obtain ⟨nb, hnb⟩ : ∃ nb, nb = before.length := ⟨_, rfl⟩
  obtain ⟨na, hna⟩ : ∃ na, na = after.length := ⟨_, rfl⟩
  obtain ⟨nr, hnr⟩ : ∃ nr, nr = rows.length := ⟨_, rfl⟩
  obtain ⟨nd, hnd⟩ : ∃ nd, nd = dirty.length := ⟨_, rfl⟩
  simp only [← hnb, ← hna, ← hnr, ← hnd] at hu hr hl ⊢
  have HNB := @hideH _ hnb
  have HNA := @hideH _ hna
  have HNR := @hideH _ hnr
  have HND := @hideH _ hnd
  clear hnb hna hnr hnd
  clear hb
  clear hp
  clear hn
  clear hr
  clear hl
  by_cases h0 : birth = 0
  · subst h0
    by_cases h1 : prev = 0
    · subst h1
      by_cases h2 : 1 ≤ id
      · have i1 : ¬ id < 1 := by omega
        by_cases h3 : id ≤ 64
        · have i2 : ¬ 64 < id := by omega
          by_cases h4 : nr = 0
          · subst h4
            by_cases h5 : nd = 0
            · subst h5
              by_cases h6 : next = 0
              · subst h6
                by_cases h7 : (page = 0 ∧ frm = 0 ∧ after = [])
                · simp only [bl_t h7] at hu
                  have k7 := @hideH _ h7
                  clear h7
                  by_cases h8 : nb = 0
                  · subst h8
                    have eQ := @hideH _ (show Q = true by rw [HQ.out]; exact bl_t (HRI.out.2 ⟨⟨rfl, rfl⟩, ⟨h2, h3⟩, ⟨(List.eq_nil_of_length_eq_zero HNR.out.symm), (List.eq_nil_of_length_eq_zero HND.out.symm)⟩, rfl, k7.out, (List.eq_nil_of_length_eq_zero HNB.out.symm)⟩))
                    obtain ⟨w1, hw1⟩ : ∃ w1, w1 = w.alloc (.cells #[.int .i64 1, .int .i64 0, .int .i64 0, .int .i64 id, .int .i64 page, .int .i64 frm, .slice pb 0 cb, .slice pa na ca, .int .i64 0, .slice pr 0 cr, .slice pd 0 cd] 26) := ⟨_, rfl⟩
                    have K1 : Kept [] w w1 := by rw [hw1]; exact (Kept.refl [] w).alloc _
                    have bR : Blk w1 w.heap.size 26 [.int .i64 1, .int .i64 0, .int .i64 0, .int .i64 id, .int .i64 page, .int .i64 frm, .slice pb 0 cb, .slice pa na ca, .int .i64 0, .slice pr 0 cr, .slice pd 0 cd] := by rw [hw1]; exact Blk.new w _ _
                    have c0 := bR.cell (j := 0) rfl
                    have c1 := bR.cell (j := 1) rfl
                    have c2 := bR.cell (j := 2) rfl
                    have c3 := bR.cell (j := 3) rfl
                    have c4 := bR.cell (j := 4) rfl
                    have c5 := bR.cell (j := 5) rfl
                    have c6 := bR.cell (j := 6) rfl
                    have c7 := bR.cell (j := 7) rfl
                    have c8 := bR.cell (j := 8) rfl
                    have c9 := bR.cell (j := 9) rfl
                    have c10 := bR.cell (j := 10) rfl
                    clear bR
                    go_enter Try.func39, Try.ntmps39
                    go_upto_region 1 with fail
                    rw [← hw1]
                    clear hw1
                    go_wp2_with fail
                    refine (hu _ K1).mono ?_
                    rintro e w2 ⟨rfl, kn⟩
                    have K2 := K1.then kn
                    replace c0 := kn.cell c0 (by simp)
                    replace c1 := kn.cell c1 (by simp)
                    replace c2 := kn.cell c2 (by simp)
                    replace c3 := kn.cell c3 (by simp)
                    replace c4 := kn.cell c4 (by simp)
                    replace c5 := kn.cell c5 (by simp)
                    replace c6 := kn.cell c6 (by simp)
                    replace c7 := kn.cell c7 (by simp)
                    replace c8 := kn.cell c8 (by simp)
                    replace c9 := kn.cell c9 (by simp)
                    replace c10 := kn.cell c10 (by simp)
                    clear kn
                    have RK := @hideH _ K2
                    go_wp2
                    go_ret
                    exact ⟨by rw [eQ.out]; rfl, RK.out⟩
                  · have eQ := @hideH _ (show Q = false by rw [HQ.out]; exact bl_f (fun hR => by have q := HRI.out.1 hR; exact h8 (by rw [HNB.out, q.2.2.2.2.2]; rfl)))
                    have g_nb : 0 < nb := by omega
                    have e_nb : ((nb : Int) == 0) = false := by simp [h8]
                    obtain ⟨w1, hw1⟩ : ∃ w1, w1 = w.alloc (.cells #[.int .i64 1, .int .i64 0, .int .i64 0, .int .i64 id, .int .i64 page, .int .i64 frm, .slice pb nb cb, .slice pa na ca, .int .i64 0, .slice pr 0 cr, .slice pd 0 cd] 26) := ⟨_, rfl⟩
                    have K1 : Kept [] w w1 := by rw [hw1]; exact (Kept.refl [] w).alloc _
                    have bR : Blk w1 w.heap.size 26 [.int .i64 1, .int .i64 0, .int .i64 0, .int .i64 id, .int .i64 page, .int .i64 frm, .slice pb nb cb, .slice pa na ca, .int .i64 0, .slice pr 0 cr, .slice pd 0 cd] := by rw [hw1]; exact Blk.new w _ _
                    have c0 := bR.cell (j := 0) rfl
                    have c1 := bR.cell (j := 1) rfl
                    have c2 := bR.cell (j := 2) rfl
                    have c3 := bR.cell (j := 3) rfl
                    have c4 := bR.cell (j := 4) rfl
                    have c5 := bR.cell (j := 5) rfl
                    have c6 := bR.cell (j := 6) rfl
                    have c7 := bR.cell (j := 7) rfl
                    have c8 := bR.cell (j := 8) rfl
                    have c9 := bR.cell (j := 9) rfl
                    have c10 := bR.cell (j := 10) rfl
                    clear bR
                    go_enter Try.func39, Try.ntmps39
                    go_upto_region 1 with fail
                    rw [← hw1]
                    clear hw1
                    go_wp2_with fail
                    refine (hu _ K1).mono ?_
                    rintro e w2 ⟨rfl, kn⟩
                    have K2 := K1.then kn
                    replace c0 := kn.cell c0 (by simp)
                    replace c1 := kn.cell c1 (by simp)
                    replace c2 := kn.cell c2 (by simp)
                    replace c3 := kn.cell c3 (by simp)
                    replace c4 := kn.cell c4 (by simp)
                    replace c5 := kn.cell c5 (by simp)
                    replace c6 := kn.cell c6 (by simp)
                    replace c7 := kn.cell c7 (by simp)
                    replace c8 := kn.cell c8 (by simp)
                    replace c9 := kn.cell c9 (by simp)
                    replace c10 := kn.cell c10 (by simp)
                    clear kn
                    have RK := @hideH _ K2
                    go_wp2
                    go_ret
                    exact ⟨by rw [eQ.out]; rfl, RK.out⟩
                · have eQ := @hideH _ (show Q = false by rw [HQ.out]; exact bl_f (fun hR => by have q := HRI.out.1 hR; exact h7 (q.2.2.2.2.1)))
                  simp only [bl_f h7] at hu
                  clear h7
                  obtain ⟨w1, hw1⟩ : ∃ w1, w1 = w.alloc (.cells #[.int .i64 1, .int .i64 0, .int .i64 0, .int .i64 id, .int .i64 page, .int .i64 frm, .slice pb nb cb, .slice pa na ca, .int .i64 0, .slice pr 0 cr, .slice pd 0 cd] 26) := ⟨_, rfl⟩
                  have K1 : Kept [] w w1 := by rw [hw1]; exact (Kept.refl [] w).alloc _
                  have bR : Blk w1 w.heap.size 26 [.int .i64 1, .int .i64 0, .int .i64 0, .int .i64 id, .int .i64 page, .int .i64 frm, .slice pb nb cb, .slice pa na ca, .int .i64 0, .slice pr 0 cr, .slice pd 0 cd] := by rw [hw1]; exact Blk.new w _ _
                  have c0 := bR.cell (j := 0) rfl
                  have c1 := bR.cell (j := 1) rfl
                  have c2 := bR.cell (j := 2) rfl
                  have c3 := bR.cell (j := 3) rfl
                  have c4 := bR.cell (j := 4) rfl
                  have c5 := bR.cell (j := 5) rfl
                  have c6 := bR.cell (j := 6) rfl
                  have c7 := bR.cell (j := 7) rfl
                  have c8 := bR.cell (j := 8) rfl
                  have c9 := bR.cell (j := 9) rfl
                  have c10 := bR.cell (j := 10) rfl
                  clear bR
                  go_enter Try.func39, Try.ntmps39
                  go_upto_region 1 with fail
                  rw [← hw1]
                  clear hw1
                  go_wp2_with fail
                  refine (hu _ K1).mono ?_
                  rintro e w2 ⟨rfl, kn⟩
                  have K2 := K1.then kn
                  replace c0 := kn.cell c0 (by simp)
                  replace c1 := kn.cell c1 (by simp)
                  replace c2 := kn.cell c2 (by simp)
                  replace c3 := kn.cell c3 (by simp)
                  replace c4 := kn.cell c4 (by simp)
                  replace c5 := kn.cell c5 (by simp)
                  replace c6 := kn.cell c6 (by simp)
                  replace c7 := kn.cell c7 (by simp)
                  replace c8 := kn.cell c8 (by simp)
                  replace c9 := kn.cell c9 (by simp)
                  replace c10 := kn.cell c10 (by simp)
                  clear kn
                  have RK := @hideH _ K2
                  go_wp2
                  go_ret
                  exact ⟨by rw [eQ.out]; rfl, RK.out⟩
              · have eQ := @hideH _ (show Q = false by rw [HQ.out]; exact bl_f (fun hR => by have q := HRI.out.1 hR; exact h6 (q.2.2.2.1)))
                have e_next : (next != 0) = true := by simp [h6]
                have g_next : (next == 0) = false := by simp [h6]
                obtain ⟨w1, hw1⟩ : ∃ w1, w1 = w.alloc (.cells #[.int .i64 1, .int .i64 0, .int .i64 0, .int .i64 id, .int .i64 page, .int .i64 frm, .slice pb nb cb, .slice pa na ca, .int .i64 next, .slice pr 0 cr, .slice pd 0 cd] 26) := ⟨_, rfl⟩
                have K1 : Kept [] w w1 := by rw [hw1]; exact (Kept.refl [] w).alloc _
                have bR : Blk w1 w.heap.size 26 [.int .i64 1, .int .i64 0, .int .i64 0, .int .i64 id, .int .i64 page, .int .i64 frm, .slice pb nb cb, .slice pa na ca, .int .i64 next, .slice pr 0 cr, .slice pd 0 cd] := by rw [hw1]; exact Blk.new w _ _
                have c0 := bR.cell (j := 0) rfl
                have c1 := bR.cell (j := 1) rfl
                have c2 := bR.cell (j := 2) rfl
                have c3 := bR.cell (j := 3) rfl
                have c4 := bR.cell (j := 4) rfl
                have c5 := bR.cell (j := 5) rfl
                have c6 := bR.cell (j := 6) rfl
                have c7 := bR.cell (j := 7) rfl
                have c8 := bR.cell (j := 8) rfl
                have c9 := bR.cell (j := 9) rfl
                have c10 := bR.cell (j := 10) rfl
                clear bR
                go_enter Try.func39, Try.ntmps39
                go_upto_region 1 with fail
                rw [← hw1]
                clear hw1
                have RK := @hideH _ K1
                go_wp2
                go_ret
                exact ⟨by rw [eQ.out]; rfl, RK.out⟩
            · have eQ := @hideH _ (show Q = false by rw [HQ.out]; exact bl_f (fun hR => by have q := HRI.out.1 hR; exact h5 (by rw [HND.out, q.2.2.1.2]; rfl)))
              have g_nd : 0 < nd := by omega
              have e_nd : ((nd : Int) == 0) = false := by simp [h5]
              obtain ⟨w1, hw1⟩ : ∃ w1, w1 = w.alloc (.cells #[.int .i64 1, .int .i64 0, .int .i64 0, .int .i64 id, .int .i64 page, .int .i64 frm, .slice pb nb cb, .slice pa na ca, .int .i64 next, .slice pr 0 cr, .slice pd nd cd] 26) := ⟨_, rfl⟩
              have K1 : Kept [] w w1 := by rw [hw1]; exact (Kept.refl [] w).alloc _
              have bR : Blk w1 w.heap.size 26 [.int .i64 1, .int .i64 0, .int .i64 0, .int .i64 id, .int .i64 page, .int .i64 frm, .slice pb nb cb, .slice pa na ca, .int .i64 next, .slice pr 0 cr, .slice pd nd cd] := by rw [hw1]; exact Blk.new w _ _
              have c0 := bR.cell (j := 0) rfl
              have c1 := bR.cell (j := 1) rfl
              have c2 := bR.cell (j := 2) rfl
              have c3 := bR.cell (j := 3) rfl
              have c4 := bR.cell (j := 4) rfl
              have c5 := bR.cell (j := 5) rfl
              have c6 := bR.cell (j := 6) rfl
              have c7 := bR.cell (j := 7) rfl
              have c8 := bR.cell (j := 8) rfl
              have c9 := bR.cell (j := 9) rfl
              have c10 := bR.cell (j := 10) rfl
              clear bR
              go_enter Try.func39, Try.ntmps39
              go_upto_region 1 with fail
              rw [← hw1]
              clear hw1
              have RK := @hideH _ K1
              go_wp2
              go_ret
              exact ⟨by rw [eQ.out]; rfl, RK.out⟩
          · have eQ := @hideH _ (show Q = false by rw [HQ.out]; exact bl_f (fun hR => by have q := HRI.out.1 hR; exact h4 (by rw [HNR.out, q.2.2.1.1]; rfl)))
            have g_nr : 0 < nr := by omega
            have e_nr : ((nr : Int) == 0) = false := by simp [h4]
            obtain ⟨w1, hw1⟩ : ∃ w1, w1 = w.alloc (.cells #[.int .i64 1, .int .i64 0, .int .i64 0, .int .i64 id, .int .i64 page, .int .i64 frm, .slice pb nb cb, .slice pa na ca, .int .i64 next, .slice pr nr cr, .slice pd nd cd] 26) := ⟨_, rfl⟩
            have K1 : Kept [] w w1 := by rw [hw1]; exact (Kept.refl [] w).alloc _
            have bR : Blk w1 w.heap.size 26 [.int .i64 1, .int .i64 0, .int .i64 0, .int .i64 id, .int .i64 page, .int .i64 frm, .slice pb nb cb, .slice pa na ca, .int .i64 next, .slice pr nr cr, .slice pd nd cd] := by rw [hw1]; exact Blk.new w _ _
            have c0 := bR.cell (j := 0) rfl
            have c1 := bR.cell (j := 1) rfl
            have c2 := bR.cell (j := 2) rfl
            have c3 := bR.cell (j := 3) rfl
            have c4 := bR.cell (j := 4) rfl
            have c5 := bR.cell (j := 5) rfl
            have c6 := bR.cell (j := 6) rfl
            have c7 := bR.cell (j := 7) rfl
            have c8 := bR.cell (j := 8) rfl
            have c9 := bR.cell (j := 9) rfl
            have c10 := bR.cell (j := 10) rfl
            clear bR
            go_enter Try.func39, Try.ntmps39
            go_upto_region 1 with fail
            rw [← hw1]
            clear hw1
            have RK := @hideH _ K1
            go_wp2
            go_ret
            exact ⟨by rw [eQ.out]; rfl, RK.out⟩
        · have eQ := @hideH _ (show Q = false by rw [HQ.out]; exact bl_f (fun hR => by have q := HRI.out.1 hR; exact h3 q.2.1.2))
          have i2 : 64 < id := by omega
          obtain ⟨w1, hw1⟩ : ∃ w1, w1 = w.alloc (.cells #[.int .i64 1, .int .i64 0, .int .i64 0, .int .i64 id, .int .i64 page, .int .i64 frm, .slice pb nb cb, .slice pa na ca, .int .i64 next, .slice pr nr cr, .slice pd nd cd] 26) := ⟨_, rfl⟩
          have K1 : Kept [] w w1 := by rw [hw1]; exact (Kept.refl [] w).alloc _
          have bR : Blk w1 w.heap.size 26 [.int .i64 1, .int .i64 0, .int .i64 0, .int .i64 id, .int .i64 page, .int .i64 frm, .slice pb nb cb, .slice pa na ca, .int .i64 next, .slice pr nr cr, .slice pd nd cd] := by rw [hw1]; exact Blk.new w _ _
          have c0 := bR.cell (j := 0) rfl
          have c1 := bR.cell (j := 1) rfl
          have c2 := bR.cell (j := 2) rfl
          have c3 := bR.cell (j := 3) rfl
          have c4 := bR.cell (j := 4) rfl
          have c5 := bR.cell (j := 5) rfl
          have c6 := bR.cell (j := 6) rfl
          have c7 := bR.cell (j := 7) rfl
          have c8 := bR.cell (j := 8) rfl
          have c9 := bR.cell (j := 9) rfl
          have c10 := bR.cell (j := 10) rfl
          clear bR
          go_enter Try.func39, Try.ntmps39
          go_upto_region 1 with fail
          rw [← hw1]
          clear hw1
          have RK := @hideH _ K1
          go_wp2
          go_ret
          exact ⟨by rw [eQ.out]; rfl, RK.out⟩
      · have eQ := @hideH _ (show Q = false by rw [HQ.out]; exact bl_f (fun hR => by have q := HRI.out.1 hR; exact h2 q.2.1.1))
        have i1 : id < 1 := by omega
        obtain ⟨w1, hw1⟩ : ∃ w1, w1 = w.alloc (.cells #[.int .i64 1, .int .i64 0, .int .i64 0, .int .i64 id, .int .i64 page, .int .i64 frm, .slice pb nb cb, .slice pa na ca, .int .i64 next, .slice pr nr cr, .slice pd nd cd] 26) := ⟨_, rfl⟩
        have K1 : Kept [] w w1 := by rw [hw1]; exact (Kept.refl [] w).alloc _
        have bR : Blk w1 w.heap.size 26 [.int .i64 1, .int .i64 0, .int .i64 0, .int .i64 id, .int .i64 page, .int .i64 frm, .slice pb nb cb, .slice pa na ca, .int .i64 next, .slice pr nr cr, .slice pd nd cd] := by rw [hw1]; exact Blk.new w _ _
        have c0 := bR.cell (j := 0) rfl
        have c1 := bR.cell (j := 1) rfl
        have c2 := bR.cell (j := 2) rfl
        have c3 := bR.cell (j := 3) rfl
        have c4 := bR.cell (j := 4) rfl
        have c5 := bR.cell (j := 5) rfl
        have c6 := bR.cell (j := 6) rfl
        have c7 := bR.cell (j := 7) rfl
        have c8 := bR.cell (j := 8) rfl
        have c9 := bR.cell (j := 9) rfl
        have c10 := bR.cell (j := 10) rfl
        clear bR
        go_enter Try.func39, Try.ntmps39
        go_upto_region 1 with fail
        rw [← hw1]
        clear hw1
        have RK := @hideH _ K1
        go_wp2
        go_ret
        exact ⟨by rw [eQ.out]; rfl, RK.out⟩
    · have eQ := @hideH _ (show Q = false by rw [HQ.out]; exact bl_f (fun hR => by have q := HRI.out.1 hR; exact h1 (q.1.2)))
      have e_prev : (prev != 0) = true := by simp [h1]
      have g_prev : (prev == 0) = false := by simp [h1]
      obtain ⟨w1, hw1⟩ : ∃ w1, w1 = w.alloc (.cells #[.int .i64 1, .int .i64 0, .int .i64 prev, .int .i64 id, .int .i64 page, .int .i64 frm, .slice pb nb cb, .slice pa na ca, .int .i64 next, .slice pr nr cr, .slice pd nd cd] 26) := ⟨_, rfl⟩
      have K1 : Kept [] w w1 := by rw [hw1]; exact (Kept.refl [] w).alloc _
      have bR : Blk w1 w.heap.size 26 [.int .i64 1, .int .i64 0, .int .i64 prev, .int .i64 id, .int .i64 page, .int .i64 frm, .slice pb nb cb, .slice pa na ca, .int .i64 next, .slice pr nr cr, .slice pd nd cd] := by rw [hw1]; exact Blk.new w _ _
      have c0 := bR.cell (j := 0) rfl
      have c1 := bR.cell (j := 1) rfl
      have c2 := bR.cell (j := 2) rfl
      have c3 := bR.cell (j := 3) rfl
      have c4 := bR.cell (j := 4) rfl
      have c5 := bR.cell (j := 5) rfl
      have c6 := bR.cell (j := 6) rfl
      have c7 := bR.cell (j := 7) rfl
      have c8 := bR.cell (j := 8) rfl
      have c9 := bR.cell (j := 9) rfl
      have c10 := bR.cell (j := 10) rfl
      clear bR
      go_enter Try.func39, Try.ntmps39
      go_upto_region 1 with fail
      rw [← hw1]
      clear hw1
      have RK := @hideH _ K1
      go_wp2
      go_ret
      exact ⟨by rw [eQ.out]; rfl, RK.out⟩
  · have eQ := @hideH _ (show Q = false by rw [HQ.out]; exact bl_f (fun hR => by have q := HRI.out.1 hR; exact h0 (q.1.1)))
    have e_birth : (birth != 0) = true := by simp [h0]
    have g_birth : (birth == 0) = false := by simp [h0]
    obtain ⟨w1, hw1⟩ : ∃ w1, w1 = w.alloc (.cells #[.int .i64 1, .int .i64 birth, .int .i64 prev, .int .i64 id, .int .i64 page, .int .i64 frm, .slice pb nb cb, .slice pa na ca, .int .i64 next, .slice pr nr cr, .slice pd nd cd] 26) := ⟨_, rfl⟩
    have K1 : Kept [] w w1 := by rw [hw1]; exact (Kept.refl [] w).alloc _
    have bR : Blk w1 w.heap.size 26 [.int .i64 1, .int .i64 birth, .int .i64 prev, .int .i64 id, .int .i64 page, .int .i64 frm, .slice pb nb cb, .slice pa na ca, .int .i64 next, .slice pr nr cr, .slice pd nd cd] := by rw [hw1]; exact Blk.new w _ _
    have c0 := bR.cell (j := 0) rfl
    have c1 := bR.cell (j := 1) rfl
    have c2 := bR.cell (j := 2) rfl
    have c3 := bR.cell (j := 3) rfl
    have c4 := bR.cell (j := 4) rfl
    have c5 := bR.cell (j := 5) rfl
    have c6 := bR.cell (j := 6) rfl
    have c7 := bR.cell (j := 7) rfl
    have c8 := bR.cell (j := 8) rfl
    have c9 := bR.cell (j := 9) rfl
    have c10 := bR.cell (j := 10) rfl
    clear bR
    go_enter Try.func39, Try.ntmps39
    go_upto_region 1 with fail
    rw [← hw1]
    clear hw1
    have RK := @hideH _ K1
    go_wp2
    go_ret
    exact ⟨by rw [eQ.out]; rfl, RK.out⟩
end Go.Proofs.Ytebcmcmboomgfaa

/-
  OWN WORK (by mkrec4.py). The document's records (tidemarkref09): Right, of one kind.
-/
namespace Go.Proofs.Ytebcmcmboomgfaa
open Go.RowKit
set_option linter.unusedVariables false
set_option linter.unusedSimpArgs false

theorem byte_ne {x y : UInt8} (h : x ≠ y) : ((x.toNat : Int) != (y.toNat : Int)) = true := by
  simp only [bne_iff_ne, ne_eq, Int.natCast_inj]
  exact fun e => h (UInt8.toNat_inj.1 e)

set_option maxRecDepth 20000 in
set_option maxHeartbeats 12800000 in
theorem rRight_2 (V : RV) (birth prev id page frm : Int) (before after : List UInt8) (next : Int) (rows : List RowR) (dirty : List RecR) (w : World) (h : SeeR w V (⟨2, birth, prev, id, page, frm, before, after, next, rows, dirty⟩ : Rcd)) : Calls Try.prog 39 #[(⟨2, birth, prev, id, page, frm, before, after, next, rows, dirty⟩ : Rcd).agg V] w fun e w' => e = .returned (.bool (bl (⟨2, birth, prev, id, page, frm, before, after, next, rows, dirty⟩ : Rcd).Right)) ∧ Kept [] w w' := by
  haveI HNE : ∀ w2, Nonempty (Calm w2) := calmNe
  obtain ⟨pb, cb, pa, ca, pr, cr, pd, cd, rfl⟩ := h.shapes
  have RI : (⟨2, birth, prev, id, page, frm, before, after, next, rows, dirty⟩ : Rcd).Right ↔ (lsnOk birth ∧ lsnOk prev) ∧ id = 0 ∧ (rows = [] ∧ dirty = []) ∧ next = 0 ∧ rangedOk (⟨2, birth, prev, id, page, frm, before, after, next, rows, dirty⟩ : Rcd) ∧ partsOk (⟨2, birth, prev, id, page, frm, before, after, next, rows, dirty⟩ : Rcd) := by unfold Rcd.Right; simp
  obtain ⟨PL, hPL⟩ : ∃ PL : Prop, PL = listsOk (⟨2, birth, prev, id, page, frm, before, after, next, rows, dirty⟩ : Rcd) := ⟨_, rfl⟩
  obtain ⟨PR, hPR⟩ : ∃ PR : Prop, PR = rangedOk (⟨2, birth, prev, id, page, frm, before, after, next, rows, dirty⟩ : Rcd) := ⟨_, rfl⟩
  obtain ⟨PP, hPP⟩ : ∃ PP : Prop, PP = partsOk (⟨2, birth, prev, id, page, frm, before, after, next, rows, dirty⟩ : Rcd) := ⟨_, rfl⟩
  have hb := fun w => rIsLsn birth w
  have hp := fun w => rIsLsn prev w
  have hn := fun w => rIsNext next w
  have hu := fun (wz : World) (kz : Kept [] w wz) => rUnranged _ (⟨2, birth, prev, id, page, frm, before, after, next, rows, dirty⟩ : Rcd) wz (h.kept kz)
  have hr := fun (wz : World) (kz : Kept [] w wz) => rRanged _ (⟨2, birth, prev, id, page, frm, before, after, next, rows, dirty⟩ : Rcd) wz (h.kept kz)
  have hl := fun (wz : World) (kz : Kept [] w wz) => rLists _ (⟨2, birth, prev, id, page, frm, before, after, next, rows, dirty⟩ : Rcd) wz (h.kept kz)
  rw [← hPR] at RI
  simp only [← hPR] at hr
  rw [← hPP] at RI
  have HPL := @hideH _ hPL
  have HPR := @hideH _ hPR
  have HPP := @hideH _ hPP
  have HRI := @hideH _ RI
  clear hPL hPR hPP RI
  have hBS := @hideH _ h.before
  have hAS := @hideH _ h.after
  have hmx := @hideH _ (show after.length ≤ maxLen from (by obtain ⟨_, _, e, h1, h2, _⟩ := h.after; cases e; exact Nat.le_trans h1 h2))
  clear h
  unfold Rcd.agg at hu hr hl ⊢
  dsimp only at hu hr hl hBS hAS ⊢
  obtain ⟨Q, hQ⟩ : ∃ Q, Q = bl (⟨2, birth, prev, id, page, frm, before, after, next, rows, dirty⟩ : Rcd).Right := ⟨_, rfl⟩
  rw [← hQ]
  have HQ := @hideH _ hQ
  clear hQ
  obtain ⟨nb, hnb⟩ : ∃ nb, nb = before.length := ⟨_, rfl⟩
  obtain ⟨na, hna⟩ : ∃ na, na = after.length := ⟨_, rfl⟩
  obtain ⟨nr, hnr⟩ : ∃ nr, nr = rows.length := ⟨_, rfl⟩
  obtain ⟨nd, hnd⟩ : ∃ nd, nd = dirty.length := ⟨_, rfl⟩
  simp only [← hnb, ← hna, ← hnr, ← hnd] at hu hr hl ⊢
  have HNB := @hideH _ hnb
  have HNA := @hideH _ hna
  have HNR := @hideH _ hnr
  have HND := @hideH _ hnd
  clear hnb hna hnr hnd
  clear hn
  clear hu
  clear hl
  by_cases h0 : lsnOk birth
  · simp only [bl_t h0] at hb
    have k0 := @hideH _ h0
    clear h0
    by_cases h1 : lsnOk prev
    · simp only [bl_t h1] at hp
      have k1 := @hideH _ h1
      clear h1
      by_cases h2 : id = 0
      · subst h2
        by_cases h3 : nr = 0
        · subst h3
          by_cases h4 : nd = 0
          · subst h4
            by_cases h5 : next = 0
            · subst h5
              by_cases h6 : PR
              · simp only [bl_t h6] at hr
                have k6 := @hideH _ h6
                clear h6
                have HRG := @hideH _ (show 1 ≤ na ∧ na ≤ 128 by have := (Eq.mp HPR.out k6.out).2.1; simp only at this; rw [HNA.out]; exact this)
                by_cases hlen : nb = na
                rotate_left
                · have eQ := @hideH _ (show Q = false by rw [HQ.out]; exact bl_f (fun hR => by have q := (Eq.mp HPP.out (HRI.out.1 hR).2.2.2.2.2).1; simp only at q; exact hlen (by rw [HNB.out, HNA.out]; exact q)))
                  have hlb : ((nb : Int) == (na : Int)) = false := beq_eq_false_iff_ne.2 (fun e => hlen (by omega))
                  obtain ⟨w1, hw1⟩ : ∃ w1, w1 = w.alloc (.cells #[.int .i64 2, .int .i64 birth, .int .i64 prev, .int .i64 0, .int .i64 page, .int .i64 frm, .slice pb nb cb, .slice pa na ca, .int .i64 0, .slice pr 0 cr, .slice pd 0 cd] 26) := ⟨_, rfl⟩
                  have K1 : Kept [] w w1 := by rw [hw1]; exact (Kept.refl [] w).alloc _
                  have bR : Blk w1 w.heap.size 26 [.int .i64 2, .int .i64 birth, .int .i64 prev, .int .i64 0, .int .i64 page, .int .i64 frm, .slice pb nb cb, .slice pa na ca, .int .i64 0, .slice pr 0 cr, .slice pd 0 cd] := by rw [hw1]; exact Blk.new w _ _
                  have c0 := bR.cell (j := 0) rfl
                  have c1 := bR.cell (j := 1) rfl
                  have c2 := bR.cell (j := 2) rfl
                  have c3 := bR.cell (j := 3) rfl
                  have c4 := bR.cell (j := 4) rfl
                  have c5 := bR.cell (j := 5) rfl
                  have c6 := bR.cell (j := 6) rfl
                  have c7 := bR.cell (j := 7) rfl
                  have c8 := bR.cell (j := 8) rfl
                  have c9 := bR.cell (j := 9) rfl
                  have c10 := bR.cell (j := 10) rfl
                  clear bR
                  go_enter Try.func39, Try.ntmps39
                  go_upto_region 1 with fail
                  rw [← hw1]
                  clear hw1
                  go_wp2_with fail
                  refine (hb _).mono ?_
                  rintro e wq ⟨rfl, rfl⟩
                  go_wp2_with fail
                  refine (hp _).mono ?_
                  rintro e wq ⟨rfl, rfl⟩
                  go_wp2_with fail
                  refine (hr _ K1).mono ?_
                  rintro e w2 ⟨rfl, kn⟩
                  have K2 := K1.then kn
                  replace c0 := kn.cell c0 (by simp)
                  replace c1 := kn.cell c1 (by simp)
                  replace c2 := kn.cell c2 (by simp)
                  replace c3 := kn.cell c3 (by simp)
                  replace c4 := kn.cell c4 (by simp)
                  replace c5 := kn.cell c5 (by simp)
                  replace c6 := kn.cell c6 (by simp)
                  replace c7 := kn.cell c7 (by simp)
                  replace c8 := kn.cell c8 (by simp)
                  replace c9 := kn.cell c9 (by simp)
                  replace c10 := kn.cell c10 (by simp)
                  clear kn
                  go_upto_region 21 with fail
                  have s_c6 := fun (s : Calm w2) => s.kept.cell c6 (by simp)
                  have s_c7 := fun (s : Calm w2) => s.kept.cell c7 (by simp)
                  have KR := @hideH _ (Kept.refl [] w2)
                  clear c6 c7
                  refine wp_region_calm KR.out (by kernel_rfl) (by kernel_rfl) ?_
                  repeat (go_big_quiet_step (fail))
                  refine wpQuiet_nil ?_
                  intro _ hw'
                  obtain ⟨sq, hw''⟩ := hw'
                  subst hw''
                  have ks := sq.kept
                  generalize sq.at = wx at ks ⊢
                  clear sq
                  have RK := @hideH _ (K2.then ks)
                  clear ks s_c6 s_c7
                  go_wp2
                  go_ret
                  exact ⟨by rw [eQ.out]; rfl, RK.out⟩
                obtain ⟨x0, hx0⟩ : ∃ x, before[0]? = some x := ⟨_, List.getElem?_eq_getElem (by have := HRG.out; have e1 := HNB.out; omega)⟩
                obtain ⟨y0, hy0⟩ : ∃ x, after[0]? = some x := ⟨_, List.getElem?_eq_getElem (by have := HRG.out; have e1 := HNA.out; omega)⟩
                obtain ⟨x1, hx1⟩ : ∃ x, before[na - 1]? = some x := ⟨_, List.getElem?_eq_getElem (by have := HRG.out; have e1 := HNB.out; omega)⟩
                obtain ⟨y1, hy1⟩ : ∃ x, after[na - 1]? = some x := ⟨_, List.getElem?_eq_getElem (by have := HRG.out; have e1 := HNA.out; omega)⟩
                have HXY := @hideH _ (And.intro hx0 (And.intro hy0 (And.intro hx1 hy1)))
                obtain ⟨bb, ob, cb', eb, -, -, -, hbc⟩ := hBS.out.pos (by have := HRG.out; have e1 := HNB.out; omega)
                obtain ⟨ba, oa, ca', ea, -, -, -, hac⟩ := hAS.out.pos (by have := HRG.out; have e1 := HNA.out; omega)
                obtain rfl : pb = some ⟨bb, ob, none⟩ := by simp at eb; exact eb.1
                obtain rfl : pa = some ⟨ba, oa, none⟩ := by simp at ea; exact ea.1
                have v0 : w.cell? ⟨bb, ob, none⟩ = some (.int .u8 (x0.toNat : Int)) := hbc 0 x0 hx0
                have v1 : w.cell? ⟨ba, oa, none⟩ = some (.int .u8 (y0.toNat : Int)) := hac 0 y0 hy0
                have v2 := hbc (na - 1) x1 hx1
                have v3 := hac (na - 1) y1 hy1
                have wna : IntKind.i64.wrap ((na : Int) - 1) = ((na - 1 : Nat) : Int) := by rw [show (na : Int) - 1 = ((na - 1 : Nat) : Int) by have := HRG.out; omega]; exact wrap_i64_of (by omega) (by have := HRG.out; omega)
                have nz : (0 : Int) < (na : Int) := by have := HRG.out; omega
                have nz' : 0 < na := by have := HRG.out; omega
                have nl : ((na - 1 : Nat) : Int) < (na : Int) := by have := HRG.out; omega
                have nl0 : (0 : Int) ≤ ((na - 1 : Nat) : Int) := by omega
                have HLEN := @hideH _ hlen
                subst hlen
                clear hx0 hy0 hx1 hy1 eb ea hbc hac
                by_cases hz0 : x0 = y0
                · have eQ := @hideH _ (show Q = false by rw [HQ.out]; exact bl_f (fun hR => by have q := (Eq.mp HPP.out (HRI.out.1 hR).2.2.2.2.2).2.1; simp only at q; exact q (by rw [HXY.out.1, HXY.out.2.1, hz0])))
                  have hbz : ((x0.toNat : Int) != (y0.toNat : Int)) = false := by simp [hz0]
                  clear hz0
                  obtain ⟨w1, hw1⟩ : ∃ w1, w1 = w.alloc (.cells #[.int .i64 2, .int .i64 birth, .int .i64 prev, .int .i64 0, .int .i64 page, .int .i64 frm, .slice (some ⟨bb, ob, none⟩) nb cb, .slice (some ⟨ba, oa, none⟩) nb ca, .int .i64 0, .slice pr 0 cr, .slice pd 0 cd] 26) := ⟨_, rfl⟩
                  have K1 : Kept [] w w1 := by rw [hw1]; exact (Kept.refl [] w).alloc _
                  have bR : Blk w1 w.heap.size 26 [.int .i64 2, .int .i64 birth, .int .i64 prev, .int .i64 0, .int .i64 page, .int .i64 frm, .slice (some ⟨bb, ob, none⟩) nb cb, .slice (some ⟨ba, oa, none⟩) nb ca, .int .i64 0, .slice pr 0 cr, .slice pd 0 cd] := by rw [hw1]; exact Blk.new w _ _
                  have c0 := bR.cell (j := 0) rfl
                  have c1 := bR.cell (j := 1) rfl
                  have c2 := bR.cell (j := 2) rfl
                  have c3 := bR.cell (j := 3) rfl
                  have c4 := bR.cell (j := 4) rfl
                  have c5 := bR.cell (j := 5) rfl
                  have c6 := bR.cell (j := 6) rfl
                  have c7 := bR.cell (j := 7) rfl
                  have c8 := bR.cell (j := 8) rfl
                  have c9 := bR.cell (j := 9) rfl
                  have c10 := bR.cell (j := 10) rfl
                  clear bR
                  go_enter Try.func39, Try.ntmps39
                  go_upto_region 1 with fail
                  rw [← hw1]
                  clear hw1
                  go_wp2_with fail
                  refine (hb _).mono ?_
                  rintro e wq ⟨rfl, rfl⟩
                  go_wp2_with fail
                  refine (hp _).mono ?_
                  rintro e wq ⟨rfl, rfl⟩
                  go_wp2_with fail
                  refine (hr _ K1).mono ?_
                  rintro e w2 ⟨rfl, kn⟩
                  have K2 := K1.then kn
                  replace c0 := kn.cell c0 (by simp)
                  replace c1 := kn.cell c1 (by simp)
                  replace c2 := kn.cell c2 (by simp)
                  replace c3 := kn.cell c3 (by simp)
                  replace c4 := kn.cell c4 (by simp)
                  replace c5 := kn.cell c5 (by simp)
                  replace c6 := kn.cell c6 (by simp)
                  replace c7 := kn.cell c7 (by simp)
                  replace c8 := kn.cell c8 (by simp)
                  replace c9 := kn.cell c9 (by simp)
                  replace c10 := kn.cell c10 (by simp)
                  clear kn
                  go_upto_region 21 with fail
                  have u_v0 := K2.cell v0 (by simp)
                  have u_v1 := K2.cell v1 (by simp)
                  have u_v2 := K2.cell v2 (by simp)
                  have u_v3 := K2.cell v3 (by simp)
                  have s_c6 := fun (s : Calm w2) => s.kept.cell c6 (by simp)
                  have s_c7 := fun (s : Calm w2) => s.kept.cell c7 (by simp)
                  have s_u_v0 := fun (s : Calm w2) => s.kept.cell u_v0 (by simp)
                  have s_u_v1 := fun (s : Calm w2) => s.kept.cell u_v1 (by simp)
                  have s_u_v2 := fun (s : Calm w2) => s.kept.cell u_v2 (by simp)
                  have s_u_v3 := fun (s : Calm w2) => s.kept.cell u_v3 (by simp)
                  have KR := @hideH _ (Kept.refl [] w2)
                  clear c6 c7 u_v0 u_v1 u_v2 u_v3
                  refine wp_region_calm KR.out (by kernel_rfl) (by kernel_rfl) ?_
                  repeat (go_big_quiet_step (fail))
                  refine wpQuiet_nil ?_
                  intro _ hw'
                  obtain ⟨sq, hw''⟩ := hw'
                  subst hw''
                  have ks := sq.kept
                  generalize sq.at = wx at ks ⊢
                  clear sq
                  have RK := @hideH _ (K2.then ks)
                  clear ks s_c6 s_c7 s_u_v0 s_u_v1 s_u_v2 s_u_v3
                  go_wp2
                  go_ret
                  exact ⟨by rw [eQ.out]; rfl, RK.out⟩
                · have hbz : ((x0.toNat : Int) != (y0.toNat : Int)) = true := byte_ne hz0
                  by_cases hz1 : x1 = y1
                  · have eQ := @hideH _ (show Q = false by rw [HQ.out]; exact bl_f (fun hR => by have q := (Eq.mp HPP.out (HRI.out.1 hR).2.2.2.2.2).2.2; simp only at q; exact q (by rw [← HNA.out, HXY.out.2.2.1, HXY.out.2.2.2, hz1])))
                    have hby : ((x1.toNat : Int) != (y1.toNat : Int)) = false := by simp [hz1]
                    clear hz0 hz1
                    obtain ⟨w1, hw1⟩ : ∃ w1, w1 = w.alloc (.cells #[.int .i64 2, .int .i64 birth, .int .i64 prev, .int .i64 0, .int .i64 page, .int .i64 frm, .slice (some ⟨bb, ob, none⟩) nb cb, .slice (some ⟨ba, oa, none⟩) nb ca, .int .i64 0, .slice pr 0 cr, .slice pd 0 cd] 26) := ⟨_, rfl⟩
                    have K1 : Kept [] w w1 := by rw [hw1]; exact (Kept.refl [] w).alloc _
                    have bR : Blk w1 w.heap.size 26 [.int .i64 2, .int .i64 birth, .int .i64 prev, .int .i64 0, .int .i64 page, .int .i64 frm, .slice (some ⟨bb, ob, none⟩) nb cb, .slice (some ⟨ba, oa, none⟩) nb ca, .int .i64 0, .slice pr 0 cr, .slice pd 0 cd] := by rw [hw1]; exact Blk.new w _ _
                    have c0 := bR.cell (j := 0) rfl
                    have c1 := bR.cell (j := 1) rfl
                    have c2 := bR.cell (j := 2) rfl
                    have c3 := bR.cell (j := 3) rfl
                    have c4 := bR.cell (j := 4) rfl
                    have c5 := bR.cell (j := 5) rfl
                    have c6 := bR.cell (j := 6) rfl
                    have c7 := bR.cell (j := 7) rfl
                    have c8 := bR.cell (j := 8) rfl
                    have c9 := bR.cell (j := 9) rfl
                    have c10 := bR.cell (j := 10) rfl
                    clear bR
                    go_enter Try.func39, Try.ntmps39
                    go_upto_region 1 with fail
                    rw [← hw1]
                    clear hw1
                    go_wp2_with fail
                    refine (hb _).mono ?_
                    rintro e wq ⟨rfl, rfl⟩
                    go_wp2_with fail
                    refine (hp _).mono ?_
                    rintro e wq ⟨rfl, rfl⟩
                    go_wp2_with fail
                    refine (hr _ K1).mono ?_
                    rintro e w2 ⟨rfl, kn⟩
                    have K2 := K1.then kn
                    replace c0 := kn.cell c0 (by simp)
                    replace c1 := kn.cell c1 (by simp)
                    replace c2 := kn.cell c2 (by simp)
                    replace c3 := kn.cell c3 (by simp)
                    replace c4 := kn.cell c4 (by simp)
                    replace c5 := kn.cell c5 (by simp)
                    replace c6 := kn.cell c6 (by simp)
                    replace c7 := kn.cell c7 (by simp)
                    replace c8 := kn.cell c8 (by simp)
                    replace c9 := kn.cell c9 (by simp)
                    replace c10 := kn.cell c10 (by simp)
                    clear kn
                    go_upto_region 21 with fail
                    have u_v0 := K2.cell v0 (by simp)
                    have u_v1 := K2.cell v1 (by simp)
                    have u_v2 := K2.cell v2 (by simp)
                    have u_v3 := K2.cell v3 (by simp)
                    have s_c6 := fun (s : Calm w2) => s.kept.cell c6 (by simp)
                    have s_c7 := fun (s : Calm w2) => s.kept.cell c7 (by simp)
                    have s_u_v0 := fun (s : Calm w2) => s.kept.cell u_v0 (by simp)
                    have s_u_v1 := fun (s : Calm w2) => s.kept.cell u_v1 (by simp)
                    have s_u_v2 := fun (s : Calm w2) => s.kept.cell u_v2 (by simp)
                    have s_u_v3 := fun (s : Calm w2) => s.kept.cell u_v3 (by simp)
                    have KR := @hideH _ (Kept.refl [] w2)
                    clear c6 c7 u_v0 u_v1 u_v2 u_v3
                    refine wp_region_calm KR.out (by kernel_rfl) (by kernel_rfl) ?_
                    repeat (go_big_quiet_step (fail))
                    refine wpQuiet_nil ?_
                    intro _ hw'
                    obtain ⟨sq, hw''⟩ := hw'
                    subst hw''
                    have ks := sq.kept
                    generalize sq.at = wx at ks ⊢
                    clear sq
                    have RK := @hideH _ (K2.then ks)
                    clear ks s_c6 s_c7 s_u_v0 s_u_v1 s_u_v2 s_u_v3
                    go_wp2
                    go_ret
                    exact ⟨by rw [eQ.out]; rfl, RK.out⟩
                  · have hby : ((x1.toNat : Int) != (y1.toNat : Int)) = true := byte_ne hz1
                    have eQ := @hideH _ (show Q = true by rw [HQ.out]; exact bl_t (HRI.out.2 ⟨⟨k0.out, k1.out⟩, rfl, ⟨(List.eq_nil_of_length_eq_zero HNR.out.symm), (List.eq_nil_of_length_eq_zero HND.out.symm)⟩, rfl, k6.out, (Eq.mpr HPP.out ⟨by rw [← HNB.out, ← HNA.out], fun e => hz0 (by rw [HXY.out.1, HXY.out.2.1] at e; exact Option.some.inj e), fun e => hz1 (by rw [← HNA.out, HXY.out.2.2.1, HXY.out.2.2.2] at e; exact Option.some.inj e)⟩)⟩))
                    clear hz0 hz1
                    obtain ⟨w1, hw1⟩ : ∃ w1, w1 = w.alloc (.cells #[.int .i64 2, .int .i64 birth, .int .i64 prev, .int .i64 0, .int .i64 page, .int .i64 frm, .slice (some ⟨bb, ob, none⟩) nb cb, .slice (some ⟨ba, oa, none⟩) nb ca, .int .i64 0, .slice pr 0 cr, .slice pd 0 cd] 26) := ⟨_, rfl⟩
                    have K1 : Kept [] w w1 := by rw [hw1]; exact (Kept.refl [] w).alloc _
                    have bR : Blk w1 w.heap.size 26 [.int .i64 2, .int .i64 birth, .int .i64 prev, .int .i64 0, .int .i64 page, .int .i64 frm, .slice (some ⟨bb, ob, none⟩) nb cb, .slice (some ⟨ba, oa, none⟩) nb ca, .int .i64 0, .slice pr 0 cr, .slice pd 0 cd] := by rw [hw1]; exact Blk.new w _ _
                    have c0 := bR.cell (j := 0) rfl
                    have c1 := bR.cell (j := 1) rfl
                    have c2 := bR.cell (j := 2) rfl
                    have c3 := bR.cell (j := 3) rfl
                    have c4 := bR.cell (j := 4) rfl
                    have c5 := bR.cell (j := 5) rfl
                    have c6 := bR.cell (j := 6) rfl
                    have c7 := bR.cell (j := 7) rfl
                    have c8 := bR.cell (j := 8) rfl
                    have c9 := bR.cell (j := 9) rfl
                    have c10 := bR.cell (j := 10) rfl
                    clear bR
                    go_enter Try.func39, Try.ntmps39
                    go_upto_region 1 with fail
                    rw [← hw1]
                    clear hw1
                    go_wp2_with fail
                    refine (hb _).mono ?_
                    rintro e wq ⟨rfl, rfl⟩
                    go_wp2_with fail
                    refine (hp _).mono ?_
                    rintro e wq ⟨rfl, rfl⟩
                    go_wp2_with fail
                    refine (hr _ K1).mono ?_
                    rintro e w2 ⟨rfl, kn⟩
                    have K2 := K1.then kn
                    replace c0 := kn.cell c0 (by simp)
                    replace c1 := kn.cell c1 (by simp)
                    replace c2 := kn.cell c2 (by simp)
                    replace c3 := kn.cell c3 (by simp)
                    replace c4 := kn.cell c4 (by simp)
                    replace c5 := kn.cell c5 (by simp)
                    replace c6 := kn.cell c6 (by simp)
                    replace c7 := kn.cell c7 (by simp)
                    replace c8 := kn.cell c8 (by simp)
                    replace c9 := kn.cell c9 (by simp)
                    replace c10 := kn.cell c10 (by simp)
                    clear kn
                    go_upto_region 21 with fail
                    have u_v0 := K2.cell v0 (by simp)
                    have u_v1 := K2.cell v1 (by simp)
                    have u_v2 := K2.cell v2 (by simp)
                    have u_v3 := K2.cell v3 (by simp)
                    have s_c6 := fun (s : Calm w2) => s.kept.cell c6 (by simp)
                    have s_c7 := fun (s : Calm w2) => s.kept.cell c7 (by simp)
                    have s_u_v0 := fun (s : Calm w2) => s.kept.cell u_v0 (by simp)
                    have s_u_v1 := fun (s : Calm w2) => s.kept.cell u_v1 (by simp)
                    have s_u_v2 := fun (s : Calm w2) => s.kept.cell u_v2 (by simp)
                    have s_u_v3 := fun (s : Calm w2) => s.kept.cell u_v3 (by simp)
                    have KR := @hideH _ (Kept.refl [] w2)
                    clear c6 c7 u_v0 u_v1 u_v2 u_v3
                    refine wp_region_calm KR.out (by kernel_rfl) (by kernel_rfl) ?_
                    repeat (go_big_quiet_step (fail))
                    refine wpQuiet_nil ?_
                    intro _ hw'
                    obtain ⟨sq, hw''⟩ := hw'
                    subst hw''
                    have ks := sq.kept
                    generalize sq.at = wx at ks ⊢
                    clear sq
                    have RK := @hideH _ (K2.then ks)
                    clear ks s_c6 s_c7 s_u_v0 s_u_v1 s_u_v2 s_u_v3
                    go_wp2
                    go_ret
                    exact ⟨by rw [eQ.out]; rfl, RK.out⟩
              · have eQ := @hideH _ (show Q = false by rw [HQ.out]; exact bl_f (fun hR => by have q := HRI.out.1 hR; exact h6 (q.2.2.2.2.1)))
                simp only [bl_f h6] at hr
                clear h6
                obtain ⟨w1, hw1⟩ : ∃ w1, w1 = w.alloc (.cells #[.int .i64 2, .int .i64 birth, .int .i64 prev, .int .i64 0, .int .i64 page, .int .i64 frm, .slice pb nb cb, .slice pa na ca, .int .i64 0, .slice pr 0 cr, .slice pd 0 cd] 26) := ⟨_, rfl⟩
                have K1 : Kept [] w w1 := by rw [hw1]; exact (Kept.refl [] w).alloc _
                have bR : Blk w1 w.heap.size 26 [.int .i64 2, .int .i64 birth, .int .i64 prev, .int .i64 0, .int .i64 page, .int .i64 frm, .slice pb nb cb, .slice pa na ca, .int .i64 0, .slice pr 0 cr, .slice pd 0 cd] := by rw [hw1]; exact Blk.new w _ _
                have c0 := bR.cell (j := 0) rfl
                have c1 := bR.cell (j := 1) rfl
                have c2 := bR.cell (j := 2) rfl
                have c3 := bR.cell (j := 3) rfl
                have c4 := bR.cell (j := 4) rfl
                have c5 := bR.cell (j := 5) rfl
                have c6 := bR.cell (j := 6) rfl
                have c7 := bR.cell (j := 7) rfl
                have c8 := bR.cell (j := 8) rfl
                have c9 := bR.cell (j := 9) rfl
                have c10 := bR.cell (j := 10) rfl
                clear bR
                go_enter Try.func39, Try.ntmps39
                go_upto_region 1 with fail
                rw [← hw1]
                clear hw1
                go_wp2_with fail
                refine (hb _).mono ?_
                rintro e wq ⟨rfl, rfl⟩
                go_wp2_with fail
                refine (hp _).mono ?_
                rintro e wq ⟨rfl, rfl⟩
                go_wp2_with fail
                refine (hr _ K1).mono ?_
                rintro e w2 ⟨rfl, kn⟩
                have K2 := K1.then kn
                replace c0 := kn.cell c0 (by simp)
                replace c1 := kn.cell c1 (by simp)
                replace c2 := kn.cell c2 (by simp)
                replace c3 := kn.cell c3 (by simp)
                replace c4 := kn.cell c4 (by simp)
                replace c5 := kn.cell c5 (by simp)
                replace c6 := kn.cell c6 (by simp)
                replace c7 := kn.cell c7 (by simp)
                replace c8 := kn.cell c8 (by simp)
                replace c9 := kn.cell c9 (by simp)
                replace c10 := kn.cell c10 (by simp)
                clear kn
                have RK := @hideH _ K2
                go_wp2
                go_ret
                exact ⟨by rw [eQ.out]; rfl, RK.out⟩
            · have eQ := @hideH _ (show Q = false by rw [HQ.out]; exact bl_f (fun hR => by have q := HRI.out.1 hR; exact h5 (q.2.2.2.1)))
              have e_next : (next != 0) = true := by simp [h5]
              have g_next : (next == 0) = false := by simp [h5]
              obtain ⟨w1, hw1⟩ : ∃ w1, w1 = w.alloc (.cells #[.int .i64 2, .int .i64 birth, .int .i64 prev, .int .i64 0, .int .i64 page, .int .i64 frm, .slice pb nb cb, .slice pa na ca, .int .i64 next, .slice pr 0 cr, .slice pd 0 cd] 26) := ⟨_, rfl⟩
              have K1 : Kept [] w w1 := by rw [hw1]; exact (Kept.refl [] w).alloc _
              have bR : Blk w1 w.heap.size 26 [.int .i64 2, .int .i64 birth, .int .i64 prev, .int .i64 0, .int .i64 page, .int .i64 frm, .slice pb nb cb, .slice pa na ca, .int .i64 next, .slice pr 0 cr, .slice pd 0 cd] := by rw [hw1]; exact Blk.new w _ _
              have c0 := bR.cell (j := 0) rfl
              have c1 := bR.cell (j := 1) rfl
              have c2 := bR.cell (j := 2) rfl
              have c3 := bR.cell (j := 3) rfl
              have c4 := bR.cell (j := 4) rfl
              have c5 := bR.cell (j := 5) rfl
              have c6 := bR.cell (j := 6) rfl
              have c7 := bR.cell (j := 7) rfl
              have c8 := bR.cell (j := 8) rfl
              have c9 := bR.cell (j := 9) rfl
              have c10 := bR.cell (j := 10) rfl
              clear bR
              go_enter Try.func39, Try.ntmps39
              go_upto_region 1 with fail
              rw [← hw1]
              clear hw1
              go_wp2_with fail
              refine (hb _).mono ?_
              rintro e wq ⟨rfl, rfl⟩
              go_wp2_with fail
              refine (hp _).mono ?_
              rintro e wq ⟨rfl, rfl⟩
              have RK := @hideH _ K1
              go_wp2
              go_ret
              exact ⟨by rw [eQ.out]; rfl, RK.out⟩
          · have eQ := @hideH _ (show Q = false by rw [HQ.out]; exact bl_f (fun hR => by have q := HRI.out.1 hR; exact h4 (by rw [HND.out, q.2.2.1.2]; rfl)))
            have g_nd : 0 < nd := by omega
            have e_nd : ((nd : Int) == 0) = false := by simp [h4]
            obtain ⟨w1, hw1⟩ : ∃ w1, w1 = w.alloc (.cells #[.int .i64 2, .int .i64 birth, .int .i64 prev, .int .i64 0, .int .i64 page, .int .i64 frm, .slice pb nb cb, .slice pa na ca, .int .i64 next, .slice pr 0 cr, .slice pd nd cd] 26) := ⟨_, rfl⟩
            have K1 : Kept [] w w1 := by rw [hw1]; exact (Kept.refl [] w).alloc _
            have bR : Blk w1 w.heap.size 26 [.int .i64 2, .int .i64 birth, .int .i64 prev, .int .i64 0, .int .i64 page, .int .i64 frm, .slice pb nb cb, .slice pa na ca, .int .i64 next, .slice pr 0 cr, .slice pd nd cd] := by rw [hw1]; exact Blk.new w _ _
            have c0 := bR.cell (j := 0) rfl
            have c1 := bR.cell (j := 1) rfl
            have c2 := bR.cell (j := 2) rfl
            have c3 := bR.cell (j := 3) rfl
            have c4 := bR.cell (j := 4) rfl
            have c5 := bR.cell (j := 5) rfl
            have c6 := bR.cell (j := 6) rfl
            have c7 := bR.cell (j := 7) rfl
            have c8 := bR.cell (j := 8) rfl
            have c9 := bR.cell (j := 9) rfl
            have c10 := bR.cell (j := 10) rfl
            clear bR
            go_enter Try.func39, Try.ntmps39
            go_upto_region 1 with fail
            rw [← hw1]
            clear hw1
            go_wp2_with fail
            refine (hb _).mono ?_
            rintro e wq ⟨rfl, rfl⟩
            go_wp2_with fail
            refine (hp _).mono ?_
            rintro e wq ⟨rfl, rfl⟩
            have RK := @hideH _ K1
            go_wp2
            go_ret
            exact ⟨by rw [eQ.out]; rfl, RK.out⟩
        · have eQ := @hideH _ (show Q = false by rw [HQ.out]; exact bl_f (fun hR => by have q := HRI.out.1 hR; exact h3 (by rw [HNR.out, q.2.2.1.1]; rfl)))
          have g_nr : 0 < nr := by omega
          have e_nr : ((nr : Int) == 0) = false := by simp [h3]
          obtain ⟨w1, hw1⟩ : ∃ w1, w1 = w.alloc (.cells #[.int .i64 2, .int .i64 birth, .int .i64 prev, .int .i64 0, .int .i64 page, .int .i64 frm, .slice pb nb cb, .slice pa na ca, .int .i64 next, .slice pr nr cr, .slice pd nd cd] 26) := ⟨_, rfl⟩
          have K1 : Kept [] w w1 := by rw [hw1]; exact (Kept.refl [] w).alloc _
          have bR : Blk w1 w.heap.size 26 [.int .i64 2, .int .i64 birth, .int .i64 prev, .int .i64 0, .int .i64 page, .int .i64 frm, .slice pb nb cb, .slice pa na ca, .int .i64 next, .slice pr nr cr, .slice pd nd cd] := by rw [hw1]; exact Blk.new w _ _
          have c0 := bR.cell (j := 0) rfl
          have c1 := bR.cell (j := 1) rfl
          have c2 := bR.cell (j := 2) rfl
          have c3 := bR.cell (j := 3) rfl
          have c4 := bR.cell (j := 4) rfl
          have c5 := bR.cell (j := 5) rfl
          have c6 := bR.cell (j := 6) rfl
          have c7 := bR.cell (j := 7) rfl
          have c8 := bR.cell (j := 8) rfl
          have c9 := bR.cell (j := 9) rfl
          have c10 := bR.cell (j := 10) rfl
          clear bR
          go_enter Try.func39, Try.ntmps39
          go_upto_region 1 with fail
          rw [← hw1]
          clear hw1
          go_wp2_with fail
          refine (hb _).mono ?_
          rintro e wq ⟨rfl, rfl⟩
          go_wp2_with fail
          refine (hp _).mono ?_
          rintro e wq ⟨rfl, rfl⟩
          have RK := @hideH _ K1
          go_wp2
          go_ret
          exact ⟨by rw [eQ.out]; rfl, RK.out⟩
      · have eQ := @hideH _ (show Q = false by rw [HQ.out]; exact bl_f (fun hR => by have q := HRI.out.1 hR; exact h2 (q.2.1)))
        have e_id : (id != 0) = true := by simp [h2]
        have g_id : (id == 0) = false := by simp [h2]
        obtain ⟨w1, hw1⟩ : ∃ w1, w1 = w.alloc (.cells #[.int .i64 2, .int .i64 birth, .int .i64 prev, .int .i64 id, .int .i64 page, .int .i64 frm, .slice pb nb cb, .slice pa na ca, .int .i64 next, .slice pr nr cr, .slice pd nd cd] 26) := ⟨_, rfl⟩
        have K1 : Kept [] w w1 := by rw [hw1]; exact (Kept.refl [] w).alloc _
        have bR : Blk w1 w.heap.size 26 [.int .i64 2, .int .i64 birth, .int .i64 prev, .int .i64 id, .int .i64 page, .int .i64 frm, .slice pb nb cb, .slice pa na ca, .int .i64 next, .slice pr nr cr, .slice pd nd cd] := by rw [hw1]; exact Blk.new w _ _
        have c0 := bR.cell (j := 0) rfl
        have c1 := bR.cell (j := 1) rfl
        have c2 := bR.cell (j := 2) rfl
        have c3 := bR.cell (j := 3) rfl
        have c4 := bR.cell (j := 4) rfl
        have c5 := bR.cell (j := 5) rfl
        have c6 := bR.cell (j := 6) rfl
        have c7 := bR.cell (j := 7) rfl
        have c8 := bR.cell (j := 8) rfl
        have c9 := bR.cell (j := 9) rfl
        have c10 := bR.cell (j := 10) rfl
        clear bR
        go_enter Try.func39, Try.ntmps39
        go_upto_region 1 with fail
        rw [← hw1]
        clear hw1
        go_wp2_with fail
        refine (hb _).mono ?_
        rintro e wq ⟨rfl, rfl⟩
        go_wp2_with fail
        refine (hp _).mono ?_
        rintro e wq ⟨rfl, rfl⟩
        have RK := @hideH _ K1
        go_wp2
        go_ret
        exact ⟨by rw [eQ.out]; rfl, RK.out⟩
    · have eQ := @hideH _ (show Q = false by rw [HQ.out]; exact bl_f (fun hR => by have q := HRI.out.1 hR; exact h1 (q.1.2)))
      simp only [bl_f h1] at hp
      clear h1
      obtain ⟨w1, hw1⟩ : ∃ w1, w1 = w.alloc (.cells #[.int .i64 2, .int .i64 birth, .int .i64 prev, .int .i64 id, .int .i64 page, .int .i64 frm, .slice pb nb cb, .slice pa na ca, .int .i64 next, .slice pr nr cr, .slice pd nd cd] 26) := ⟨_, rfl⟩
      have K1 : Kept [] w w1 := by rw [hw1]; exact (Kept.refl [] w).alloc _
      have bR : Blk w1 w.heap.size 26 [.int .i64 2, .int .i64 birth, .int .i64 prev, .int .i64 id, .int .i64 page, .int .i64 frm, .slice pb nb cb, .slice pa na ca, .int .i64 next, .slice pr nr cr, .slice pd nd cd] := by rw [hw1]; exact Blk.new w _ _
      have c0 := bR.cell (j := 0) rfl
      have c1 := bR.cell (j := 1) rfl
      have c2 := bR.cell (j := 2) rfl
      have c3 := bR.cell (j := 3) rfl
      have c4 := bR.cell (j := 4) rfl
      have c5 := bR.cell (j := 5) rfl
      have c6 := bR.cell (j := 6) rfl
      have c7 := bR.cell (j := 7) rfl
      have c8 := bR.cell (j := 8) rfl
      have c9 := bR.cell (j := 9) rfl
      have c10 := bR.cell (j := 10) rfl
      clear bR
      go_enter Try.func39, Try.ntmps39
      go_upto_region 1 with fail
      rw [← hw1]
      clear hw1
      go_wp2_with fail
      refine (hb _).mono ?_
      rintro e wq ⟨rfl, rfl⟩
      go_wp2_with fail
      refine (hp _).mono ?_
      rintro e wq ⟨rfl, rfl⟩
      have RK := @hideH _ K1
      go_wp2
      go_ret
      exact ⟨by rw [eQ.out]; rfl, RK.out⟩
  · have eQ := @hideH _ (show Q = false by rw [HQ.out]; exact bl_f (fun hR => by have q := HRI.out.1 hR; exact h0 (q.1.1)))
    simp only [bl_f h0] at hb
    clear h0
    obtain ⟨w1, hw1⟩ : ∃ w1, w1 = w.alloc (.cells #[.int .i64 2, .int .i64 birth, .int .i64 prev, .int .i64 id, .int .i64 page, .int .i64 frm, .slice pb nb cb, .slice pa na ca, .int .i64 next, .slice pr nr cr, .slice pd nd cd] 26) := ⟨_, rfl⟩
    have K1 : Kept [] w w1 := by rw [hw1]; exact (Kept.refl [] w).alloc _
    have bR : Blk w1 w.heap.size 26 [.int .i64 2, .int .i64 birth, .int .i64 prev, .int .i64 id, .int .i64 page, .int .i64 frm, .slice pb nb cb, .slice pa na ca, .int .i64 next, .slice pr nr cr, .slice pd nd cd] := by rw [hw1]; exact Blk.new w _ _
    have c0 := bR.cell (j := 0) rfl
    have c1 := bR.cell (j := 1) rfl
    have c2 := bR.cell (j := 2) rfl
    have c3 := bR.cell (j := 3) rfl
    have c4 := bR.cell (j := 4) rfl
    have c5 := bR.cell (j := 5) rfl
    have c6 := bR.cell (j := 6) rfl
    have c7 := bR.cell (j := 7) rfl
    have c8 := bR.cell (j := 8) rfl
    have c9 := bR.cell (j := 9) rfl
    have c10 := bR.cell (j := 10) rfl
    clear bR
    go_enter Try.func39, Try.ntmps39
    go_upto_region 1 with fail
    rw [← hw1]
    clear hw1
    go_wp2_with fail
    refine (hb _).mono ?_
    rintro e wq ⟨rfl, rfl⟩
    have RK := @hideH _ K1
    go_wp2
    go_ret
    exact ⟨by rw [eQ.out]; rfl, RK.out⟩
end Go.Proofs.Ytebcmcmboomgfaa

/-
  OWN WORK (by mkrec4.py). The document's records (tidemarkref09): Right, of one kind.
-/
namespace Go.Proofs.Ytebcmcmboomgfaa
open Go.RowKit
set_option linter.unusedVariables false
set_option linter.unusedSimpArgs false

set_option maxRecDepth 20000 in
set_option maxHeartbeats 12800000 in
theorem rRight_3 (V : RV) (birth prev id page frm : Int) (before after : List UInt8) (next : Int) (rows : List RowR) (dirty : List RecR) (w : World) (h : SeeR w V (⟨3, birth, prev, id, page, frm, before, after, next, rows, dirty⟩ : Rcd)) : Calls Try.prog 39 #[(⟨3, birth, prev, id, page, frm, before, after, next, rows, dirty⟩ : Rcd).agg V] w fun e w' => e = .returned (.bool (bl (⟨3, birth, prev, id, page, frm, before, after, next, rows, dirty⟩ : Rcd).Right)) ∧ Kept [] w w' := by
  haveI HNE : ∀ w2, Nonempty (Calm w2) := calmNe
  obtain ⟨pb, cb, pa, ca, pr, cr, pd, cd, rfl⟩ := h.shapes
  have RI : (⟨3, birth, prev, id, page, frm, before, after, next, rows, dirty⟩ : Rcd).Right ↔ (lsnOk birth ∧ lsnOk prev) ∧ id = 0 ∧ (rows = [] ∧ dirty = []) ∧ nextOk next ∧ rangedOk (⟨3, birth, prev, id, page, frm, before, after, next, rows, dirty⟩ : Rcd) ∧ before = [] := by unfold Rcd.Right; simp
  obtain ⟨PL, hPL⟩ : ∃ PL : Prop, PL = listsOk (⟨3, birth, prev, id, page, frm, before, after, next, rows, dirty⟩ : Rcd) := ⟨_, rfl⟩
  obtain ⟨PR, hPR⟩ : ∃ PR : Prop, PR = rangedOk (⟨3, birth, prev, id, page, frm, before, after, next, rows, dirty⟩ : Rcd) := ⟨_, rfl⟩
  obtain ⟨PP, hPP⟩ : ∃ PP : Prop, PP = partsOk (⟨3, birth, prev, id, page, frm, before, after, next, rows, dirty⟩ : Rcd) := ⟨_, rfl⟩
  have hb := fun w => rIsLsn birth w
  have hp := fun w => rIsLsn prev w
  have hn := fun w => rIsNext next w
  have hu := fun (wz : World) (kz : Kept [] w wz) => rUnranged _ (⟨3, birth, prev, id, page, frm, before, after, next, rows, dirty⟩ : Rcd) wz (h.kept kz)
  have hr := fun (wz : World) (kz : Kept [] w wz) => rRanged _ (⟨3, birth, prev, id, page, frm, before, after, next, rows, dirty⟩ : Rcd) wz (h.kept kz)
  have hl := fun (wz : World) (kz : Kept [] w wz) => rLists _ (⟨3, birth, prev, id, page, frm, before, after, next, rows, dirty⟩ : Rcd) wz (h.kept kz)
  rw [← hPR] at RI
  simp only [← hPR] at hr
  have HPL := @hideH _ hPL
  have HPR := @hideH _ hPR
  have HPP := @hideH _ hPP
  have HRI := @hideH _ RI
  clear hPL hPR hPP RI
  have hBS := @hideH _ h.before
  have hAS := @hideH _ h.after
  have hmx := @hideH _ (show after.length ≤ maxLen from (by obtain ⟨_, _, e, h1, h2, _⟩ := h.after; cases e; exact Nat.le_trans h1 h2))
  clear h
  unfold Rcd.agg at hu hr hl ⊢
  dsimp only at hu hr hl hBS hAS ⊢
  obtain ⟨Q, hQ⟩ : ∃ Q, Q = bl (⟨3, birth, prev, id, page, frm, before, after, next, rows, dirty⟩ : Rcd).Right := ⟨_, rfl⟩
  rw [← hQ]
  have HQ := @hideH _ hQ
  clear hQ
  obtain ⟨nb, hnb⟩ : ∃ nb, nb = before.length := ⟨_, rfl⟩
  obtain ⟨na, hna⟩ : ∃ na, na = after.length := ⟨_, rfl⟩
  obtain ⟨nr, hnr⟩ : ∃ nr, nr = rows.length := ⟨_, rfl⟩
  obtain ⟨nd, hnd⟩ : ∃ nd, nd = dirty.length := ⟨_, rfl⟩
  simp only [← hnb, ← hna, ← hnr, ← hnd] at hu hr hl ⊢
  have HNB := @hideH _ hnb
  have HNA := @hideH _ hna
  have HNR := @hideH _ hnr
  have HND := @hideH _ hnd
  clear hnb hna hnr hnd
  clear hu
  clear hl
  by_cases h0 : lsnOk birth
  · simp only [bl_t h0] at hb
    have k0 := @hideH _ h0
    clear h0
    by_cases h1 : lsnOk prev
    · simp only [bl_t h1] at hp
      have k1 := @hideH _ h1
      clear h1
      by_cases h2 : id = 0
      · subst h2
        by_cases h3 : nr = 0
        · subst h3
          by_cases h4 : nd = 0
          · subst h4
            by_cases h5 : nextOk next
            · simp only [bl_t h5] at hn
              have k5 := @hideH _ h5
              clear h5
              by_cases h6 : PR
              · simp only [bl_t h6] at hr
                have k6 := @hideH _ h6
                clear h6
                by_cases h7 : nb = 0
                · subst h7
                  have eQ := @hideH _ (show Q = true by rw [HQ.out]; exact bl_t (HRI.out.2 ⟨⟨k0.out, k1.out⟩, rfl, ⟨(List.eq_nil_of_length_eq_zero HNR.out.symm), (List.eq_nil_of_length_eq_zero HND.out.symm)⟩, k5.out, k6.out, (List.eq_nil_of_length_eq_zero HNB.out.symm)⟩))
                  obtain ⟨w1, hw1⟩ : ∃ w1, w1 = w.alloc (.cells #[.int .i64 3, .int .i64 birth, .int .i64 prev, .int .i64 0, .int .i64 page, .int .i64 frm, .slice pb 0 cb, .slice pa na ca, .int .i64 next, .slice pr 0 cr, .slice pd 0 cd] 26) := ⟨_, rfl⟩
                  have K1 : Kept [] w w1 := by rw [hw1]; exact (Kept.refl [] w).alloc _
                  have bR : Blk w1 w.heap.size 26 [.int .i64 3, .int .i64 birth, .int .i64 prev, .int .i64 0, .int .i64 page, .int .i64 frm, .slice pb 0 cb, .slice pa na ca, .int .i64 next, .slice pr 0 cr, .slice pd 0 cd] := by rw [hw1]; exact Blk.new w _ _
                  have c0 := bR.cell (j := 0) rfl
                  have c1 := bR.cell (j := 1) rfl
                  have c2 := bR.cell (j := 2) rfl
                  have c3 := bR.cell (j := 3) rfl
                  have c4 := bR.cell (j := 4) rfl
                  have c5 := bR.cell (j := 5) rfl
                  have c6 := bR.cell (j := 6) rfl
                  have c7 := bR.cell (j := 7) rfl
                  have c8 := bR.cell (j := 8) rfl
                  have c9 := bR.cell (j := 9) rfl
                  have c10 := bR.cell (j := 10) rfl
                  clear bR
                  go_enter Try.func39, Try.ntmps39
                  go_upto_region 1 with fail
                  rw [← hw1]
                  clear hw1
                  go_wp2_with fail
                  refine (hb _).mono ?_
                  rintro e wq ⟨rfl, rfl⟩
                  go_wp2_with fail
                  refine (hp _).mono ?_
                  rintro e wq ⟨rfl, rfl⟩
                  go_wp2_with fail
                  refine (hn _).mono ?_
                  rintro e wq ⟨rfl, rfl⟩
                  go_wp2_with fail
                  refine (hr _ K1).mono ?_
                  rintro e w2 ⟨rfl, kn⟩
                  have K2 := K1.then kn
                  replace c0 := kn.cell c0 (by simp)
                  replace c1 := kn.cell c1 (by simp)
                  replace c2 := kn.cell c2 (by simp)
                  replace c3 := kn.cell c3 (by simp)
                  replace c4 := kn.cell c4 (by simp)
                  replace c5 := kn.cell c5 (by simp)
                  replace c6 := kn.cell c6 (by simp)
                  replace c7 := kn.cell c7 (by simp)
                  replace c8 := kn.cell c8 (by simp)
                  replace c9 := kn.cell c9 (by simp)
                  replace c10 := kn.cell c10 (by simp)
                  clear kn
                  have RK := @hideH _ K2
                  go_wp2
                  go_ret
                  exact ⟨by rw [eQ.out]; rfl, RK.out⟩
                · have eQ := @hideH _ (show Q = false by rw [HQ.out]; exact bl_f (fun hR => by have q := HRI.out.1 hR; exact h7 (by rw [HNB.out, q.2.2.2.2.2]; rfl)))
                  have g_nb : 0 < nb := by omega
                  have e_nb : ((nb : Int) == 0) = false := by simp [h7]
                  obtain ⟨w1, hw1⟩ : ∃ w1, w1 = w.alloc (.cells #[.int .i64 3, .int .i64 birth, .int .i64 prev, .int .i64 0, .int .i64 page, .int .i64 frm, .slice pb nb cb, .slice pa na ca, .int .i64 next, .slice pr 0 cr, .slice pd 0 cd] 26) := ⟨_, rfl⟩
                  have K1 : Kept [] w w1 := by rw [hw1]; exact (Kept.refl [] w).alloc _
                  have bR : Blk w1 w.heap.size 26 [.int .i64 3, .int .i64 birth, .int .i64 prev, .int .i64 0, .int .i64 page, .int .i64 frm, .slice pb nb cb, .slice pa na ca, .int .i64 next, .slice pr 0 cr, .slice pd 0 cd] := by rw [hw1]; exact Blk.new w _ _
                  have c0 := bR.cell (j := 0) rfl
                  have c1 := bR.cell (j := 1) rfl
                  have c2 := bR.cell (j := 2) rfl
                  have c3 := bR.cell (j := 3) rfl
                  have c4 := bR.cell (j := 4) rfl
                  have c5 := bR.cell (j := 5) rfl
                  have c6 := bR.cell (j := 6) rfl
                  have c7 := bR.cell (j := 7) rfl
                  have c8 := bR.cell (j := 8) rfl
                  have c9 := bR.cell (j := 9) rfl
                  have c10 := bR.cell (j := 10) rfl
                  clear bR
                  go_enter Try.func39, Try.ntmps39
                  go_upto_region 1 with fail
                  rw [← hw1]
                  clear hw1
                  go_wp2_with fail
                  refine (hb _).mono ?_
                  rintro e wq ⟨rfl, rfl⟩
                  go_wp2_with fail
                  refine (hp _).mono ?_
                  rintro e wq ⟨rfl, rfl⟩
                  go_wp2_with fail
                  refine (hn _).mono ?_
                  rintro e wq ⟨rfl, rfl⟩
                  go_wp2_with fail
                  refine (hr _ K1).mono ?_
                  rintro e w2 ⟨rfl, kn⟩
                  have K2 := K1.then kn
                  replace c0 := kn.cell c0 (by simp)
                  replace c1 := kn.cell c1 (by simp)
                  replace c2 := kn.cell c2 (by simp)
                  replace c3 := kn.cell c3 (by simp)
                  replace c4 := kn.cell c4 (by simp)
                  replace c5 := kn.cell c5 (by simp)
                  replace c6 := kn.cell c6 (by simp)
                  replace c7 := kn.cell c7 (by simp)
                  replace c8 := kn.cell c8 (by simp)
                  replace c9 := kn.cell c9 (by simp)
                  replace c10 := kn.cell c10 (by simp)
                  clear kn
                  have RK := @hideH _ K2
                  go_wp2
                  go_ret
                  exact ⟨by rw [eQ.out]; rfl, RK.out⟩
              · have eQ := @hideH _ (show Q = false by rw [HQ.out]; exact bl_f (fun hR => by have q := HRI.out.1 hR; exact h6 (q.2.2.2.2.1)))
                simp only [bl_f h6] at hr
                clear h6
                obtain ⟨w1, hw1⟩ : ∃ w1, w1 = w.alloc (.cells #[.int .i64 3, .int .i64 birth, .int .i64 prev, .int .i64 0, .int .i64 page, .int .i64 frm, .slice pb nb cb, .slice pa na ca, .int .i64 next, .slice pr 0 cr, .slice pd 0 cd] 26) := ⟨_, rfl⟩
                have K1 : Kept [] w w1 := by rw [hw1]; exact (Kept.refl [] w).alloc _
                have bR : Blk w1 w.heap.size 26 [.int .i64 3, .int .i64 birth, .int .i64 prev, .int .i64 0, .int .i64 page, .int .i64 frm, .slice pb nb cb, .slice pa na ca, .int .i64 next, .slice pr 0 cr, .slice pd 0 cd] := by rw [hw1]; exact Blk.new w _ _
                have c0 := bR.cell (j := 0) rfl
                have c1 := bR.cell (j := 1) rfl
                have c2 := bR.cell (j := 2) rfl
                have c3 := bR.cell (j := 3) rfl
                have c4 := bR.cell (j := 4) rfl
                have c5 := bR.cell (j := 5) rfl
                have c6 := bR.cell (j := 6) rfl
                have c7 := bR.cell (j := 7) rfl
                have c8 := bR.cell (j := 8) rfl
                have c9 := bR.cell (j := 9) rfl
                have c10 := bR.cell (j := 10) rfl
                clear bR
                go_enter Try.func39, Try.ntmps39
                go_upto_region 1 with fail
                rw [← hw1]
                clear hw1
                go_wp2_with fail
                refine (hb _).mono ?_
                rintro e wq ⟨rfl, rfl⟩
                go_wp2_with fail
                refine (hp _).mono ?_
                rintro e wq ⟨rfl, rfl⟩
                go_wp2_with fail
                refine (hn _).mono ?_
                rintro e wq ⟨rfl, rfl⟩
                go_wp2_with fail
                refine (hr _ K1).mono ?_
                rintro e w2 ⟨rfl, kn⟩
                have K2 := K1.then kn
                replace c0 := kn.cell c0 (by simp)
                replace c1 := kn.cell c1 (by simp)
                replace c2 := kn.cell c2 (by simp)
                replace c3 := kn.cell c3 (by simp)
                replace c4 := kn.cell c4 (by simp)
                replace c5 := kn.cell c5 (by simp)
                replace c6 := kn.cell c6 (by simp)
                replace c7 := kn.cell c7 (by simp)
                replace c8 := kn.cell c8 (by simp)
                replace c9 := kn.cell c9 (by simp)
                replace c10 := kn.cell c10 (by simp)
                clear kn
                have RK := @hideH _ K2
                go_wp2
                go_ret
                exact ⟨by rw [eQ.out]; rfl, RK.out⟩
            · have eQ := @hideH _ (show Q = false by rw [HQ.out]; exact bl_f (fun hR => by have q := HRI.out.1 hR; exact h5 (q.2.2.2.1)))
              simp only [bl_f h5] at hn
              clear h5
              obtain ⟨w1, hw1⟩ : ∃ w1, w1 = w.alloc (.cells #[.int .i64 3, .int .i64 birth, .int .i64 prev, .int .i64 0, .int .i64 page, .int .i64 frm, .slice pb nb cb, .slice pa na ca, .int .i64 next, .slice pr 0 cr, .slice pd 0 cd] 26) := ⟨_, rfl⟩
              have K1 : Kept [] w w1 := by rw [hw1]; exact (Kept.refl [] w).alloc _
              have bR : Blk w1 w.heap.size 26 [.int .i64 3, .int .i64 birth, .int .i64 prev, .int .i64 0, .int .i64 page, .int .i64 frm, .slice pb nb cb, .slice pa na ca, .int .i64 next, .slice pr 0 cr, .slice pd 0 cd] := by rw [hw1]; exact Blk.new w _ _
              have c0 := bR.cell (j := 0) rfl
              have c1 := bR.cell (j := 1) rfl
              have c2 := bR.cell (j := 2) rfl
              have c3 := bR.cell (j := 3) rfl
              have c4 := bR.cell (j := 4) rfl
              have c5 := bR.cell (j := 5) rfl
              have c6 := bR.cell (j := 6) rfl
              have c7 := bR.cell (j := 7) rfl
              have c8 := bR.cell (j := 8) rfl
              have c9 := bR.cell (j := 9) rfl
              have c10 := bR.cell (j := 10) rfl
              clear bR
              go_enter Try.func39, Try.ntmps39
              go_upto_region 1 with fail
              rw [← hw1]
              clear hw1
              go_wp2_with fail
              refine (hb _).mono ?_
              rintro e wq ⟨rfl, rfl⟩
              go_wp2_with fail
              refine (hp _).mono ?_
              rintro e wq ⟨rfl, rfl⟩
              go_wp2_with fail
              refine (hn _).mono ?_
              rintro e wq ⟨rfl, rfl⟩
              have RK := @hideH _ K1
              go_wp2
              go_ret
              exact ⟨by rw [eQ.out]; rfl, RK.out⟩
          · have eQ := @hideH _ (show Q = false by rw [HQ.out]; exact bl_f (fun hR => by have q := HRI.out.1 hR; exact h4 (by rw [HND.out, q.2.2.1.2]; rfl)))
            have g_nd : 0 < nd := by omega
            have e_nd : ((nd : Int) == 0) = false := by simp [h4]
            obtain ⟨w1, hw1⟩ : ∃ w1, w1 = w.alloc (.cells #[.int .i64 3, .int .i64 birth, .int .i64 prev, .int .i64 0, .int .i64 page, .int .i64 frm, .slice pb nb cb, .slice pa na ca, .int .i64 next, .slice pr 0 cr, .slice pd nd cd] 26) := ⟨_, rfl⟩
            have K1 : Kept [] w w1 := by rw [hw1]; exact (Kept.refl [] w).alloc _
            have bR : Blk w1 w.heap.size 26 [.int .i64 3, .int .i64 birth, .int .i64 prev, .int .i64 0, .int .i64 page, .int .i64 frm, .slice pb nb cb, .slice pa na ca, .int .i64 next, .slice pr 0 cr, .slice pd nd cd] := by rw [hw1]; exact Blk.new w _ _
            have c0 := bR.cell (j := 0) rfl
            have c1 := bR.cell (j := 1) rfl
            have c2 := bR.cell (j := 2) rfl
            have c3 := bR.cell (j := 3) rfl
            have c4 := bR.cell (j := 4) rfl
            have c5 := bR.cell (j := 5) rfl
            have c6 := bR.cell (j := 6) rfl
            have c7 := bR.cell (j := 7) rfl
            have c8 := bR.cell (j := 8) rfl
            have c9 := bR.cell (j := 9) rfl
            have c10 := bR.cell (j := 10) rfl
            clear bR
            go_enter Try.func39, Try.ntmps39
            go_upto_region 1 with fail
            rw [← hw1]
            clear hw1
            go_wp2_with fail
            refine (hb _).mono ?_
            rintro e wq ⟨rfl, rfl⟩
            go_wp2_with fail
            refine (hp _).mono ?_
            rintro e wq ⟨rfl, rfl⟩
            have RK := @hideH _ K1
            go_wp2
            go_ret
            exact ⟨by rw [eQ.out]; rfl, RK.out⟩
        · have eQ := @hideH _ (show Q = false by rw [HQ.out]; exact bl_f (fun hR => by have q := HRI.out.1 hR; exact h3 (by rw [HNR.out, q.2.2.1.1]; rfl)))
          have g_nr : 0 < nr := by omega
          have e_nr : ((nr : Int) == 0) = false := by simp [h3]
          obtain ⟨w1, hw1⟩ : ∃ w1, w1 = w.alloc (.cells #[.int .i64 3, .int .i64 birth, .int .i64 prev, .int .i64 0, .int .i64 page, .int .i64 frm, .slice pb nb cb, .slice pa na ca, .int .i64 next, .slice pr nr cr, .slice pd nd cd] 26) := ⟨_, rfl⟩
          have K1 : Kept [] w w1 := by rw [hw1]; exact (Kept.refl [] w).alloc _
          have bR : Blk w1 w.heap.size 26 [.int .i64 3, .int .i64 birth, .int .i64 prev, .int .i64 0, .int .i64 page, .int .i64 frm, .slice pb nb cb, .slice pa na ca, .int .i64 next, .slice pr nr cr, .slice pd nd cd] := by rw [hw1]; exact Blk.new w _ _
          have c0 := bR.cell (j := 0) rfl
          have c1 := bR.cell (j := 1) rfl
          have c2 := bR.cell (j := 2) rfl
          have c3 := bR.cell (j := 3) rfl
          have c4 := bR.cell (j := 4) rfl
          have c5 := bR.cell (j := 5) rfl
          have c6 := bR.cell (j := 6) rfl
          have c7 := bR.cell (j := 7) rfl
          have c8 := bR.cell (j := 8) rfl
          have c9 := bR.cell (j := 9) rfl
          have c10 := bR.cell (j := 10) rfl
          clear bR
          go_enter Try.func39, Try.ntmps39
          go_upto_region 1 with fail
          rw [← hw1]
          clear hw1
          go_wp2_with fail
          refine (hb _).mono ?_
          rintro e wq ⟨rfl, rfl⟩
          go_wp2_with fail
          refine (hp _).mono ?_
          rintro e wq ⟨rfl, rfl⟩
          have RK := @hideH _ K1
          go_wp2
          go_ret
          exact ⟨by rw [eQ.out]; rfl, RK.out⟩
      · have eQ := @hideH _ (show Q = false by rw [HQ.out]; exact bl_f (fun hR => by have q := HRI.out.1 hR; exact h2 (q.2.1)))
        have e_id : (id != 0) = true := by simp [h2]
        have g_id : (id == 0) = false := by simp [h2]
        obtain ⟨w1, hw1⟩ : ∃ w1, w1 = w.alloc (.cells #[.int .i64 3, .int .i64 birth, .int .i64 prev, .int .i64 id, .int .i64 page, .int .i64 frm, .slice pb nb cb, .slice pa na ca, .int .i64 next, .slice pr nr cr, .slice pd nd cd] 26) := ⟨_, rfl⟩
        have K1 : Kept [] w w1 := by rw [hw1]; exact (Kept.refl [] w).alloc _
        have bR : Blk w1 w.heap.size 26 [.int .i64 3, .int .i64 birth, .int .i64 prev, .int .i64 id, .int .i64 page, .int .i64 frm, .slice pb nb cb, .slice pa na ca, .int .i64 next, .slice pr nr cr, .slice pd nd cd] := by rw [hw1]; exact Blk.new w _ _
        have c0 := bR.cell (j := 0) rfl
        have c1 := bR.cell (j := 1) rfl
        have c2 := bR.cell (j := 2) rfl
        have c3 := bR.cell (j := 3) rfl
        have c4 := bR.cell (j := 4) rfl
        have c5 := bR.cell (j := 5) rfl
        have c6 := bR.cell (j := 6) rfl
        have c7 := bR.cell (j := 7) rfl
        have c8 := bR.cell (j := 8) rfl
        have c9 := bR.cell (j := 9) rfl
        have c10 := bR.cell (j := 10) rfl
        clear bR
        go_enter Try.func39, Try.ntmps39
        go_upto_region 1 with fail
        rw [← hw1]
        clear hw1
        go_wp2_with fail
        refine (hb _).mono ?_
        rintro e wq ⟨rfl, rfl⟩
        go_wp2_with fail
        refine (hp _).mono ?_
        rintro e wq ⟨rfl, rfl⟩
        have RK := @hideH _ K1
        go_wp2
        go_ret
        exact ⟨by rw [eQ.out]; rfl, RK.out⟩
    · have eQ := @hideH _ (show Q = false by rw [HQ.out]; exact bl_f (fun hR => by have q := HRI.out.1 hR; exact h1 (q.1.2)))
      simp only [bl_f h1] at hp
      clear h1
      obtain ⟨w1, hw1⟩ : ∃ w1, w1 = w.alloc (.cells #[.int .i64 3, .int .i64 birth, .int .i64 prev, .int .i64 id, .int .i64 page, .int .i64 frm, .slice pb nb cb, .slice pa na ca, .int .i64 next, .slice pr nr cr, .slice pd nd cd] 26) := ⟨_, rfl⟩
      have K1 : Kept [] w w1 := by rw [hw1]; exact (Kept.refl [] w).alloc _
      have bR : Blk w1 w.heap.size 26 [.int .i64 3, .int .i64 birth, .int .i64 prev, .int .i64 id, .int .i64 page, .int .i64 frm, .slice pb nb cb, .slice pa na ca, .int .i64 next, .slice pr nr cr, .slice pd nd cd] := by rw [hw1]; exact Blk.new w _ _
      have c0 := bR.cell (j := 0) rfl
      have c1 := bR.cell (j := 1) rfl
      have c2 := bR.cell (j := 2) rfl
      have c3 := bR.cell (j := 3) rfl
      have c4 := bR.cell (j := 4) rfl
      have c5 := bR.cell (j := 5) rfl
      have c6 := bR.cell (j := 6) rfl
      have c7 := bR.cell (j := 7) rfl
      have c8 := bR.cell (j := 8) rfl
      have c9 := bR.cell (j := 9) rfl
      have c10 := bR.cell (j := 10) rfl
      clear bR
      go_enter Try.func39, Try.ntmps39
      go_upto_region 1 with fail
      rw [← hw1]
      clear hw1
      go_wp2_with fail
      refine (hb _).mono ?_
      rintro e wq ⟨rfl, rfl⟩
      go_wp2_with fail
      refine (hp _).mono ?_
      rintro e wq ⟨rfl, rfl⟩
      have RK := @hideH _ K1
      go_wp2
      go_ret
      exact ⟨by rw [eQ.out]; rfl, RK.out⟩
  · have eQ := @hideH _ (show Q = false by rw [HQ.out]; exact bl_f (fun hR => by have q := HRI.out.1 hR; exact h0 (q.1.1)))
    simp only [bl_f h0] at hb
    clear h0
    obtain ⟨w1, hw1⟩ : ∃ w1, w1 = w.alloc (.cells #[.int .i64 3, .int .i64 birth, .int .i64 prev, .int .i64 id, .int .i64 page, .int .i64 frm, .slice pb nb cb, .slice pa na ca, .int .i64 next, .slice pr nr cr, .slice pd nd cd] 26) := ⟨_, rfl⟩
    have K1 : Kept [] w w1 := by rw [hw1]; exact (Kept.refl [] w).alloc _
    have bR : Blk w1 w.heap.size 26 [.int .i64 3, .int .i64 birth, .int .i64 prev, .int .i64 id, .int .i64 page, .int .i64 frm, .slice pb nb cb, .slice pa na ca, .int .i64 next, .slice pr nr cr, .slice pd nd cd] := by rw [hw1]; exact Blk.new w _ _
    have c0 := bR.cell (j := 0) rfl
    have c1 := bR.cell (j := 1) rfl
    have c2 := bR.cell (j := 2) rfl
    have c3 := bR.cell (j := 3) rfl
    have c4 := bR.cell (j := 4) rfl
    have c5 := bR.cell (j := 5) rfl
    have c6 := bR.cell (j := 6) rfl
    have c7 := bR.cell (j := 7) rfl
    have c8 := bR.cell (j := 8) rfl
    have c9 := bR.cell (j := 9) rfl
    have c10 := bR.cell (j := 10) rfl
    clear bR
    go_enter Try.func39, Try.ntmps39
    go_upto_region 1 with fail
    rw [← hw1]
    clear hw1
    go_wp2_with fail
    refine (hb _).mono ?_
    rintro e wq ⟨rfl, rfl⟩
    have RK := @hideH _ K1
    go_wp2
    go_ret
    exact ⟨by rw [eQ.out]; rfl, RK.out⟩
end Go.Proofs.Ytebcmcmboomgfaa

/-
  OWN WORK (by mkrec4.py). The document's records (tidemarkref09): Right, of one kind.
-/
namespace Go.Proofs.Ytebcmcmboomgfaa
open Go.RowKit
set_option linter.unusedVariables false
set_option linter.unusedSimpArgs false

set_option maxRecDepth 20000 in
set_option maxHeartbeats 12800000 in
theorem rRight_4 (V : RV) (birth prev id page frm : Int) (before after : List UInt8) (next : Int) (rows : List RowR) (dirty : List RecR) (w : World) (h : SeeR w V (⟨4, birth, prev, id, page, frm, before, after, next, rows, dirty⟩ : Rcd)) : Calls Try.prog 39 #[(⟨4, birth, prev, id, page, frm, before, after, next, rows, dirty⟩ : Rcd).agg V] w fun e w' => e = .returned (.bool (bl (⟨4, birth, prev, id, page, frm, before, after, next, rows, dirty⟩ : Rcd).Right)) ∧ Kept [] w w' := by
  haveI HNE : ∀ w2, Nonempty (Calm w2) := calmNe
  obtain ⟨pb, cb, pa, ca, pr, cr, pd, cd, rfl⟩ := h.shapes
  have HRI := @hideH _ (show (⟨4, birth, prev, id, page, frm, before, after, next, rows, dirty⟩ : Rcd).Right ↔ (lsnOk birth ∧ lsnOk prev) ∧ id = 0 ∧ (rows = [] ∧ dirty = []) ∧ next = 0 ∧ (page = 0 ∧ frm = 0 ∧ after = []) ∧ before = [] by unfold Rcd.Right; simp)
  have hb := fun w => rIsLsn birth w
  have hp := fun w => rIsLsn prev w
  have hn := fun w => rIsNext next w
  have hu := fun (wz : World) (kz : Kept [] w wz) => rUnranged _ (⟨4, birth, prev, id, page, frm, before, after, next, rows, dirty⟩ : Rcd) wz (h.kept kz)
  have hr := fun (wz : World) (kz : Kept [] w wz) => rRanged _ (⟨4, birth, prev, id, page, frm, before, after, next, rows, dirty⟩ : Rcd) wz (h.kept kz)
  have hl := fun (wz : World) (kz : Kept [] w wz) => rLists _ (⟨4, birth, prev, id, page, frm, before, after, next, rows, dirty⟩ : Rcd) wz (h.kept kz)
  have hBS := @hideH _ h.before
  have hAS := @hideH _ h.after
  have hmx := @hideH _ (show after.length ≤ maxLen from (by obtain ⟨_, _, e, h1, h2, _⟩ := h.after; cases e; exact Nat.le_trans h1 h2))
  clear h
  unfold Rcd.agg at hu hr hl ⊢
  dsimp only at hu hr hl hBS hAS ⊢
  obtain ⟨Q, hQ⟩ : ∃ Q, Q = bl (⟨4, birth, prev, id, page, frm, before, after, next, rows, dirty⟩ : Rcd).Right := ⟨_, rfl⟩
  rw [← hQ]
  have HQ := @hideH _ hQ
  clear hQ
  obtain ⟨nb, hnb⟩ : ∃ nb, nb = before.length := ⟨_, rfl⟩
  obtain ⟨na, hna⟩ : ∃ na, na = after.length := ⟨_, rfl⟩
  obtain ⟨nr, hnr⟩ : ∃ nr, nr = rows.length := ⟨_, rfl⟩
  obtain ⟨nd, hnd⟩ : ∃ nd, nd = dirty.length := ⟨_, rfl⟩
  simp only [← hnb, ← hna, ← hnr, ← hnd] at hu hr hl ⊢
  have HNB := @hideH _ hnb
  have HNA := @hideH _ hna
  have HNR := @hideH _ hnr
  have HND := @hideH _ hnd
  clear hnb hna hnr hnd
  clear hn
  clear hr
  clear hl
  by_cases h0 : lsnOk birth
  · simp only [bl_t h0] at hb
    have k0 := @hideH _ h0
    clear h0
    by_cases h1 : lsnOk prev
    · simp only [bl_t h1] at hp
      have k1 := @hideH _ h1
      clear h1
      by_cases h2 : id = 0
      · subst h2
        by_cases h3 : nr = 0
        · subst h3
          by_cases h4 : nd = 0
          · subst h4
            by_cases h5 : next = 0
            · subst h5
              by_cases h6 : (page = 0 ∧ frm = 0 ∧ after = [])
              · simp only [bl_t h6] at hu
                have k6 := @hideH _ h6
                clear h6
                by_cases h7 : nb = 0
                · subst h7
                  have eQ := @hideH _ (show Q = true by rw [HQ.out]; exact bl_t (HRI.out.2 ⟨⟨k0.out, k1.out⟩, rfl, ⟨(List.eq_nil_of_length_eq_zero HNR.out.symm), (List.eq_nil_of_length_eq_zero HND.out.symm)⟩, rfl, k6.out, (List.eq_nil_of_length_eq_zero HNB.out.symm)⟩))
                  obtain ⟨w1, hw1⟩ : ∃ w1, w1 = w.alloc (.cells #[.int .i64 4, .int .i64 birth, .int .i64 prev, .int .i64 0, .int .i64 page, .int .i64 frm, .slice pb 0 cb, .slice pa na ca, .int .i64 0, .slice pr 0 cr, .slice pd 0 cd] 26) := ⟨_, rfl⟩
                  have K1 : Kept [] w w1 := by rw [hw1]; exact (Kept.refl [] w).alloc _
                  have bR : Blk w1 w.heap.size 26 [.int .i64 4, .int .i64 birth, .int .i64 prev, .int .i64 0, .int .i64 page, .int .i64 frm, .slice pb 0 cb, .slice pa na ca, .int .i64 0, .slice pr 0 cr, .slice pd 0 cd] := by rw [hw1]; exact Blk.new w _ _
                  have c0 := bR.cell (j := 0) rfl
                  have c1 := bR.cell (j := 1) rfl
                  have c2 := bR.cell (j := 2) rfl
                  have c3 := bR.cell (j := 3) rfl
                  have c4 := bR.cell (j := 4) rfl
                  have c5 := bR.cell (j := 5) rfl
                  have c6 := bR.cell (j := 6) rfl
                  have c7 := bR.cell (j := 7) rfl
                  have c8 := bR.cell (j := 8) rfl
                  have c9 := bR.cell (j := 9) rfl
                  have c10 := bR.cell (j := 10) rfl
                  clear bR
                  go_enter Try.func39, Try.ntmps39
                  go_upto_region 1 with fail
                  rw [← hw1]
                  clear hw1
                  go_wp2_with fail
                  refine (hb _).mono ?_
                  rintro e wq ⟨rfl, rfl⟩
                  go_wp2_with fail
                  refine (hp _).mono ?_
                  rintro e wq ⟨rfl, rfl⟩
                  go_wp2_with fail
                  refine (hu _ K1).mono ?_
                  rintro e w2 ⟨rfl, kn⟩
                  have K2 := K1.then kn
                  replace c0 := kn.cell c0 (by simp)
                  replace c1 := kn.cell c1 (by simp)
                  replace c2 := kn.cell c2 (by simp)
                  replace c3 := kn.cell c3 (by simp)
                  replace c4 := kn.cell c4 (by simp)
                  replace c5 := kn.cell c5 (by simp)
                  replace c6 := kn.cell c6 (by simp)
                  replace c7 := kn.cell c7 (by simp)
                  replace c8 := kn.cell c8 (by simp)
                  replace c9 := kn.cell c9 (by simp)
                  replace c10 := kn.cell c10 (by simp)
                  clear kn
                  have RK := @hideH _ K2
                  go_wp2
                  go_ret
                  exact ⟨by rw [eQ.out]; rfl, RK.out⟩
                · have eQ := @hideH _ (show Q = false by rw [HQ.out]; exact bl_f (fun hR => by have q := HRI.out.1 hR; exact h7 (by rw [HNB.out, q.2.2.2.2.2]; rfl)))
                  have g_nb : 0 < nb := by omega
                  have e_nb : ((nb : Int) == 0) = false := by simp [h7]
                  obtain ⟨w1, hw1⟩ : ∃ w1, w1 = w.alloc (.cells #[.int .i64 4, .int .i64 birth, .int .i64 prev, .int .i64 0, .int .i64 page, .int .i64 frm, .slice pb nb cb, .slice pa na ca, .int .i64 0, .slice pr 0 cr, .slice pd 0 cd] 26) := ⟨_, rfl⟩
                  have K1 : Kept [] w w1 := by rw [hw1]; exact (Kept.refl [] w).alloc _
                  have bR : Blk w1 w.heap.size 26 [.int .i64 4, .int .i64 birth, .int .i64 prev, .int .i64 0, .int .i64 page, .int .i64 frm, .slice pb nb cb, .slice pa na ca, .int .i64 0, .slice pr 0 cr, .slice pd 0 cd] := by rw [hw1]; exact Blk.new w _ _
                  have c0 := bR.cell (j := 0) rfl
                  have c1 := bR.cell (j := 1) rfl
                  have c2 := bR.cell (j := 2) rfl
                  have c3 := bR.cell (j := 3) rfl
                  have c4 := bR.cell (j := 4) rfl
                  have c5 := bR.cell (j := 5) rfl
                  have c6 := bR.cell (j := 6) rfl
                  have c7 := bR.cell (j := 7) rfl
                  have c8 := bR.cell (j := 8) rfl
                  have c9 := bR.cell (j := 9) rfl
                  have c10 := bR.cell (j := 10) rfl
                  clear bR
                  go_enter Try.func39, Try.ntmps39
                  go_upto_region 1 with fail
                  rw [← hw1]
                  clear hw1
                  go_wp2_with fail
                  refine (hb _).mono ?_
                  rintro e wq ⟨rfl, rfl⟩
                  go_wp2_with fail
                  refine (hp _).mono ?_
                  rintro e wq ⟨rfl, rfl⟩
                  go_wp2_with fail
                  refine (hu _ K1).mono ?_
                  rintro e w2 ⟨rfl, kn⟩
                  have K2 := K1.then kn
                  replace c0 := kn.cell c0 (by simp)
                  replace c1 := kn.cell c1 (by simp)
                  replace c2 := kn.cell c2 (by simp)
                  replace c3 := kn.cell c3 (by simp)
                  replace c4 := kn.cell c4 (by simp)
                  replace c5 := kn.cell c5 (by simp)
                  replace c6 := kn.cell c6 (by simp)
                  replace c7 := kn.cell c7 (by simp)
                  replace c8 := kn.cell c8 (by simp)
                  replace c9 := kn.cell c9 (by simp)
                  replace c10 := kn.cell c10 (by simp)
                  clear kn
                  have RK := @hideH _ K2
                  go_wp2
                  go_ret
                  exact ⟨by rw [eQ.out]; rfl, RK.out⟩
              · have eQ := @hideH _ (show Q = false by rw [HQ.out]; exact bl_f (fun hR => by have q := HRI.out.1 hR; exact h6 (q.2.2.2.2.1)))
                simp only [bl_f h6] at hu
                clear h6
                obtain ⟨w1, hw1⟩ : ∃ w1, w1 = w.alloc (.cells #[.int .i64 4, .int .i64 birth, .int .i64 prev, .int .i64 0, .int .i64 page, .int .i64 frm, .slice pb nb cb, .slice pa na ca, .int .i64 0, .slice pr 0 cr, .slice pd 0 cd] 26) := ⟨_, rfl⟩
                have K1 : Kept [] w w1 := by rw [hw1]; exact (Kept.refl [] w).alloc _
                have bR : Blk w1 w.heap.size 26 [.int .i64 4, .int .i64 birth, .int .i64 prev, .int .i64 0, .int .i64 page, .int .i64 frm, .slice pb nb cb, .slice pa na ca, .int .i64 0, .slice pr 0 cr, .slice pd 0 cd] := by rw [hw1]; exact Blk.new w _ _
                have c0 := bR.cell (j := 0) rfl
                have c1 := bR.cell (j := 1) rfl
                have c2 := bR.cell (j := 2) rfl
                have c3 := bR.cell (j := 3) rfl
                have c4 := bR.cell (j := 4) rfl
                have c5 := bR.cell (j := 5) rfl
                have c6 := bR.cell (j := 6) rfl
                have c7 := bR.cell (j := 7) rfl
                have c8 := bR.cell (j := 8) rfl
                have c9 := bR.cell (j := 9) rfl
                have c10 := bR.cell (j := 10) rfl
                clear bR
                go_enter Try.func39, Try.ntmps39
                go_upto_region 1 with fail
                rw [← hw1]
                clear hw1
                go_wp2_with fail
                refine (hb _).mono ?_
                rintro e wq ⟨rfl, rfl⟩
                go_wp2_with fail
                refine (hp _).mono ?_
                rintro e wq ⟨rfl, rfl⟩
                go_wp2_with fail
                refine (hu _ K1).mono ?_
                rintro e w2 ⟨rfl, kn⟩
                have K2 := K1.then kn
                replace c0 := kn.cell c0 (by simp)
                replace c1 := kn.cell c1 (by simp)
                replace c2 := kn.cell c2 (by simp)
                replace c3 := kn.cell c3 (by simp)
                replace c4 := kn.cell c4 (by simp)
                replace c5 := kn.cell c5 (by simp)
                replace c6 := kn.cell c6 (by simp)
                replace c7 := kn.cell c7 (by simp)
                replace c8 := kn.cell c8 (by simp)
                replace c9 := kn.cell c9 (by simp)
                replace c10 := kn.cell c10 (by simp)
                clear kn
                have RK := @hideH _ K2
                go_wp2
                go_ret
                exact ⟨by rw [eQ.out]; rfl, RK.out⟩
            · have eQ := @hideH _ (show Q = false by rw [HQ.out]; exact bl_f (fun hR => by have q := HRI.out.1 hR; exact h5 (q.2.2.2.1)))
              have e_next : (next != 0) = true := by simp [h5]
              have g_next : (next == 0) = false := by simp [h5]
              obtain ⟨w1, hw1⟩ : ∃ w1, w1 = w.alloc (.cells #[.int .i64 4, .int .i64 birth, .int .i64 prev, .int .i64 0, .int .i64 page, .int .i64 frm, .slice pb nb cb, .slice pa na ca, .int .i64 next, .slice pr 0 cr, .slice pd 0 cd] 26) := ⟨_, rfl⟩
              have K1 : Kept [] w w1 := by rw [hw1]; exact (Kept.refl [] w).alloc _
              have bR : Blk w1 w.heap.size 26 [.int .i64 4, .int .i64 birth, .int .i64 prev, .int .i64 0, .int .i64 page, .int .i64 frm, .slice pb nb cb, .slice pa na ca, .int .i64 next, .slice pr 0 cr, .slice pd 0 cd] := by rw [hw1]; exact Blk.new w _ _
              have c0 := bR.cell (j := 0) rfl
              have c1 := bR.cell (j := 1) rfl
              have c2 := bR.cell (j := 2) rfl
              have c3 := bR.cell (j := 3) rfl
              have c4 := bR.cell (j := 4) rfl
              have c5 := bR.cell (j := 5) rfl
              have c6 := bR.cell (j := 6) rfl
              have c7 := bR.cell (j := 7) rfl
              have c8 := bR.cell (j := 8) rfl
              have c9 := bR.cell (j := 9) rfl
              have c10 := bR.cell (j := 10) rfl
              clear bR
              go_enter Try.func39, Try.ntmps39
              go_upto_region 1 with fail
              rw [← hw1]
              clear hw1
              go_wp2_with fail
              refine (hb _).mono ?_
              rintro e wq ⟨rfl, rfl⟩
              go_wp2_with fail
              refine (hp _).mono ?_
              rintro e wq ⟨rfl, rfl⟩
              have RK := @hideH _ K1
              go_wp2
              go_ret
              exact ⟨by rw [eQ.out]; rfl, RK.out⟩
          · have eQ := @hideH _ (show Q = false by rw [HQ.out]; exact bl_f (fun hR => by have q := HRI.out.1 hR; exact h4 (by rw [HND.out, q.2.2.1.2]; rfl)))
            have g_nd : 0 < nd := by omega
            have e_nd : ((nd : Int) == 0) = false := by simp [h4]
            obtain ⟨w1, hw1⟩ : ∃ w1, w1 = w.alloc (.cells #[.int .i64 4, .int .i64 birth, .int .i64 prev, .int .i64 0, .int .i64 page, .int .i64 frm, .slice pb nb cb, .slice pa na ca, .int .i64 next, .slice pr 0 cr, .slice pd nd cd] 26) := ⟨_, rfl⟩
            have K1 : Kept [] w w1 := by rw [hw1]; exact (Kept.refl [] w).alloc _
            have bR : Blk w1 w.heap.size 26 [.int .i64 4, .int .i64 birth, .int .i64 prev, .int .i64 0, .int .i64 page, .int .i64 frm, .slice pb nb cb, .slice pa na ca, .int .i64 next, .slice pr 0 cr, .slice pd nd cd] := by rw [hw1]; exact Blk.new w _ _
            have c0 := bR.cell (j := 0) rfl
            have c1 := bR.cell (j := 1) rfl
            have c2 := bR.cell (j := 2) rfl
            have c3 := bR.cell (j := 3) rfl
            have c4 := bR.cell (j := 4) rfl
            have c5 := bR.cell (j := 5) rfl
            have c6 := bR.cell (j := 6) rfl
            have c7 := bR.cell (j := 7) rfl
            have c8 := bR.cell (j := 8) rfl
            have c9 := bR.cell (j := 9) rfl
            have c10 := bR.cell (j := 10) rfl
            clear bR
            go_enter Try.func39, Try.ntmps39
            go_upto_region 1 with fail
            rw [← hw1]
            clear hw1
            go_wp2_with fail
            refine (hb _).mono ?_
            rintro e wq ⟨rfl, rfl⟩
            go_wp2_with fail
            refine (hp _).mono ?_
            rintro e wq ⟨rfl, rfl⟩
            have RK := @hideH _ K1
            go_wp2
            go_ret
            exact ⟨by rw [eQ.out]; rfl, RK.out⟩
        · have eQ := @hideH _ (show Q = false by rw [HQ.out]; exact bl_f (fun hR => by have q := HRI.out.1 hR; exact h3 (by rw [HNR.out, q.2.2.1.1]; rfl)))
          have g_nr : 0 < nr := by omega
          have e_nr : ((nr : Int) == 0) = false := by simp [h3]
          obtain ⟨w1, hw1⟩ : ∃ w1, w1 = w.alloc (.cells #[.int .i64 4, .int .i64 birth, .int .i64 prev, .int .i64 0, .int .i64 page, .int .i64 frm, .slice pb nb cb, .slice pa na ca, .int .i64 next, .slice pr nr cr, .slice pd nd cd] 26) := ⟨_, rfl⟩
          have K1 : Kept [] w w1 := by rw [hw1]; exact (Kept.refl [] w).alloc _
          have bR : Blk w1 w.heap.size 26 [.int .i64 4, .int .i64 birth, .int .i64 prev, .int .i64 0, .int .i64 page, .int .i64 frm, .slice pb nb cb, .slice pa na ca, .int .i64 next, .slice pr nr cr, .slice pd nd cd] := by rw [hw1]; exact Blk.new w _ _
          have c0 := bR.cell (j := 0) rfl
          have c1 := bR.cell (j := 1) rfl
          have c2 := bR.cell (j := 2) rfl
          have c3 := bR.cell (j := 3) rfl
          have c4 := bR.cell (j := 4) rfl
          have c5 := bR.cell (j := 5) rfl
          have c6 := bR.cell (j := 6) rfl
          have c7 := bR.cell (j := 7) rfl
          have c8 := bR.cell (j := 8) rfl
          have c9 := bR.cell (j := 9) rfl
          have c10 := bR.cell (j := 10) rfl
          clear bR
          go_enter Try.func39, Try.ntmps39
          go_upto_region 1 with fail
          rw [← hw1]
          clear hw1
          go_wp2_with fail
          refine (hb _).mono ?_
          rintro e wq ⟨rfl, rfl⟩
          go_wp2_with fail
          refine (hp _).mono ?_
          rintro e wq ⟨rfl, rfl⟩
          have RK := @hideH _ K1
          go_wp2
          go_ret
          exact ⟨by rw [eQ.out]; rfl, RK.out⟩
      · have eQ := @hideH _ (show Q = false by rw [HQ.out]; exact bl_f (fun hR => by have q := HRI.out.1 hR; exact h2 (q.2.1)))
        have e_id : (id != 0) = true := by simp [h2]
        have g_id : (id == 0) = false := by simp [h2]
        obtain ⟨w1, hw1⟩ : ∃ w1, w1 = w.alloc (.cells #[.int .i64 4, .int .i64 birth, .int .i64 prev, .int .i64 id, .int .i64 page, .int .i64 frm, .slice pb nb cb, .slice pa na ca, .int .i64 next, .slice pr nr cr, .slice pd nd cd] 26) := ⟨_, rfl⟩
        have K1 : Kept [] w w1 := by rw [hw1]; exact (Kept.refl [] w).alloc _
        have bR : Blk w1 w.heap.size 26 [.int .i64 4, .int .i64 birth, .int .i64 prev, .int .i64 id, .int .i64 page, .int .i64 frm, .slice pb nb cb, .slice pa na ca, .int .i64 next, .slice pr nr cr, .slice pd nd cd] := by rw [hw1]; exact Blk.new w _ _
        have c0 := bR.cell (j := 0) rfl
        have c1 := bR.cell (j := 1) rfl
        have c2 := bR.cell (j := 2) rfl
        have c3 := bR.cell (j := 3) rfl
        have c4 := bR.cell (j := 4) rfl
        have c5 := bR.cell (j := 5) rfl
        have c6 := bR.cell (j := 6) rfl
        have c7 := bR.cell (j := 7) rfl
        have c8 := bR.cell (j := 8) rfl
        have c9 := bR.cell (j := 9) rfl
        have c10 := bR.cell (j := 10) rfl
        clear bR
        go_enter Try.func39, Try.ntmps39
        go_upto_region 1 with fail
        rw [← hw1]
        clear hw1
        go_wp2_with fail
        refine (hb _).mono ?_
        rintro e wq ⟨rfl, rfl⟩
        go_wp2_with fail
        refine (hp _).mono ?_
        rintro e wq ⟨rfl, rfl⟩
        have RK := @hideH _ K1
        go_wp2
        go_ret
        exact ⟨by rw [eQ.out]; rfl, RK.out⟩
    · have eQ := @hideH _ (show Q = false by rw [HQ.out]; exact bl_f (fun hR => by have q := HRI.out.1 hR; exact h1 (q.1.2)))
      simp only [bl_f h1] at hp
      clear h1
      obtain ⟨w1, hw1⟩ : ∃ w1, w1 = w.alloc (.cells #[.int .i64 4, .int .i64 birth, .int .i64 prev, .int .i64 id, .int .i64 page, .int .i64 frm, .slice pb nb cb, .slice pa na ca, .int .i64 next, .slice pr nr cr, .slice pd nd cd] 26) := ⟨_, rfl⟩
      have K1 : Kept [] w w1 := by rw [hw1]; exact (Kept.refl [] w).alloc _
      have bR : Blk w1 w.heap.size 26 [.int .i64 4, .int .i64 birth, .int .i64 prev, .int .i64 id, .int .i64 page, .int .i64 frm, .slice pb nb cb, .slice pa na ca, .int .i64 next, .slice pr nr cr, .slice pd nd cd] := by rw [hw1]; exact Blk.new w _ _
      have c0 := bR.cell (j := 0) rfl
      have c1 := bR.cell (j := 1) rfl
      have c2 := bR.cell (j := 2) rfl
      have c3 := bR.cell (j := 3) rfl
      have c4 := bR.cell (j := 4) rfl
      have c5 := bR.cell (j := 5) rfl
      have c6 := bR.cell (j := 6) rfl
      have c7 := bR.cell (j := 7) rfl
      have c8 := bR.cell (j := 8) rfl
      have c9 := bR.cell (j := 9) rfl
      have c10 := bR.cell (j := 10) rfl
      clear bR
      go_enter Try.func39, Try.ntmps39
      go_upto_region 1 with fail
      rw [← hw1]
      clear hw1
      go_wp2_with fail
      refine (hb _).mono ?_
      rintro e wq ⟨rfl, rfl⟩
      go_wp2_with fail
      refine (hp _).mono ?_
      rintro e wq ⟨rfl, rfl⟩
      have RK := @hideH _ K1
      go_wp2
      go_ret
      exact ⟨by rw [eQ.out]; rfl, RK.out⟩
  · have eQ := @hideH _ (show Q = false by rw [HQ.out]; exact bl_f (fun hR => by have q := HRI.out.1 hR; exact h0 (q.1.1)))
    simp only [bl_f h0] at hb
    clear h0
    obtain ⟨w1, hw1⟩ : ∃ w1, w1 = w.alloc (.cells #[.int .i64 4, .int .i64 birth, .int .i64 prev, .int .i64 id, .int .i64 page, .int .i64 frm, .slice pb nb cb, .slice pa na ca, .int .i64 next, .slice pr nr cr, .slice pd nd cd] 26) := ⟨_, rfl⟩
    have K1 : Kept [] w w1 := by rw [hw1]; exact (Kept.refl [] w).alloc _
    have bR : Blk w1 w.heap.size 26 [.int .i64 4, .int .i64 birth, .int .i64 prev, .int .i64 id, .int .i64 page, .int .i64 frm, .slice pb nb cb, .slice pa na ca, .int .i64 next, .slice pr nr cr, .slice pd nd cd] := by rw [hw1]; exact Blk.new w _ _
    have c0 := bR.cell (j := 0) rfl
    have c1 := bR.cell (j := 1) rfl
    have c2 := bR.cell (j := 2) rfl
    have c3 := bR.cell (j := 3) rfl
    have c4 := bR.cell (j := 4) rfl
    have c5 := bR.cell (j := 5) rfl
    have c6 := bR.cell (j := 6) rfl
    have c7 := bR.cell (j := 7) rfl
    have c8 := bR.cell (j := 8) rfl
    have c9 := bR.cell (j := 9) rfl
    have c10 := bR.cell (j := 10) rfl
    clear bR
    go_enter Try.func39, Try.ntmps39
    go_upto_region 1 with fail
    rw [← hw1]
    clear hw1
    go_wp2_with fail
    refine (hb _).mono ?_
    rintro e wq ⟨rfl, rfl⟩
    have RK := @hideH _ K1
    go_wp2
    go_ret
    exact ⟨by rw [eQ.out]; rfl, RK.out⟩
end Go.Proofs.Ytebcmcmboomgfaa

/-
  OWN WORK (by mkrec4.py). The document's records (tidemarkref09): Right, of one kind.
-/
namespace Go.Proofs.Ytebcmcmboomgfaa
open Go.RowKit
set_option linter.unusedVariables false
set_option linter.unusedSimpArgs false

set_option maxRecDepth 20000 in
set_option maxHeartbeats 12800000 in
theorem rRight_5 (V : RV) (birth prev id page frm : Int) (before after : List UInt8) (next : Int) (rows : List RowR) (dirty : List RecR) (w : World) (h : SeeR w V (⟨5, birth, prev, id, page, frm, before, after, next, rows, dirty⟩ : Rcd)) : Calls Try.prog 39 #[(⟨5, birth, prev, id, page, frm, before, after, next, rows, dirty⟩ : Rcd).agg V] w fun e w' => e = .returned (.bool (bl (⟨5, birth, prev, id, page, frm, before, after, next, rows, dirty⟩ : Rcd).Right)) ∧ Kept [] w w' := by
  haveI HNE : ∀ w2, Nonempty (Calm w2) := calmNe
  obtain ⟨pb, cb, pa, ca, pr, cr, pd, cd, rfl⟩ := h.shapes
  have HRI := @hideH _ (show (⟨5, birth, prev, id, page, frm, before, after, next, rows, dirty⟩ : Rcd).Right ↔ (lsnOk birth ∧ lsnOk prev) ∧ id = 0 ∧ (rows = [] ∧ dirty = []) ∧ next = 0 ∧ (page = 0 ∧ frm = 0 ∧ after = []) ∧ before = [] by unfold Rcd.Right; simp)
  have hb := fun w => rIsLsn birth w
  have hp := fun w => rIsLsn prev w
  have hn := fun w => rIsNext next w
  have hu := fun (wz : World) (kz : Kept [] w wz) => rUnranged _ (⟨5, birth, prev, id, page, frm, before, after, next, rows, dirty⟩ : Rcd) wz (h.kept kz)
  have hr := fun (wz : World) (kz : Kept [] w wz) => rRanged _ (⟨5, birth, prev, id, page, frm, before, after, next, rows, dirty⟩ : Rcd) wz (h.kept kz)
  have hl := fun (wz : World) (kz : Kept [] w wz) => rLists _ (⟨5, birth, prev, id, page, frm, before, after, next, rows, dirty⟩ : Rcd) wz (h.kept kz)
  have hBS := @hideH _ h.before
  have hAS := @hideH _ h.after
  have hmx := @hideH _ (show after.length ≤ maxLen from (by obtain ⟨_, _, e, h1, h2, _⟩ := h.after; cases e; exact Nat.le_trans h1 h2))
  clear h
  unfold Rcd.agg at hu hr hl ⊢
  dsimp only at hu hr hl hBS hAS ⊢
  obtain ⟨Q, hQ⟩ : ∃ Q, Q = bl (⟨5, birth, prev, id, page, frm, before, after, next, rows, dirty⟩ : Rcd).Right := ⟨_, rfl⟩
  rw [← hQ]
  have HQ := @hideH _ hQ
  clear hQ
  obtain ⟨nb, hnb⟩ : ∃ nb, nb = before.length := ⟨_, rfl⟩
  obtain ⟨na, hna⟩ : ∃ na, na = after.length := ⟨_, rfl⟩
  obtain ⟨nr, hnr⟩ : ∃ nr, nr = rows.length := ⟨_, rfl⟩
  obtain ⟨nd, hnd⟩ : ∃ nd, nd = dirty.length := ⟨_, rfl⟩
  simp only [← hnb, ← hna, ← hnr, ← hnd] at hu hr hl ⊢
  have HNB := @hideH _ hnb
  have HNA := @hideH _ hna
  have HNR := @hideH _ hnr
  have HND := @hideH _ hnd
  clear hnb hna hnr hnd
  clear hn
  clear hr
  clear hl
  by_cases h0 : lsnOk birth
  · simp only [bl_t h0] at hb
    have k0 := @hideH _ h0
    clear h0
    by_cases h1 : lsnOk prev
    · simp only [bl_t h1] at hp
      have k1 := @hideH _ h1
      clear h1
      by_cases h2 : id = 0
      · subst h2
        by_cases h3 : nr = 0
        · subst h3
          by_cases h4 : nd = 0
          · subst h4
            by_cases h5 : next = 0
            · subst h5
              by_cases h6 : (page = 0 ∧ frm = 0 ∧ after = [])
              · simp only [bl_t h6] at hu
                have k6 := @hideH _ h6
                clear h6
                by_cases h7 : nb = 0
                · subst h7
                  have eQ := @hideH _ (show Q = true by rw [HQ.out]; exact bl_t (HRI.out.2 ⟨⟨k0.out, k1.out⟩, rfl, ⟨(List.eq_nil_of_length_eq_zero HNR.out.symm), (List.eq_nil_of_length_eq_zero HND.out.symm)⟩, rfl, k6.out, (List.eq_nil_of_length_eq_zero HNB.out.symm)⟩))
                  obtain ⟨w1, hw1⟩ : ∃ w1, w1 = w.alloc (.cells #[.int .i64 5, .int .i64 birth, .int .i64 prev, .int .i64 0, .int .i64 page, .int .i64 frm, .slice pb 0 cb, .slice pa na ca, .int .i64 0, .slice pr 0 cr, .slice pd 0 cd] 26) := ⟨_, rfl⟩
                  have K1 : Kept [] w w1 := by rw [hw1]; exact (Kept.refl [] w).alloc _
                  have bR : Blk w1 w.heap.size 26 [.int .i64 5, .int .i64 birth, .int .i64 prev, .int .i64 0, .int .i64 page, .int .i64 frm, .slice pb 0 cb, .slice pa na ca, .int .i64 0, .slice pr 0 cr, .slice pd 0 cd] := by rw [hw1]; exact Blk.new w _ _
                  have c0 := bR.cell (j := 0) rfl
                  have c1 := bR.cell (j := 1) rfl
                  have c2 := bR.cell (j := 2) rfl
                  have c3 := bR.cell (j := 3) rfl
                  have c4 := bR.cell (j := 4) rfl
                  have c5 := bR.cell (j := 5) rfl
                  have c6 := bR.cell (j := 6) rfl
                  have c7 := bR.cell (j := 7) rfl
                  have c8 := bR.cell (j := 8) rfl
                  have c9 := bR.cell (j := 9) rfl
                  have c10 := bR.cell (j := 10) rfl
                  clear bR
                  go_enter Try.func39, Try.ntmps39
                  go_upto_region 1 with fail
                  rw [← hw1]
                  clear hw1
                  go_wp2_with fail
                  refine (hb _).mono ?_
                  rintro e wq ⟨rfl, rfl⟩
                  go_wp2_with fail
                  refine (hp _).mono ?_
                  rintro e wq ⟨rfl, rfl⟩
                  go_wp2_with fail
                  refine (hu _ K1).mono ?_
                  rintro e w2 ⟨rfl, kn⟩
                  have K2 := K1.then kn
                  replace c0 := kn.cell c0 (by simp)
                  replace c1 := kn.cell c1 (by simp)
                  replace c2 := kn.cell c2 (by simp)
                  replace c3 := kn.cell c3 (by simp)
                  replace c4 := kn.cell c4 (by simp)
                  replace c5 := kn.cell c5 (by simp)
                  replace c6 := kn.cell c6 (by simp)
                  replace c7 := kn.cell c7 (by simp)
                  replace c8 := kn.cell c8 (by simp)
                  replace c9 := kn.cell c9 (by simp)
                  replace c10 := kn.cell c10 (by simp)
                  clear kn
                  have RK := @hideH _ K2
                  go_wp2
                  go_ret
                  exact ⟨by rw [eQ.out]; rfl, RK.out⟩
                · have eQ := @hideH _ (show Q = false by rw [HQ.out]; exact bl_f (fun hR => by have q := HRI.out.1 hR; exact h7 (by rw [HNB.out, q.2.2.2.2.2]; rfl)))
                  have g_nb : 0 < nb := by omega
                  have e_nb : ((nb : Int) == 0) = false := by simp [h7]
                  obtain ⟨w1, hw1⟩ : ∃ w1, w1 = w.alloc (.cells #[.int .i64 5, .int .i64 birth, .int .i64 prev, .int .i64 0, .int .i64 page, .int .i64 frm, .slice pb nb cb, .slice pa na ca, .int .i64 0, .slice pr 0 cr, .slice pd 0 cd] 26) := ⟨_, rfl⟩
                  have K1 : Kept [] w w1 := by rw [hw1]; exact (Kept.refl [] w).alloc _
                  have bR : Blk w1 w.heap.size 26 [.int .i64 5, .int .i64 birth, .int .i64 prev, .int .i64 0, .int .i64 page, .int .i64 frm, .slice pb nb cb, .slice pa na ca, .int .i64 0, .slice pr 0 cr, .slice pd 0 cd] := by rw [hw1]; exact Blk.new w _ _
                  have c0 := bR.cell (j := 0) rfl
                  have c1 := bR.cell (j := 1) rfl
                  have c2 := bR.cell (j := 2) rfl
                  have c3 := bR.cell (j := 3) rfl
                  have c4 := bR.cell (j := 4) rfl
                  have c5 := bR.cell (j := 5) rfl
                  have c6 := bR.cell (j := 6) rfl
                  have c7 := bR.cell (j := 7) rfl
                  have c8 := bR.cell (j := 8) rfl
                  have c9 := bR.cell (j := 9) rfl
                  have c10 := bR.cell (j := 10) rfl
                  clear bR
                  go_enter Try.func39, Try.ntmps39
                  go_upto_region 1 with fail
                  rw [← hw1]
                  clear hw1
                  go_wp2_with fail
                  refine (hb _).mono ?_
                  rintro e wq ⟨rfl, rfl⟩
                  go_wp2_with fail
                  refine (hp _).mono ?_
                  rintro e wq ⟨rfl, rfl⟩
                  go_wp2_with fail
                  refine (hu _ K1).mono ?_
                  rintro e w2 ⟨rfl, kn⟩
                  have K2 := K1.then kn
                  replace c0 := kn.cell c0 (by simp)
                  replace c1 := kn.cell c1 (by simp)
                  replace c2 := kn.cell c2 (by simp)
                  replace c3 := kn.cell c3 (by simp)
                  replace c4 := kn.cell c4 (by simp)
                  replace c5 := kn.cell c5 (by simp)
                  replace c6 := kn.cell c6 (by simp)
                  replace c7 := kn.cell c7 (by simp)
                  replace c8 := kn.cell c8 (by simp)
                  replace c9 := kn.cell c9 (by simp)
                  replace c10 := kn.cell c10 (by simp)
                  clear kn
                  have RK := @hideH _ K2
                  go_wp2
                  go_ret
                  exact ⟨by rw [eQ.out]; rfl, RK.out⟩
              · have eQ := @hideH _ (show Q = false by rw [HQ.out]; exact bl_f (fun hR => by have q := HRI.out.1 hR; exact h6 (q.2.2.2.2.1)))
                simp only [bl_f h6] at hu
                clear h6
                obtain ⟨w1, hw1⟩ : ∃ w1, w1 = w.alloc (.cells #[.int .i64 5, .int .i64 birth, .int .i64 prev, .int .i64 0, .int .i64 page, .int .i64 frm, .slice pb nb cb, .slice pa na ca, .int .i64 0, .slice pr 0 cr, .slice pd 0 cd] 26) := ⟨_, rfl⟩
                have K1 : Kept [] w w1 := by rw [hw1]; exact (Kept.refl [] w).alloc _
                have bR : Blk w1 w.heap.size 26 [.int .i64 5, .int .i64 birth, .int .i64 prev, .int .i64 0, .int .i64 page, .int .i64 frm, .slice pb nb cb, .slice pa na ca, .int .i64 0, .slice pr 0 cr, .slice pd 0 cd] := by rw [hw1]; exact Blk.new w _ _
                have c0 := bR.cell (j := 0) rfl
                have c1 := bR.cell (j := 1) rfl
                have c2 := bR.cell (j := 2) rfl
                have c3 := bR.cell (j := 3) rfl
                have c4 := bR.cell (j := 4) rfl
                have c5 := bR.cell (j := 5) rfl
                have c6 := bR.cell (j := 6) rfl
                have c7 := bR.cell (j := 7) rfl
                have c8 := bR.cell (j := 8) rfl
                have c9 := bR.cell (j := 9) rfl
                have c10 := bR.cell (j := 10) rfl
                clear bR
                go_enter Try.func39, Try.ntmps39
                go_upto_region 1 with fail
                rw [← hw1]
                clear hw1
                go_wp2_with fail
                refine (hb _).mono ?_
                rintro e wq ⟨rfl, rfl⟩
                go_wp2_with fail
                refine (hp _).mono ?_
                rintro e wq ⟨rfl, rfl⟩
                go_wp2_with fail
                refine (hu _ K1).mono ?_
                rintro e w2 ⟨rfl, kn⟩
                have K2 := K1.then kn
                replace c0 := kn.cell c0 (by simp)
                replace c1 := kn.cell c1 (by simp)
                replace c2 := kn.cell c2 (by simp)
                replace c3 := kn.cell c3 (by simp)
                replace c4 := kn.cell c4 (by simp)
                replace c5 := kn.cell c5 (by simp)
                replace c6 := kn.cell c6 (by simp)
                replace c7 := kn.cell c7 (by simp)
                replace c8 := kn.cell c8 (by simp)
                replace c9 := kn.cell c9 (by simp)
                replace c10 := kn.cell c10 (by simp)
                clear kn
                have RK := @hideH _ K2
                go_wp2
                go_ret
                exact ⟨by rw [eQ.out]; rfl, RK.out⟩
            · have eQ := @hideH _ (show Q = false by rw [HQ.out]; exact bl_f (fun hR => by have q := HRI.out.1 hR; exact h5 (q.2.2.2.1)))
              have e_next : (next != 0) = true := by simp [h5]
              have g_next : (next == 0) = false := by simp [h5]
              obtain ⟨w1, hw1⟩ : ∃ w1, w1 = w.alloc (.cells #[.int .i64 5, .int .i64 birth, .int .i64 prev, .int .i64 0, .int .i64 page, .int .i64 frm, .slice pb nb cb, .slice pa na ca, .int .i64 next, .slice pr 0 cr, .slice pd 0 cd] 26) := ⟨_, rfl⟩
              have K1 : Kept [] w w1 := by rw [hw1]; exact (Kept.refl [] w).alloc _
              have bR : Blk w1 w.heap.size 26 [.int .i64 5, .int .i64 birth, .int .i64 prev, .int .i64 0, .int .i64 page, .int .i64 frm, .slice pb nb cb, .slice pa na ca, .int .i64 next, .slice pr 0 cr, .slice pd 0 cd] := by rw [hw1]; exact Blk.new w _ _
              have c0 := bR.cell (j := 0) rfl
              have c1 := bR.cell (j := 1) rfl
              have c2 := bR.cell (j := 2) rfl
              have c3 := bR.cell (j := 3) rfl
              have c4 := bR.cell (j := 4) rfl
              have c5 := bR.cell (j := 5) rfl
              have c6 := bR.cell (j := 6) rfl
              have c7 := bR.cell (j := 7) rfl
              have c8 := bR.cell (j := 8) rfl
              have c9 := bR.cell (j := 9) rfl
              have c10 := bR.cell (j := 10) rfl
              clear bR
              go_enter Try.func39, Try.ntmps39
              go_upto_region 1 with fail
              rw [← hw1]
              clear hw1
              go_wp2_with fail
              refine (hb _).mono ?_
              rintro e wq ⟨rfl, rfl⟩
              go_wp2_with fail
              refine (hp _).mono ?_
              rintro e wq ⟨rfl, rfl⟩
              have RK := @hideH _ K1
              go_wp2
              go_ret
              exact ⟨by rw [eQ.out]; rfl, RK.out⟩
          · have eQ := @hideH _ (show Q = false by rw [HQ.out]; exact bl_f (fun hR => by have q := HRI.out.1 hR; exact h4 (by rw [HND.out, q.2.2.1.2]; rfl)))
            have g_nd : 0 < nd := by omega
            have e_nd : ((nd : Int) == 0) = false := by simp [h4]
            obtain ⟨w1, hw1⟩ : ∃ w1, w1 = w.alloc (.cells #[.int .i64 5, .int .i64 birth, .int .i64 prev, .int .i64 0, .int .i64 page, .int .i64 frm, .slice pb nb cb, .slice pa na ca, .int .i64 next, .slice pr 0 cr, .slice pd nd cd] 26) := ⟨_, rfl⟩
            have K1 : Kept [] w w1 := by rw [hw1]; exact (Kept.refl [] w).alloc _
            have bR : Blk w1 w.heap.size 26 [.int .i64 5, .int .i64 birth, .int .i64 prev, .int .i64 0, .int .i64 page, .int .i64 frm, .slice pb nb cb, .slice pa na ca, .int .i64 next, .slice pr 0 cr, .slice pd nd cd] := by rw [hw1]; exact Blk.new w _ _
            have c0 := bR.cell (j := 0) rfl
            have c1 := bR.cell (j := 1) rfl
            have c2 := bR.cell (j := 2) rfl
            have c3 := bR.cell (j := 3) rfl
            have c4 := bR.cell (j := 4) rfl
            have c5 := bR.cell (j := 5) rfl
            have c6 := bR.cell (j := 6) rfl
            have c7 := bR.cell (j := 7) rfl
            have c8 := bR.cell (j := 8) rfl
            have c9 := bR.cell (j := 9) rfl
            have c10 := bR.cell (j := 10) rfl
            clear bR
            go_enter Try.func39, Try.ntmps39
            go_upto_region 1 with fail
            rw [← hw1]
            clear hw1
            go_wp2_with fail
            refine (hb _).mono ?_
            rintro e wq ⟨rfl, rfl⟩
            go_wp2_with fail
            refine (hp _).mono ?_
            rintro e wq ⟨rfl, rfl⟩
            have RK := @hideH _ K1
            go_wp2
            go_ret
            exact ⟨by rw [eQ.out]; rfl, RK.out⟩
        · have eQ := @hideH _ (show Q = false by rw [HQ.out]; exact bl_f (fun hR => by have q := HRI.out.1 hR; exact h3 (by rw [HNR.out, q.2.2.1.1]; rfl)))
          have g_nr : 0 < nr := by omega
          have e_nr : ((nr : Int) == 0) = false := by simp [h3]
          obtain ⟨w1, hw1⟩ : ∃ w1, w1 = w.alloc (.cells #[.int .i64 5, .int .i64 birth, .int .i64 prev, .int .i64 0, .int .i64 page, .int .i64 frm, .slice pb nb cb, .slice pa na ca, .int .i64 next, .slice pr nr cr, .slice pd nd cd] 26) := ⟨_, rfl⟩
          have K1 : Kept [] w w1 := by rw [hw1]; exact (Kept.refl [] w).alloc _
          have bR : Blk w1 w.heap.size 26 [.int .i64 5, .int .i64 birth, .int .i64 prev, .int .i64 0, .int .i64 page, .int .i64 frm, .slice pb nb cb, .slice pa na ca, .int .i64 next, .slice pr nr cr, .slice pd nd cd] := by rw [hw1]; exact Blk.new w _ _
          have c0 := bR.cell (j := 0) rfl
          have c1 := bR.cell (j := 1) rfl
          have c2 := bR.cell (j := 2) rfl
          have c3 := bR.cell (j := 3) rfl
          have c4 := bR.cell (j := 4) rfl
          have c5 := bR.cell (j := 5) rfl
          have c6 := bR.cell (j := 6) rfl
          have c7 := bR.cell (j := 7) rfl
          have c8 := bR.cell (j := 8) rfl
          have c9 := bR.cell (j := 9) rfl
          have c10 := bR.cell (j := 10) rfl
          clear bR
          go_enter Try.func39, Try.ntmps39
          go_upto_region 1 with fail
          rw [← hw1]
          clear hw1
          go_wp2_with fail
          refine (hb _).mono ?_
          rintro e wq ⟨rfl, rfl⟩
          go_wp2_with fail
          refine (hp _).mono ?_
          rintro e wq ⟨rfl, rfl⟩
          have RK := @hideH _ K1
          go_wp2
          go_ret
          exact ⟨by rw [eQ.out]; rfl, RK.out⟩
      · have eQ := @hideH _ (show Q = false by rw [HQ.out]; exact bl_f (fun hR => by have q := HRI.out.1 hR; exact h2 (q.2.1)))
        have e_id : (id != 0) = true := by simp [h2]
        have g_id : (id == 0) = false := by simp [h2]
        obtain ⟨w1, hw1⟩ : ∃ w1, w1 = w.alloc (.cells #[.int .i64 5, .int .i64 birth, .int .i64 prev, .int .i64 id, .int .i64 page, .int .i64 frm, .slice pb nb cb, .slice pa na ca, .int .i64 next, .slice pr nr cr, .slice pd nd cd] 26) := ⟨_, rfl⟩
        have K1 : Kept [] w w1 := by rw [hw1]; exact (Kept.refl [] w).alloc _
        have bR : Blk w1 w.heap.size 26 [.int .i64 5, .int .i64 birth, .int .i64 prev, .int .i64 id, .int .i64 page, .int .i64 frm, .slice pb nb cb, .slice pa na ca, .int .i64 next, .slice pr nr cr, .slice pd nd cd] := by rw [hw1]; exact Blk.new w _ _
        have c0 := bR.cell (j := 0) rfl
        have c1 := bR.cell (j := 1) rfl
        have c2 := bR.cell (j := 2) rfl
        have c3 := bR.cell (j := 3) rfl
        have c4 := bR.cell (j := 4) rfl
        have c5 := bR.cell (j := 5) rfl
        have c6 := bR.cell (j := 6) rfl
        have c7 := bR.cell (j := 7) rfl
        have c8 := bR.cell (j := 8) rfl
        have c9 := bR.cell (j := 9) rfl
        have c10 := bR.cell (j := 10) rfl
        clear bR
        go_enter Try.func39, Try.ntmps39
        go_upto_region 1 with fail
        rw [← hw1]
        clear hw1
        go_wp2_with fail
        refine (hb _).mono ?_
        rintro e wq ⟨rfl, rfl⟩
        go_wp2_with fail
        refine (hp _).mono ?_
        rintro e wq ⟨rfl, rfl⟩
        have RK := @hideH _ K1
        go_wp2
        go_ret
        exact ⟨by rw [eQ.out]; rfl, RK.out⟩
    · have eQ := @hideH _ (show Q = false by rw [HQ.out]; exact bl_f (fun hR => by have q := HRI.out.1 hR; exact h1 (q.1.2)))
      simp only [bl_f h1] at hp
      clear h1
      obtain ⟨w1, hw1⟩ : ∃ w1, w1 = w.alloc (.cells #[.int .i64 5, .int .i64 birth, .int .i64 prev, .int .i64 id, .int .i64 page, .int .i64 frm, .slice pb nb cb, .slice pa na ca, .int .i64 next, .slice pr nr cr, .slice pd nd cd] 26) := ⟨_, rfl⟩
      have K1 : Kept [] w w1 := by rw [hw1]; exact (Kept.refl [] w).alloc _
      have bR : Blk w1 w.heap.size 26 [.int .i64 5, .int .i64 birth, .int .i64 prev, .int .i64 id, .int .i64 page, .int .i64 frm, .slice pb nb cb, .slice pa na ca, .int .i64 next, .slice pr nr cr, .slice pd nd cd] := by rw [hw1]; exact Blk.new w _ _
      have c0 := bR.cell (j := 0) rfl
      have c1 := bR.cell (j := 1) rfl
      have c2 := bR.cell (j := 2) rfl
      have c3 := bR.cell (j := 3) rfl
      have c4 := bR.cell (j := 4) rfl
      have c5 := bR.cell (j := 5) rfl
      have c6 := bR.cell (j := 6) rfl
      have c7 := bR.cell (j := 7) rfl
      have c8 := bR.cell (j := 8) rfl
      have c9 := bR.cell (j := 9) rfl
      have c10 := bR.cell (j := 10) rfl
      clear bR
      go_enter Try.func39, Try.ntmps39
      go_upto_region 1 with fail
      rw [← hw1]
      clear hw1
      go_wp2_with fail
      refine (hb _).mono ?_
      rintro e wq ⟨rfl, rfl⟩
      go_wp2_with fail
      refine (hp _).mono ?_
      rintro e wq ⟨rfl, rfl⟩
      have RK := @hideH _ K1
      go_wp2
      go_ret
      exact ⟨by rw [eQ.out]; rfl, RK.out⟩
  · have eQ := @hideH _ (show Q = false by rw [HQ.out]; exact bl_f (fun hR => by have q := HRI.out.1 hR; exact h0 (q.1.1)))
    simp only [bl_f h0] at hb
    clear h0
    obtain ⟨w1, hw1⟩ : ∃ w1, w1 = w.alloc (.cells #[.int .i64 5, .int .i64 birth, .int .i64 prev, .int .i64 id, .int .i64 page, .int .i64 frm, .slice pb nb cb, .slice pa na ca, .int .i64 next, .slice pr nr cr, .slice pd nd cd] 26) := ⟨_, rfl⟩
    have K1 : Kept [] w w1 := by rw [hw1]; exact (Kept.refl [] w).alloc _
    have bR : Blk w1 w.heap.size 26 [.int .i64 5, .int .i64 birth, .int .i64 prev, .int .i64 id, .int .i64 page, .int .i64 frm, .slice pb nb cb, .slice pa na ca, .int .i64 next, .slice pr nr cr, .slice pd nd cd] := by rw [hw1]; exact Blk.new w _ _
    have c0 := bR.cell (j := 0) rfl
    have c1 := bR.cell (j := 1) rfl
    have c2 := bR.cell (j := 2) rfl
    have c3 := bR.cell (j := 3) rfl
    have c4 := bR.cell (j := 4) rfl
    have c5 := bR.cell (j := 5) rfl
    have c6 := bR.cell (j := 6) rfl
    have c7 := bR.cell (j := 7) rfl
    have c8 := bR.cell (j := 8) rfl
    have c9 := bR.cell (j := 9) rfl
    have c10 := bR.cell (j := 10) rfl
    clear bR
    go_enter Try.func39, Try.ntmps39
    go_upto_region 1 with fail
    rw [← hw1]
    clear hw1
    go_wp2_with fail
    refine (hb _).mono ?_
    rintro e wq ⟨rfl, rfl⟩
    have RK := @hideH _ K1
    go_wp2
    go_ret
    exact ⟨by rw [eQ.out]; rfl, RK.out⟩
end Go.Proofs.Ytebcmcmboomgfaa

/-
  OWN WORK (by mkrec4.py). The document's records (tidemarkref09): Right, of one kind.
-/
namespace Go.Proofs.Ytebcmcmboomgfaa
open Go.RowKit
set_option linter.unusedVariables false
set_option linter.unusedSimpArgs false

set_option maxRecDepth 20000 in
set_option maxHeartbeats 12800000 in
theorem rRight_6 (V : RV) (birth prev id page frm : Int) (before after : List UInt8) (next : Int) (rows : List RowR) (dirty : List RecR) (w : World) (h : SeeR w V (⟨6, birth, prev, id, page, frm, before, after, next, rows, dirty⟩ : Rcd)) : Calls Try.prog 39 #[(⟨6, birth, prev, id, page, frm, before, after, next, rows, dirty⟩ : Rcd).agg V] w fun e w' => e = .returned (.bool (bl (⟨6, birth, prev, id, page, frm, before, after, next, rows, dirty⟩ : Rcd).Right)) ∧ Kept [] w w' := by
  haveI HNE : ∀ w2, Nonempty (Calm w2) := calmNe
  obtain ⟨pb, cb, pa, ca, pr, cr, pd, cd, rfl⟩ := h.shapes
  have HRI := @hideH _ (show (⟨6, birth, prev, id, page, frm, before, after, next, rows, dirty⟩ : Rcd).Right ↔ (lsnOk birth ∧ lsnOk prev) ∧ id = 0 ∧ (rows = [] ∧ dirty = []) ∧ next = 0 ∧ (page = 0 ∧ frm = 0 ∧ after = []) ∧ before = [] by unfold Rcd.Right; simp)
  have hb := fun w => rIsLsn birth w
  have hp := fun w => rIsLsn prev w
  have hn := fun w => rIsNext next w
  have hu := fun (wz : World) (kz : Kept [] w wz) => rUnranged _ (⟨6, birth, prev, id, page, frm, before, after, next, rows, dirty⟩ : Rcd) wz (h.kept kz)
  have hr := fun (wz : World) (kz : Kept [] w wz) => rRanged _ (⟨6, birth, prev, id, page, frm, before, after, next, rows, dirty⟩ : Rcd) wz (h.kept kz)
  have hl := fun (wz : World) (kz : Kept [] w wz) => rLists _ (⟨6, birth, prev, id, page, frm, before, after, next, rows, dirty⟩ : Rcd) wz (h.kept kz)
  have hBS := @hideH _ h.before
  have hAS := @hideH _ h.after
  have hmx := @hideH _ (show after.length ≤ maxLen from (by obtain ⟨_, _, e, h1, h2, _⟩ := h.after; cases e; exact Nat.le_trans h1 h2))
  clear h
  unfold Rcd.agg at hu hr hl ⊢
  dsimp only at hu hr hl hBS hAS ⊢
  obtain ⟨Q, hQ⟩ : ∃ Q, Q = bl (⟨6, birth, prev, id, page, frm, before, after, next, rows, dirty⟩ : Rcd).Right := ⟨_, rfl⟩
  rw [← hQ]
  have HQ := @hideH _ hQ
  clear hQ
  obtain ⟨nb, hnb⟩ : ∃ nb, nb = before.length := ⟨_, rfl⟩
  obtain ⟨na, hna⟩ : ∃ na, na = after.length := ⟨_, rfl⟩
  obtain ⟨nr, hnr⟩ : ∃ nr, nr = rows.length := ⟨_, rfl⟩
  obtain ⟨nd, hnd⟩ : ∃ nd, nd = dirty.length := ⟨_, rfl⟩
  simp only [← hnb, ← hna, ← hnr, ← hnd] at hu hr hl ⊢
  have HNB := @hideH _ hnb
  have HNA := @hideH _ hna
  have HNR := @hideH _ hnr
  have HND := @hideH _ hnd
  clear hnb hna hnr hnd
  clear hn
  clear hr
  clear hl
  by_cases h0 : lsnOk birth
  · simp only [bl_t h0] at hb
    have k0 := @hideH _ h0
    clear h0
    by_cases h1 : lsnOk prev
    · simp only [bl_t h1] at hp
      have k1 := @hideH _ h1
      clear h1
      by_cases h2 : id = 0
      · subst h2
        by_cases h3 : nr = 0
        · subst h3
          by_cases h4 : nd = 0
          · subst h4
            by_cases h5 : next = 0
            · subst h5
              by_cases h6 : (page = 0 ∧ frm = 0 ∧ after = [])
              · simp only [bl_t h6] at hu
                have k6 := @hideH _ h6
                clear h6
                by_cases h7 : nb = 0
                · subst h7
                  have eQ := @hideH _ (show Q = true by rw [HQ.out]; exact bl_t (HRI.out.2 ⟨⟨k0.out, k1.out⟩, rfl, ⟨(List.eq_nil_of_length_eq_zero HNR.out.symm), (List.eq_nil_of_length_eq_zero HND.out.symm)⟩, rfl, k6.out, (List.eq_nil_of_length_eq_zero HNB.out.symm)⟩))
                  obtain ⟨w1, hw1⟩ : ∃ w1, w1 = w.alloc (.cells #[.int .i64 6, .int .i64 birth, .int .i64 prev, .int .i64 0, .int .i64 page, .int .i64 frm, .slice pb 0 cb, .slice pa na ca, .int .i64 0, .slice pr 0 cr, .slice pd 0 cd] 26) := ⟨_, rfl⟩
                  have K1 : Kept [] w w1 := by rw [hw1]; exact (Kept.refl [] w).alloc _
                  have bR : Blk w1 w.heap.size 26 [.int .i64 6, .int .i64 birth, .int .i64 prev, .int .i64 0, .int .i64 page, .int .i64 frm, .slice pb 0 cb, .slice pa na ca, .int .i64 0, .slice pr 0 cr, .slice pd 0 cd] := by rw [hw1]; exact Blk.new w _ _
                  have c0 := bR.cell (j := 0) rfl
                  have c1 := bR.cell (j := 1) rfl
                  have c2 := bR.cell (j := 2) rfl
                  have c3 := bR.cell (j := 3) rfl
                  have c4 := bR.cell (j := 4) rfl
                  have c5 := bR.cell (j := 5) rfl
                  have c6 := bR.cell (j := 6) rfl
                  have c7 := bR.cell (j := 7) rfl
                  have c8 := bR.cell (j := 8) rfl
                  have c9 := bR.cell (j := 9) rfl
                  have c10 := bR.cell (j := 10) rfl
                  clear bR
                  go_enter Try.func39, Try.ntmps39
                  go_upto_region 1 with fail
                  rw [← hw1]
                  clear hw1
                  go_wp2_with fail
                  refine (hb _).mono ?_
                  rintro e wq ⟨rfl, rfl⟩
                  go_wp2_with fail
                  refine (hp _).mono ?_
                  rintro e wq ⟨rfl, rfl⟩
                  go_wp2_with fail
                  refine (hu _ K1).mono ?_
                  rintro e w2 ⟨rfl, kn⟩
                  have K2 := K1.then kn
                  replace c0 := kn.cell c0 (by simp)
                  replace c1 := kn.cell c1 (by simp)
                  replace c2 := kn.cell c2 (by simp)
                  replace c3 := kn.cell c3 (by simp)
                  replace c4 := kn.cell c4 (by simp)
                  replace c5 := kn.cell c5 (by simp)
                  replace c6 := kn.cell c6 (by simp)
                  replace c7 := kn.cell c7 (by simp)
                  replace c8 := kn.cell c8 (by simp)
                  replace c9 := kn.cell c9 (by simp)
                  replace c10 := kn.cell c10 (by simp)
                  clear kn
                  have RK := @hideH _ K2
                  go_wp2
                  go_ret
                  exact ⟨by rw [eQ.out]; rfl, RK.out⟩
                · have eQ := @hideH _ (show Q = false by rw [HQ.out]; exact bl_f (fun hR => by have q := HRI.out.1 hR; exact h7 (by rw [HNB.out, q.2.2.2.2.2]; rfl)))
                  have g_nb : 0 < nb := by omega
                  have e_nb : ((nb : Int) == 0) = false := by simp [h7]
                  obtain ⟨w1, hw1⟩ : ∃ w1, w1 = w.alloc (.cells #[.int .i64 6, .int .i64 birth, .int .i64 prev, .int .i64 0, .int .i64 page, .int .i64 frm, .slice pb nb cb, .slice pa na ca, .int .i64 0, .slice pr 0 cr, .slice pd 0 cd] 26) := ⟨_, rfl⟩
                  have K1 : Kept [] w w1 := by rw [hw1]; exact (Kept.refl [] w).alloc _
                  have bR : Blk w1 w.heap.size 26 [.int .i64 6, .int .i64 birth, .int .i64 prev, .int .i64 0, .int .i64 page, .int .i64 frm, .slice pb nb cb, .slice pa na ca, .int .i64 0, .slice pr 0 cr, .slice pd 0 cd] := by rw [hw1]; exact Blk.new w _ _
                  have c0 := bR.cell (j := 0) rfl
                  have c1 := bR.cell (j := 1) rfl
                  have c2 := bR.cell (j := 2) rfl
                  have c3 := bR.cell (j := 3) rfl
                  have c4 := bR.cell (j := 4) rfl
                  have c5 := bR.cell (j := 5) rfl
                  have c6 := bR.cell (j := 6) rfl
                  have c7 := bR.cell (j := 7) rfl
                  have c8 := bR.cell (j := 8) rfl
                  have c9 := bR.cell (j := 9) rfl
                  have c10 := bR.cell (j := 10) rfl
                  clear bR
                  go_enter Try.func39, Try.ntmps39
                  go_upto_region 1 with fail
                  rw [← hw1]
                  clear hw1
                  go_wp2_with fail
                  refine (hb _).mono ?_
                  rintro e wq ⟨rfl, rfl⟩
                  go_wp2_with fail
                  refine (hp _).mono ?_
                  rintro e wq ⟨rfl, rfl⟩
                  go_wp2_with fail
                  refine (hu _ K1).mono ?_
                  rintro e w2 ⟨rfl, kn⟩
                  have K2 := K1.then kn
                  replace c0 := kn.cell c0 (by simp)
                  replace c1 := kn.cell c1 (by simp)
                  replace c2 := kn.cell c2 (by simp)
                  replace c3 := kn.cell c3 (by simp)
                  replace c4 := kn.cell c4 (by simp)
                  replace c5 := kn.cell c5 (by simp)
                  replace c6 := kn.cell c6 (by simp)
                  replace c7 := kn.cell c7 (by simp)
                  replace c8 := kn.cell c8 (by simp)
                  replace c9 := kn.cell c9 (by simp)
                  replace c10 := kn.cell c10 (by simp)
                  clear kn
                  have RK := @hideH _ K2
                  go_wp2
                  go_ret
                  exact ⟨by rw [eQ.out]; rfl, RK.out⟩
              · have eQ := @hideH _ (show Q = false by rw [HQ.out]; exact bl_f (fun hR => by have q := HRI.out.1 hR; exact h6 (q.2.2.2.2.1)))
                simp only [bl_f h6] at hu
                clear h6
                obtain ⟨w1, hw1⟩ : ∃ w1, w1 = w.alloc (.cells #[.int .i64 6, .int .i64 birth, .int .i64 prev, .int .i64 0, .int .i64 page, .int .i64 frm, .slice pb nb cb, .slice pa na ca, .int .i64 0, .slice pr 0 cr, .slice pd 0 cd] 26) := ⟨_, rfl⟩
                have K1 : Kept [] w w1 := by rw [hw1]; exact (Kept.refl [] w).alloc _
                have bR : Blk w1 w.heap.size 26 [.int .i64 6, .int .i64 birth, .int .i64 prev, .int .i64 0, .int .i64 page, .int .i64 frm, .slice pb nb cb, .slice pa na ca, .int .i64 0, .slice pr 0 cr, .slice pd 0 cd] := by rw [hw1]; exact Blk.new w _ _
                have c0 := bR.cell (j := 0) rfl
                have c1 := bR.cell (j := 1) rfl
                have c2 := bR.cell (j := 2) rfl
                have c3 := bR.cell (j := 3) rfl
                have c4 := bR.cell (j := 4) rfl
                have c5 := bR.cell (j := 5) rfl
                have c6 := bR.cell (j := 6) rfl
                have c7 := bR.cell (j := 7) rfl
                have c8 := bR.cell (j := 8) rfl
                have c9 := bR.cell (j := 9) rfl
                have c10 := bR.cell (j := 10) rfl
                clear bR
                go_enter Try.func39, Try.ntmps39
                go_upto_region 1 with fail
                rw [← hw1]
                clear hw1
                go_wp2_with fail
                refine (hb _).mono ?_
                rintro e wq ⟨rfl, rfl⟩
                go_wp2_with fail
                refine (hp _).mono ?_
                rintro e wq ⟨rfl, rfl⟩
                go_wp2_with fail
                refine (hu _ K1).mono ?_
                rintro e w2 ⟨rfl, kn⟩
                have K2 := K1.then kn
                replace c0 := kn.cell c0 (by simp)
                replace c1 := kn.cell c1 (by simp)
                replace c2 := kn.cell c2 (by simp)
                replace c3 := kn.cell c3 (by simp)
                replace c4 := kn.cell c4 (by simp)
                replace c5 := kn.cell c5 (by simp)
                replace c6 := kn.cell c6 (by simp)
                replace c7 := kn.cell c7 (by simp)
                replace c8 := kn.cell c8 (by simp)
                replace c9 := kn.cell c9 (by simp)
                replace c10 := kn.cell c10 (by simp)
                clear kn
                have RK := @hideH _ K2
                go_wp2
                go_ret
                exact ⟨by rw [eQ.out]; rfl, RK.out⟩
            · have eQ := @hideH _ (show Q = false by rw [HQ.out]; exact bl_f (fun hR => by have q := HRI.out.1 hR; exact h5 (q.2.2.2.1)))
              have e_next : (next != 0) = true := by simp [h5]
              have g_next : (next == 0) = false := by simp [h5]
              obtain ⟨w1, hw1⟩ : ∃ w1, w1 = w.alloc (.cells #[.int .i64 6, .int .i64 birth, .int .i64 prev, .int .i64 0, .int .i64 page, .int .i64 frm, .slice pb nb cb, .slice pa na ca, .int .i64 next, .slice pr 0 cr, .slice pd 0 cd] 26) := ⟨_, rfl⟩
              have K1 : Kept [] w w1 := by rw [hw1]; exact (Kept.refl [] w).alloc _
              have bR : Blk w1 w.heap.size 26 [.int .i64 6, .int .i64 birth, .int .i64 prev, .int .i64 0, .int .i64 page, .int .i64 frm, .slice pb nb cb, .slice pa na ca, .int .i64 next, .slice pr 0 cr, .slice pd 0 cd] := by rw [hw1]; exact Blk.new w _ _
              have c0 := bR.cell (j := 0) rfl
              have c1 := bR.cell (j := 1) rfl
              have c2 := bR.cell (j := 2) rfl
              have c3 := bR.cell (j := 3) rfl
              have c4 := bR.cell (j := 4) rfl
              have c5 := bR.cell (j := 5) rfl
              have c6 := bR.cell (j := 6) rfl
              have c7 := bR.cell (j := 7) rfl
              have c8 := bR.cell (j := 8) rfl
              have c9 := bR.cell (j := 9) rfl
              have c10 := bR.cell (j := 10) rfl
              clear bR
              go_enter Try.func39, Try.ntmps39
              go_upto_region 1 with fail
              rw [← hw1]
              clear hw1
              go_wp2_with fail
              refine (hb _).mono ?_
              rintro e wq ⟨rfl, rfl⟩
              go_wp2_with fail
              refine (hp _).mono ?_
              rintro e wq ⟨rfl, rfl⟩
              have RK := @hideH _ K1
              go_wp2
              go_ret
              exact ⟨by rw [eQ.out]; rfl, RK.out⟩
          · have eQ := @hideH _ (show Q = false by rw [HQ.out]; exact bl_f (fun hR => by have q := HRI.out.1 hR; exact h4 (by rw [HND.out, q.2.2.1.2]; rfl)))
            have g_nd : 0 < nd := by omega
            have e_nd : ((nd : Int) == 0) = false := by simp [h4]
            obtain ⟨w1, hw1⟩ : ∃ w1, w1 = w.alloc (.cells #[.int .i64 6, .int .i64 birth, .int .i64 prev, .int .i64 0, .int .i64 page, .int .i64 frm, .slice pb nb cb, .slice pa na ca, .int .i64 next, .slice pr 0 cr, .slice pd nd cd] 26) := ⟨_, rfl⟩
            have K1 : Kept [] w w1 := by rw [hw1]; exact (Kept.refl [] w).alloc _
            have bR : Blk w1 w.heap.size 26 [.int .i64 6, .int .i64 birth, .int .i64 prev, .int .i64 0, .int .i64 page, .int .i64 frm, .slice pb nb cb, .slice pa na ca, .int .i64 next, .slice pr 0 cr, .slice pd nd cd] := by rw [hw1]; exact Blk.new w _ _
            have c0 := bR.cell (j := 0) rfl
            have c1 := bR.cell (j := 1) rfl
            have c2 := bR.cell (j := 2) rfl
            have c3 := bR.cell (j := 3) rfl
            have c4 := bR.cell (j := 4) rfl
            have c5 := bR.cell (j := 5) rfl
            have c6 := bR.cell (j := 6) rfl
            have c7 := bR.cell (j := 7) rfl
            have c8 := bR.cell (j := 8) rfl
            have c9 := bR.cell (j := 9) rfl
            have c10 := bR.cell (j := 10) rfl
            clear bR
            go_enter Try.func39, Try.ntmps39
            go_upto_region 1 with fail
            rw [← hw1]
            clear hw1
            go_wp2_with fail
            refine (hb _).mono ?_
            rintro e wq ⟨rfl, rfl⟩
            go_wp2_with fail
            refine (hp _).mono ?_
            rintro e wq ⟨rfl, rfl⟩
            have RK := @hideH _ K1
            go_wp2
            go_ret
            exact ⟨by rw [eQ.out]; rfl, RK.out⟩
        · have eQ := @hideH _ (show Q = false by rw [HQ.out]; exact bl_f (fun hR => by have q := HRI.out.1 hR; exact h3 (by rw [HNR.out, q.2.2.1.1]; rfl)))
          have g_nr : 0 < nr := by omega
          have e_nr : ((nr : Int) == 0) = false := by simp [h3]
          obtain ⟨w1, hw1⟩ : ∃ w1, w1 = w.alloc (.cells #[.int .i64 6, .int .i64 birth, .int .i64 prev, .int .i64 0, .int .i64 page, .int .i64 frm, .slice pb nb cb, .slice pa na ca, .int .i64 next, .slice pr nr cr, .slice pd nd cd] 26) := ⟨_, rfl⟩
          have K1 : Kept [] w w1 := by rw [hw1]; exact (Kept.refl [] w).alloc _
          have bR : Blk w1 w.heap.size 26 [.int .i64 6, .int .i64 birth, .int .i64 prev, .int .i64 0, .int .i64 page, .int .i64 frm, .slice pb nb cb, .slice pa na ca, .int .i64 next, .slice pr nr cr, .slice pd nd cd] := by rw [hw1]; exact Blk.new w _ _
          have c0 := bR.cell (j := 0) rfl
          have c1 := bR.cell (j := 1) rfl
          have c2 := bR.cell (j := 2) rfl
          have c3 := bR.cell (j := 3) rfl
          have c4 := bR.cell (j := 4) rfl
          have c5 := bR.cell (j := 5) rfl
          have c6 := bR.cell (j := 6) rfl
          have c7 := bR.cell (j := 7) rfl
          have c8 := bR.cell (j := 8) rfl
          have c9 := bR.cell (j := 9) rfl
          have c10 := bR.cell (j := 10) rfl
          clear bR
          go_enter Try.func39, Try.ntmps39
          go_upto_region 1 with fail
          rw [← hw1]
          clear hw1
          go_wp2_with fail
          refine (hb _).mono ?_
          rintro e wq ⟨rfl, rfl⟩
          go_wp2_with fail
          refine (hp _).mono ?_
          rintro e wq ⟨rfl, rfl⟩
          have RK := @hideH _ K1
          go_wp2
          go_ret
          exact ⟨by rw [eQ.out]; rfl, RK.out⟩
      · have eQ := @hideH _ (show Q = false by rw [HQ.out]; exact bl_f (fun hR => by have q := HRI.out.1 hR; exact h2 (q.2.1)))
        have e_id : (id != 0) = true := by simp [h2]
        have g_id : (id == 0) = false := by simp [h2]
        obtain ⟨w1, hw1⟩ : ∃ w1, w1 = w.alloc (.cells #[.int .i64 6, .int .i64 birth, .int .i64 prev, .int .i64 id, .int .i64 page, .int .i64 frm, .slice pb nb cb, .slice pa na ca, .int .i64 next, .slice pr nr cr, .slice pd nd cd] 26) := ⟨_, rfl⟩
        have K1 : Kept [] w w1 := by rw [hw1]; exact (Kept.refl [] w).alloc _
        have bR : Blk w1 w.heap.size 26 [.int .i64 6, .int .i64 birth, .int .i64 prev, .int .i64 id, .int .i64 page, .int .i64 frm, .slice pb nb cb, .slice pa na ca, .int .i64 next, .slice pr nr cr, .slice pd nd cd] := by rw [hw1]; exact Blk.new w _ _
        have c0 := bR.cell (j := 0) rfl
        have c1 := bR.cell (j := 1) rfl
        have c2 := bR.cell (j := 2) rfl
        have c3 := bR.cell (j := 3) rfl
        have c4 := bR.cell (j := 4) rfl
        have c5 := bR.cell (j := 5) rfl
        have c6 := bR.cell (j := 6) rfl
        have c7 := bR.cell (j := 7) rfl
        have c8 := bR.cell (j := 8) rfl
        have c9 := bR.cell (j := 9) rfl
        have c10 := bR.cell (j := 10) rfl
        clear bR
        go_enter Try.func39, Try.ntmps39
        go_upto_region 1 with fail
        rw [← hw1]
        clear hw1
        go_wp2_with fail
        refine (hb _).mono ?_
        rintro e wq ⟨rfl, rfl⟩
        go_wp2_with fail
        refine (hp _).mono ?_
        rintro e wq ⟨rfl, rfl⟩
        have RK := @hideH _ K1
        go_wp2
        go_ret
        exact ⟨by rw [eQ.out]; rfl, RK.out⟩
    · have eQ := @hideH _ (show Q = false by rw [HQ.out]; exact bl_f (fun hR => by have q := HRI.out.1 hR; exact h1 (q.1.2)))
      simp only [bl_f h1] at hp
      clear h1
      obtain ⟨w1, hw1⟩ : ∃ w1, w1 = w.alloc (.cells #[.int .i64 6, .int .i64 birth, .int .i64 prev, .int .i64 id, .int .i64 page, .int .i64 frm, .slice pb nb cb, .slice pa na ca, .int .i64 next, .slice pr nr cr, .slice pd nd cd] 26) := ⟨_, rfl⟩
      have K1 : Kept [] w w1 := by rw [hw1]; exact (Kept.refl [] w).alloc _
      have bR : Blk w1 w.heap.size 26 [.int .i64 6, .int .i64 birth, .int .i64 prev, .int .i64 id, .int .i64 page, .int .i64 frm, .slice pb nb cb, .slice pa na ca, .int .i64 next, .slice pr nr cr, .slice pd nd cd] := by rw [hw1]; exact Blk.new w _ _
      have c0 := bR.cell (j := 0) rfl
      have c1 := bR.cell (j := 1) rfl
      have c2 := bR.cell (j := 2) rfl
      have c3 := bR.cell (j := 3) rfl
      have c4 := bR.cell (j := 4) rfl
      have c5 := bR.cell (j := 5) rfl
      have c6 := bR.cell (j := 6) rfl
      have c7 := bR.cell (j := 7) rfl
      have c8 := bR.cell (j := 8) rfl
      have c9 := bR.cell (j := 9) rfl
      have c10 := bR.cell (j := 10) rfl
      clear bR
      go_enter Try.func39, Try.ntmps39
      go_upto_region 1 with fail
      rw [← hw1]
      clear hw1
      go_wp2_with fail
      refine (hb _).mono ?_
      rintro e wq ⟨rfl, rfl⟩
      go_wp2_with fail
      refine (hp _).mono ?_
      rintro e wq ⟨rfl, rfl⟩
      have RK := @hideH _ K1
      go_wp2
      go_ret
      exact ⟨by rw [eQ.out]; rfl, RK.out⟩
  · have eQ := @hideH _ (show Q = false by rw [HQ.out]; exact bl_f (fun hR => by have q := HRI.out.1 hR; exact h0 (q.1.1)))
    simp only [bl_f h0] at hb
    clear h0
    obtain ⟨w1, hw1⟩ : ∃ w1, w1 = w.alloc (.cells #[.int .i64 6, .int .i64 birth, .int .i64 prev, .int .i64 id, .int .i64 page, .int .i64 frm, .slice pb nb cb, .slice pa na ca, .int .i64 next, .slice pr nr cr, .slice pd nd cd] 26) := ⟨_, rfl⟩
    have K1 : Kept [] w w1 := by rw [hw1]; exact (Kept.refl [] w).alloc _
    have bR : Blk w1 w.heap.size 26 [.int .i64 6, .int .i64 birth, .int .i64 prev, .int .i64 id, .int .i64 page, .int .i64 frm, .slice pb nb cb, .slice pa na ca, .int .i64 next, .slice pr nr cr, .slice pd nd cd] := by rw [hw1]; exact Blk.new w _ _
    have c0 := bR.cell (j := 0) rfl
    have c1 := bR.cell (j := 1) rfl
    have c2 := bR.cell (j := 2) rfl
    have c3 := bR.cell (j := 3) rfl
    have c4 := bR.cell (j := 4) rfl
    have c5 := bR.cell (j := 5) rfl
    have c6 := bR.cell (j := 6) rfl
    have c7 := bR.cell (j := 7) rfl
    have c8 := bR.cell (j := 8) rfl
    have c9 := bR.cell (j := 9) rfl
    have c10 := bR.cell (j := 10) rfl
    clear bR
    go_enter Try.func39, Try.ntmps39
    go_upto_region 1 with fail
    rw [← hw1]
    clear hw1
    go_wp2_with fail
    refine (hb _).mono ?_
    rintro e wq ⟨rfl, rfl⟩
    have RK := @hideH _ K1
    go_wp2
    go_ret
    exact ⟨by rw [eQ.out]; rfl, RK.out⟩
end Go.Proofs.Ytebcmcmboomgfaa

