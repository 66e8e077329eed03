import Derived.Test.YtebcmcmboomgfaaRows
import Derived.Lib.BitFns
import Derived.Lib.Walk
import Derived.Lib.Small
import Derived.Test.YtebcmcmboomgfaaC1
/-
  OWN WORK (by mkrec3.py). The document's records (tidemarkref09): lists.
-/
namespace Go.Proofs.Ytebcmcmboomgfaa
open Go.RowKit
set_option linter.unusedVariables false
set_option linter.unusedSimpArgs false

theorem Cs.rowAt {w : World} {v : Value} {l : List RowR} (h : Cs w 5 v l.length (rcells l)) (hn : 0 < l.length) : ∃ b o c, v = .slice (some ⟨b, o, none⟩) l.length c ∧ ∀ (i : Nat) x, l[i]? = some x → w.cell? ⟨b, o + i * 5, none⟩ = some (.int .i64 x.birth) ∧ w.cell? ⟨b, o + i * 5 + 1, none⟩ = some (.int .i64 x.id) ∧ w.cell? ⟨b, o + i * 5 + 2, none⟩ = some (.int .i64 x.state) ∧ w.cell? ⟨b, o + i * 5 + 3, none⟩ = some (.int .i64 x.last) ∧ w.cell? ⟨b, o + i * 5 + 4, none⟩ = some (.int .i64 x.next) := by
  obtain ⟨b, o, c, e, hc⟩ := h.pos hn (by omega)
  refine ⟨b, o, c, e, fun i x hx => ?_⟩
  obtain ⟨h0, h1, h2, h3, h4⟩ := rcells_at hx
  exact ⟨hc _ _ h0, hc _ _ h1, hc _ _ h2, hc _ _ h3, hc _ _ h4⟩
theorem Cs.recAt {w : World} {v : Value} {l : List RecR} (h : Cs w 2 v l.length (dcells l)) (hn : 0 < l.length) : ∃ b o c, v = .slice (some ⟨b, o, none⟩) l.length c ∧ ∀ (i : Nat) x, l[i]? = some x → w.cell? ⟨b, o + i * 2, none⟩ = some (.int .i64 x.page) ∧ w.cell? ⟨b, o + i * 2 + 1, none⟩ = some (.int .i64 x.lsn) := by
  obtain ⟨b, o, c, e, hc⟩ := h.pos hn (by omega)
  refine ⟨b, o, c, e, fun i x hx => ?_⟩
  obtain ⟨h0, h1⟩ := dcells_at hx
  exact ⟨hc _ _ h0, hc _ _ h1⟩
/-- the first k rows are right, and rise -/
def rowsTo (l : List RowR) (k : Nat) : Prop := (∀ (i : Nat) x, i < k → l[i]? = some x → rowOk x) ∧ ∀ (i : Nat) x y, i + 1 < k → l[i]? = some x → l[i + 1]? = some y → x.birth < y.birth
def recsTo (l : List RecR) (k : Nat) : Prop := (∀ (i : Nat) x, i < k → l[i]? = some x → recOk x) ∧ ∀ (i : Nat) x y, i + 1 < k → l[i]? = some x → l[i + 1]? = some y → x.page < y.page
theorem rowsTo.all {l : List RowR} (h : rowsTo l l.length) : (∀ x ∈ l, rowOk x) ∧ ∀ (i : Nat) x y, l[i]? = some x → l[i + 1]? = some y → x.birth < y.birth :=
  ⟨fun x hx => by obtain ⟨i, hi⟩ := List.getElem?_of_mem hx; exact h.1 i x (List.getElem?_eq_some_iff.1 hi).1 hi, fun i x y hx hy => h.2 i x y (List.getElem?_eq_some_iff.1 hy).1 hx hy⟩
theorem recsTo.all {l : List RecR} (h : recsTo l l.length) : (∀ x ∈ l, recOk x) ∧ ∀ (i : Nat) x y, l[i]? = some x → l[i + 1]? = some y → x.page < y.page :=
  ⟨fun x hx => by obtain ⟨i, hi⟩ := List.getElem?_of_mem hx; exact h.1 i x (List.getElem?_eq_some_iff.1 hi).1 hi, fun i x y hx hy => h.2 i x y (List.getElem?_eq_some_iff.1 hy).1 hx hy⟩
theorem rowsTo.next {l : List RowR} {k : Nat} {x : RowR} (h : rowsTo l k) (hx : l[k]? = some x) (ho : rowOk x) (hr : ∀ j y, k = j + 1 → l[j]? = some y → y.birth < x.birth) : rowsTo l (k + 1) := by
  refine ⟨fun i y hi hy => ?_, fun i y z hi hy hz => ?_⟩
  · by_cases c : i = k
    · subst c; rw [hx] at hy; cases hy; exact ho
    · exact h.1 i y (by omega) hy
  · by_cases c : i + 1 = k
    · subst c; rw [hx] at hz; cases hz; exact hr i y rfl hy
    · exact h.2 i y z (by omega) hy hz
theorem recsTo.next {l : List RecR} {k : Nat} {x : RecR} (h : recsTo l k) (hx : l[k]? = some x) (ho : recOk x) (hr : ∀ j y, k = j + 1 → l[j]? = some y → y.page < x.page) : recsTo l (k + 1) := by
  refine ⟨fun i y hi hy => ?_, fun i y z hi hy hz => ?_⟩
  · by_cases c : i = k
    · subst c; rw [hx] at hy; cases hy; exact ho
    · exact h.1 i y (by omega) hy
  · by_cases c : i + 1 = k
    · subst c; rw [hx] at hz; cases hz; exact hr i y rfl hy
    · exact h.2 i y z (by omega) hy hz

set_option maxRecDepth 20000 in
set_option maxHeartbeats 6400000 in
theorem rLists (V : RV) (r : Rcd) (w : World) (h : SeeR w V r) : Calls Try.prog 61 #[r.agg V] w fun e w' => e = .returned (.bool (bl (listsOk r))) ∧ Kept [] w w' := by
  haveI HNE : ∀ w2, Nonempty (Calm w2) := calmNe
  obtain ⟨pb, cb, pa, ca, pr, cr, pd, cd, rfl⟩ := h.shapes
  have F : ∀ {P : Prop}, (listsOk r → P) → ¬ P → bl (listsOk r) = false := fun h1 h2 => bl_f fun h => h2 (h1 h)
  have hT := fun (h : listsOk r) => bl_t h
  have hLO : listsOk r = listsOk r := rfl
  obtain ⟨kind, birth, prev, id, page, frm, before, after, next, rows, dirty⟩ := r
  have HR := @hideH _ h.rows
  have HD := @hideH _ h.dirty
  clear h
  unfold Rcd.agg
  dsimp only at HR HD ⊢
  obtain ⟨R, hRd⟩ : ∃ R : Rcd, R = ⟨kind, birth, prev, id, page, frm, before, after, next, rows, dirty⟩ := ⟨_, rfl⟩
  rw [← hRd] at F hT ⊢
  have eR : R.rows = rows ∧ R.dirty = dirty := by rw [hRd]; exact ⟨rfl, rfl⟩
  have HEQ := @hideH _ eR
  have HT := @hideH _ hT
  clear hLO hRd eR hT
  obtain ⟨Q, hQ⟩ : ∃ Q, Q = bl (listsOk R) := ⟨_, rfl⟩
  have HQ := @hideH _ hQ
  have HF1 := @hideH _ (show ¬ (rows.length ≤ 8 ∧ dirty.length ≤ 16) → Q = false from fun h => by rw [hQ]; exact F (fun q => by have := q.1; rw [HEQ.out.1, HEQ.out.2] at this; exact this) h)
  have HF2 := @hideH _ (show ∀ (i : Nat) x, rows[i]? = some x → ¬ rowOk x → Q = false from fun i x hx h => by rw [hQ]; exact F (fun q => by have := q.2.1.1; rw [HEQ.out.1] at this; exact this x (List.mem_of_getElem? hx)) h)
  have HF3 := @hideH _ (show ∀ (i : Nat) x y, rows[i]? = some x → rows[i + 1]? = some y → ¬ x.birth < y.birth → Q = false from fun i x y hx hy h => by rw [hQ]; exact F (fun q => by have := q.2.1.2; rw [HEQ.out.1] at this; exact this i x y hx hy) h)
  have HF4 := @hideH _ (show ∀ (i : Nat) x, dirty[i]? = some x → ¬ recOk x → Q = false from fun i x hx h => by rw [hQ]; exact F (fun q => by have := q.2.2.1; rw [HEQ.out.2] at this; exact this x (List.mem_of_getElem? hx)) h)
  have HF5 := @hideH _ (show ∀ (i : Nat) x y, dirty[i]? = some x → dirty[i + 1]? = some y → ¬ x.page < y.page → Q = false from fun i x y hx hy h => by rw [hQ]; exact F (fun q => by have := q.2.2.2; rw [HEQ.out.2] at this; exact this i x y hx hy) h)
  have HF6 := @hideH _ (show rows.length ≤ 8 ∧ dirty.length ≤ 16 → rowsTo rows rows.length → recsTo dirty dirty.length → Q = true from fun h1 h2 h3 => by rw [hQ]; exact HT.out (by refine ⟨by rw [HEQ.out.1, HEQ.out.2]; exact h1, by rw [HEQ.out.1]; exact h2.all, ?_⟩; rw [HEQ.out.2]; exact h3.all))
  rw [← hQ]
  clear hQ F HT
  obtain ⟨w1, hw1⟩ : ∃ w1, w1 = w.alloc (.cells #[.int .i64 kind, .int .i64 birth, .int .i64 prev, .int .i64 id, .int .i64 page, .int .i64 frm, .slice pb before.length cb, .slice pa after.length ca, .int .i64 next, .slice pr rows.length cr, .slice pd dirty.length cd] 26) := ⟨_, rfl⟩
  have k1 : Kept [] w w1 := by rw [hw1]; exact (Kept.refl [] w).alloc _
  have bR : Blk w1 w.heap.size 26 [.int .i64 kind, .int .i64 birth, .int .i64 prev, .int .i64 id, .int .i64 page, .int .i64 frm, .slice pb before.length cb, .slice pa after.length ca, .int .i64 next, .slice pr rows.length cr, .slice pd dirty.length cd] := by rw [hw1]; exact Blk.new w _ _
  have HW1 := @hideH _ hw1
  have HB := @hideH _ bR
  have K1 := @hideH _ k1
  have c9 := bR.cell (j := 9) rfl
  have c10 := bR.cell (j := 10) rfl
  clear bR k1
  by_cases hs : rows.length ≤ 8 ∧ dirty.length ≤ 16
  rotate_left
  · have eQ := @hideH _ (HF1.out hs)
    by_cases h8 : (8 : Int) < (rows.length : Int)
    · go_enter Try.func61, Try.ntmps61
      go_upto_region 1 with fail
      rw [← HW1.out]
      clear hw1
      go_wp2
      go_ret
      exact ⟨by rw [eQ.out]; rfl, K1.out⟩
    · have h16 : (16 : Int) < (dirty.length : Int) := by omega
      go_enter Try.func61, Try.ntmps61
      go_upto_region 1 with fail
      rw [← HW1.out]
      clear hw1
      go_wp2
      go_ret
      exact ⟨by rw [eQ.out]; rfl, K1.out⟩
  have h8 : ¬ (8 : Int) < (rows.length : Int) := by omega
  have h16 : ¬ (16 : Int) < (dirty.length : Int) := by omega
  have HS := @hideH _ hs
  clear hs
  go_enter Try.func61, Try.ntmps61
  go_upto_region 1 with fail
  rw [← HW1.out]
  clear hw1 HW1
  go_wp2
  go_loopw [3] (fun vi wr => ∃ k : Nat, k ≤ rows.length ∧ vi = .int .i64 k ∧ Hid (rowsTo rows k ∧ Kept [] w1 wr)) (fun vi _ => rows.length - (intOf vi).toNat)
  case atStart => exact ⟨0, Nat.zero_le _, rfl, ⟨fun i x hi => by omega, fun i x y hi => by omega⟩, Kept.refl [] _⟩
  case round =>
    obtain ⟨k, hk, rfl, hh⟩ := hrel
    have d9 := hh.out.2.cell c9 (by simp)
    have d10 := hh.out.2.cell c10 (by simp)
    by_cases hkl : k < rows.length
    · have hkl' : (k : Int) < (rows.length : Int) := by omega
      have hk0 : (0 : Int) ≤ (k : Int) := by omega
      have wk : IntKind.i64.wrap ((k : Int) + 1) = (k : Int) + 1 := wrap_i64_of (by omega) (by have := HS.out; omega)
      obtain ⟨x, hx⟩ : ∃ x, rows[k]? = some x := ⟨_, List.getElem?_eq_getElem hkl⟩
      obtain ⟨b, o, c, ev, hc⟩ := ((HR.out.kept K1.out).kept hh.out.2).rowAt (by omega)
      cases ev
      obtain ⟨x0, x1, x2, x3, x4⟩ := hc k x hx
      have hrr := fun w => rRow x w
      have kx : Kept [] wr wr.drew := (Kept.refl [] wr).drew
      have KR := @hideH _ (Kept.refl [] wr)
      by_cases hok : rowOk x
      · have HOK := @hideH _ hok
        simp only [bl_t hok] at hrr
        clear hok
        by_cases hz : k = 0
        · have HZ := @hideH _ hz
          have kpos : ¬ 0 < k := by omega
          have REL := @hideH _ (hh.out.1.next hx HOK.out (fun j y e => by omega))
          have HK := @hideH _ hh.out.2
          clear hh hc hx hz
          go_upto_region 6 with fail
          have s_d9 := fun (s : Calm wr) => s.kept.cell d9 (by simp)
          have s_x0 := fun (s : Calm wr) => s.kept.cell x0 (by simp)
          have s_x1 := fun (s : Calm wr) => s.kept.cell x1 (by simp)
          have s_x2 := fun (s : Calm wr) => s.kept.cell x2 (by simp)
          have s_x3 := fun (s : Calm wr) => s.kept.cell x3 (by simp)
          have s_x4 := fun (s : Calm wr) => s.kept.cell x4 (by simp)
          clear kx d9 x0 x1 x2 x3 x4
          refine wp_region_calm KR.out (by kernel_rfl) (by kernel_rfl) ?_
          repeat (go_big_quiet_step ((go_at_call 78; exact Calm.call hrr _)))
          refine wpQuiet_nil ?_
          intro _ hw'
          obtain ⟨sq, hw''⟩ := hw'
          subst hw''
          have ks := sq.kept
          generalize sq.at = wx at ks ⊢
          clear sq
          have kx := @hideH _ ks
          clear ks s_d9 s_x0 s_x1 s_x2 s_x3 s_x4
          have RK := @hideH _ (And.intro REL.out (HK.out.then kx.out))
          clear kx HK d10
          go_wp2
          go_roundw
          case rel => exact ⟨k + 1, by omega, by go_num, RK⟩
          case measure => simp [intOf]; omega
        · obtain ⟨y, hy⟩ : ∃ y, rows[k - 1]? = some y := ⟨_, List.getElem?_eq_getElem (by omega)⟩
          have y0 := (hc (k - 1) y hy).1
          have kpos : 0 < k := by omega
          have wk1 : IntKind.i64.wrap ((k : Int) - 1) = ((k - 1 : Nat) : Int) := by rw [show (k : Int) - 1 = ((k - 1 : Nat) : Int) by omega]; exact wrap_i64_of (by omega) (by omega)
          have kb1 : ((k - 1 : Nat) : Int) < (rows.length : Int) := by omega
          have kb0 : (0 : Int) ≤ ((k - 1 : Nat) : Int) := by omega
          have HK := @hideH _ hh.out.2
          by_cases hlt : y.birth < x.birth
          · have hge : ¬ x.birth ≤ y.birth := by omega
            have REL := @hideH _ (hh.out.1.next hx HOK.out (fun j y' e hy' => by subst e; simp at hy; rw [hy] at hy'; cases hy'; exact hlt))
            clear hh hc hx hy
            go_upto_region 6 with fail
            have s_d9 := fun (s : Calm wr) => s.kept.cell d9 (by simp)
            have s_x0 := fun (s : Calm wr) => s.kept.cell x0 (by simp)
            have s_x1 := fun (s : Calm wr) => s.kept.cell x1 (by simp)
            have s_x2 := fun (s : Calm wr) => s.kept.cell x2 (by simp)
            have s_x3 := fun (s : Calm wr) => s.kept.cell x3 (by simp)
            have s_x4 := fun (s : Calm wr) => s.kept.cell x4 (by simp)
            have s_y0 := fun (s : Calm wr) => s.kept.cell y0 (by simp)
            clear kx d9 x0 x1 x2 x3 x4 y0
            refine wp_region_calm KR.out (by kernel_rfl) (by kernel_rfl) ?_
            repeat (go_big_quiet_step ((go_at_call 78; exact Calm.call hrr _)))
            refine wpQuiet_nil ?_
            intro _ hw'
            obtain ⟨sq, hw''⟩ := hw'
            subst hw''
            have ks := sq.kept
            generalize sq.at = wx at ks ⊢
            clear sq
            have kx := @hideH _ ks
            clear ks s_d9 s_x0 s_x1 s_x2 s_x3 s_x4 s_y0
            have RK := @hideH _ (And.intro REL.out (HK.out.then kx.out))
            clear kx HK d10
            go_wp2
            go_roundw
            case rel => exact ⟨k + 1, by omega, by go_num, RK⟩
            case measure => simp [intOf]; omega
          · have hge : x.birth ≤ y.birth := by omega
            have eQ := @hideH _ (HF3.out (k - 1) y x hy (by rw [show k - 1 + 1 = k by omega]; exact hx) (by first | exact hge | exact hlt))
            clear hh hc hx hy
            go_upto_region 6 with fail
            have s_d9 := fun (s : Calm wr) => s.kept.cell d9 (by simp)
            have s_x0 := fun (s : Calm wr) => s.kept.cell x0 (by simp)
            have s_x1 := fun (s : Calm wr) => s.kept.cell x1 (by simp)
            have s_x2 := fun (s : Calm wr) => s.kept.cell x2 (by simp)
            have s_x3 := fun (s : Calm wr) => s.kept.cell x3 (by simp)
            have s_x4 := fun (s : Calm wr) => s.kept.cell x4 (by simp)
            have s_y0 := fun (s : Calm wr) => s.kept.cell y0 (by simp)
            clear kx d9 x0 x1 x2 x3 x4 y0
            refine wp_region_calm KR.out (by kernel_rfl) (by kernel_rfl) ?_
            repeat (go_big_quiet_step ((go_at_call 78; exact Calm.call hrr _)))
            refine wpQuiet_nil ?_
            intro _ hw'
            obtain ⟨sq, hw''⟩ := hw'
            subst hw''
            have ks := sq.kept
            generalize sq.at = wx at ks ⊢
            clear sq
            have kx := @hideH _ ks
            clear ks s_d9 s_x0 s_x1 s_x2 s_x3 s_x4 s_y0
            have RK := @hideH _ (K1.out.then (HK.out.then kx.out))
            clear kx HK d10
            go_wp2
            go_ret
            exact ⟨by rw [eQ.out]; rfl, RK.out⟩
      · have eQ := @hideH _ (HF2.out k x hx hok)
        simp only [bl_f hok] at hrr
        have HK := @hideH _ hh.out.2
        clear hok hh hc hx
        go_upto_region 6 with fail
        have s_d9 := fun (s : Calm wr) => s.kept.cell d9 (by simp)
        have s_x0 := fun (s : Calm wr) => s.kept.cell x0 (by simp)
        have s_x1 := fun (s : Calm wr) => s.kept.cell x1 (by simp)
        have s_x2 := fun (s : Calm wr) => s.kept.cell x2 (by simp)
        have s_x3 := fun (s : Calm wr) => s.kept.cell x3 (by simp)
        have s_x4 := fun (s : Calm wr) => s.kept.cell x4 (by simp)
        clear kx d9 x0 x1 x2 x3 x4
        refine wp_region_calm KR.out (by kernel_rfl) (by kernel_rfl) ?_
        repeat (go_big_quiet_step ((go_at_call 78; exact Calm.call hrr _)))
        refine wpQuiet_nil ?_
        intro _ hw'
        obtain ⟨sq, hw''⟩ := hw'
        subst hw''
        have ks := sq.kept
        generalize sq.at = wx at ks ⊢
        clear sq
        have kx := @hideH _ ks
        clear ks s_d9 s_x0 s_x1 s_x2 s_x3 s_x4
        have RK := @hideH _ (K1.out.then (HK.out.then kx.out))
        clear kx HK d10
        go_wp2
        go_ret
        exact ⟨by rw [eQ.out]; rfl, RK.out⟩
    · have hkl' : ¬ (k : Int) < (rows.length : Int) := by omega
      have hke : k = rows.length := by omega
      have H1 := @hideH _ (show rowsTo rows rows.length ∧ Kept [] w1 wr from ⟨hke ▸ hh.out.1, hh.out.2⟩)
      obtain ⟨wo, rfl⟩ : ∃ wo, wo = wr := ⟨_, rfl⟩
      clear hh hke
      go_wp2
      go_loopw [4] (fun vi wr => ∃ q : Nat, q ≤ dirty.length ∧ vi = .int .i64 q ∧ Hid (recsTo dirty q ∧ Kept [] w1 wr)) (fun vi _ => dirty.length - (intOf vi).toNat)
      case atStart => exact ⟨0, Nat.zero_le _, rfl, ⟨fun i x hi => by omega, fun i x y hi => by omega⟩, H1.out.2⟩
      case round =>
        clear d10 d9
        obtain ⟨q, hq, rfl, hh⟩ := hrel
        have d10 := hh.out.2.cell c10 (by simp)
        by_cases hql : q < dirty.length
        · have hql' : (q : Int) < (dirty.length : Int) := by omega
          have hq0 : (0 : Int) ≤ (q : Int) := by omega
          have wq : IntKind.i64.wrap ((q : Int) + 1) = (q : Int) + 1 := wrap_i64_of (by omega) (by have := HS.out; omega)
          obtain ⟨x, hx⟩ : ∃ x, dirty[q]? = some x := ⟨_, List.getElem?_eq_getElem hql⟩
          obtain ⟨b, o, c, ev, hc⟩ := ((HD.out.kept K1.out).kept hh.out.2).recAt (by omega)
          cases ev
          obtain ⟨x0, x1⟩ := hc q x hx
          obtain ⟨pg, ln⟩ := x
          simp only at x0 x1
          obtain ⟨wd, hwd⟩ : ∃ wd, wd = wr.alloc (.cells #[.int .i64 pg, .int .i64 ln] 68) := ⟨_, rfl⟩
          have kd : Kept [] wr wd := by rw [hwd]; exact (Kept.refl [] wr).alloc _
          have bd : Blk wd wr.heap.size 68 [.int .i64 pg, .int .i64 ln] := by rw [hwd]; exact Blk.new wr _ _
          have z0 := bd.cell (j := 0) rfl
          have z1 := bd.cell (j := 1) rfl
          have e10 := kd.cell d10 (by simp)
          have HWD := @hideH _ hwd
          have HK := @hideH _ (hh.out.2.then kd)
          have HX := @hideH _ hx
          have HC := @hideH _ hc
          have H2 := @hideH _ hh.out.1
          have KD := @hideH _ kd
          have hrl : ∀ w, Calls Try.prog 60 #[.int .i64 ln] w fun e w' => e = .returned (.bool (bl (lsnOk ln))) ∧ Kept [] w w' := fun w => (rIsLsn ln w).mono (by rintro e w' ⟨rfl, rfl⟩; exact ⟨rfl, Kept.refl [] _⟩)
          have KR := @hideH _ (Kept.refl [] wd)
          clear hh hc hx kd bd
          go_upto_region 12 with fail
          rw [← hwd]
          clear hwd x0 x1 d10
          by_cases h0 : pg < 0
          · have eQ := @hideH _ (HF4.out q _ HX.out (fun h => by have := h.1.1; simp only at this; omega))
            have s_z0 := fun (s : Calm wd) => s.kept.cell z0 (by simp)
            have s_z1 := fun (s : Calm wd) => s.kept.cell z1 (by simp)
            have s_e10 := fun (s : Calm wd) => s.kept.cell e10 (by simp)
            clear z0 z1 e10
            refine wp_region_calm KR.out (by kernel_rfl) (by kernel_rfl) ?_
            repeat (go_big_quiet_step ((go_at_call 60; exact Calm.call hrl _)))
            refine wpQuiet_nil ?_
            intro _ hw'
            obtain ⟨sq, hw''⟩ := hw'
            subst hw''
            have ks := sq.kept
            generalize sq.at = wx at ks ⊢
            clear sq
            have kx := @hideH _ ks
            clear ks s_z0 s_z1 s_e10 
            have RK := @hideH _ (K1.out.then (HK.out.then kx.out))
            clear kx HK
            go_wp2
            go_ret
            exact ⟨by rw [eQ.out]; rfl, RK.out⟩
          · by_cases h15 : 16 ≤ pg
            · have eQ := @hideH _ (HF4.out q _ HX.out (fun h => by have := h.1.2; simp only at this; omega))
              have s_z0 := fun (s : Calm wd) => s.kept.cell z0 (by simp)
              have s_z1 := fun (s : Calm wd) => s.kept.cell z1 (by simp)
              have s_e10 := fun (s : Calm wd) => s.kept.cell e10 (by simp)
              clear z0 z1 e10
              refine wp_region_calm KR.out (by kernel_rfl) (by kernel_rfl) ?_
              repeat (go_big_quiet_step ((go_at_call 60; exact Calm.call hrl _)))
              refine wpQuiet_nil ?_
              intro _ hw'
              obtain ⟨sq, hw''⟩ := hw'
              subst hw''
              have ks := sq.kept
              generalize sq.at = wx at ks ⊢
              clear sq
              have kx := @hideH _ ks
              clear ks s_z0 s_z1 s_e10 
              have RK := @hideH _ (K1.out.then (HK.out.then kx.out))
              clear kx HK
              go_wp2
              go_ret
              exact ⟨by rw [eQ.out]; rfl, RK.out⟩
            · by_cases hl : lsnOk ln
              · simp only [bl_t hl] at hrl
                have HOK := @hideH _ (show recOk ⟨pg, ln⟩ from ⟨⟨by show 0 ≤ pg; omega, by show pg < 16; omega⟩, hl⟩)
                clear hl
                by_cases hz : q = 0
                · have HZ := @hideH _ hz
                  have kpos : ¬ 0 < q := by omega
                  have REL := @hideH _ (H2.out.next HX.out HOK.out (fun j y e => by have := HZ.out; omega))
                  clear hz
                  have s_z0 := fun (s : Calm wd) => s.kept.cell z0 (by simp)
                  have s_z1 := fun (s : Calm wd) => s.kept.cell z1 (by simp)
                  have s_e10 := fun (s : Calm wd) => s.kept.cell e10 (by simp)
                  clear z0 z1 e10
                  refine wp_region_calm KR.out (by kernel_rfl) (by kernel_rfl) ?_
                  repeat (go_big_quiet_step ((go_at_call 60; exact Calm.call hrl _)))
                  refine wpQuiet_nil ?_
                  intro _ hw'
                  obtain ⟨sq, hw''⟩ := hw'
                  subst hw''
                  have ks := sq.kept
                  generalize sq.at = wx at ks ⊢
                  clear sq
                  have kx := @hideH _ ks
                  clear ks s_z0 s_z1 s_e10 
                  have RK := @hideH _ (And.intro REL.out (HK.out.then kx.out))
                  clear kx HK
                  go_wp2
                  go_roundw
                  case rel => exact ⟨q + 1, by omega, by go_num, RK⟩
                  case measure => simp [intOf]; omega
                · obtain ⟨y, hy⟩ : ∃ y, dirty[q - 1]? = some y := ⟨_, List.getElem?_eq_getElem (by omega)⟩
                  have y0 := KD.out.cell (HC.out (q - 1) y hy).1 (by simp)
                  have kpos : 0 < q := by omega
                  have wk1 : IntKind.i64.wrap ((q : Int) - 1) = ((q - 1 : Nat) : Int) := by rw [show (q : Int) - 1 = ((q - 1 : Nat) : Int) by omega]; exact wrap_i64_of (by omega) (by omega)
                  have kb1 : ((q - 1 : Nat) : Int) < (dirty.length : Int) := by omega
                  have kb0 : (0 : Int) ≤ ((q - 1 : Nat) : Int) := by omega
                  by_cases hlt : y.page < pg
                  · have hge : ¬ pg ≤ y.page := by omega
                    have REL := @hideH _ (H2.out.next HX.out HOK.out (fun j y' e hy' => by subst e; simp at hy; rw [hy] at hy'; cases hy'; exact hlt))
                    clear hy
                    have s_z0 := fun (s : Calm wd) => s.kept.cell z0 (by simp)
                    have s_z1 := fun (s : Calm wd) => s.kept.cell z1 (by simp)
                    have s_e10 := fun (s : Calm wd) => s.kept.cell e10 (by simp)
                    have s_y0 := fun (s : Calm wd) => s.kept.cell y0 (by simp)
                    clear z0 z1 e10 y0
                    refine wp_region_calm KR.out (by kernel_rfl) (by kernel_rfl) ?_
                    repeat (go_big_quiet_step ((go_at_call 60; exact Calm.call hrl _)))
                    refine wpQuiet_nil ?_
                    intro _ hw'
                    obtain ⟨sq, hw''⟩ := hw'
                    subst hw''
                    have ks := sq.kept
                    generalize sq.at = wx at ks ⊢
                    clear sq
                    have kx := @hideH _ ks
                    clear ks s_z0 s_z1 s_e10 s_y0 
                    have RK := @hideH _ (And.intro REL.out (HK.out.then kx.out))
                    clear kx HK
                    go_wp2
                    go_roundw
                    case rel => exact ⟨q + 1, by omega, by go_num, RK⟩
                    case measure => simp [intOf]; omega
                  · have hge : pg ≤ y.page := by omega
                    have eQ := @hideH _ (HF5.out (q - 1) y ⟨pg, ln⟩ hy (by rw [show q - 1 + 1 = q by omega]; exact HX.out) (by first | exact hge | exact hlt))
                    clear hy
                    have s_z0 := fun (s : Calm wd) => s.kept.cell z0 (by simp)
                    have s_z1 := fun (s : Calm wd) => s.kept.cell z1 (by simp)
                    have s_e10 := fun (s : Calm wd) => s.kept.cell e10 (by simp)
                    have s_y0 := fun (s : Calm wd) => s.kept.cell y0 (by simp)
                    clear z0 z1 e10 y0
                    refine wp_region_calm KR.out (by kernel_rfl) (by kernel_rfl) ?_
                    repeat (go_big_quiet_step ((go_at_call 60; exact Calm.call hrl _)))
                    refine wpQuiet_nil ?_
                    intro _ hw'
                    obtain ⟨sq, hw''⟩ := hw'
                    subst hw''
                    have ks := sq.kept
                    generalize sq.at = wx at ks ⊢
                    clear sq
                    have kx := @hideH _ ks
                    clear ks s_z0 s_z1 s_e10 s_y0 
                    have RK := @hideH _ (K1.out.then (HK.out.then kx.out))
                    clear kx HK
                    go_wp2
                    go_ret
                    exact ⟨by rw [eQ.out]; rfl, RK.out⟩
              · have eQ := @hideH _ (HF4.out q _ HX.out (fun h => hl h.2))
                simp only [bl_f hl] at hrl
                clear hl
                have s_z0 := fun (s : Calm wd) => s.kept.cell z0 (by simp)
                have s_z1 := fun (s : Calm wd) => s.kept.cell z1 (by simp)
                have s_e10 := fun (s : Calm wd) => s.kept.cell e10 (by simp)
                clear z0 z1 e10
                refine wp_region_calm KR.out (by kernel_rfl) (by kernel_rfl) ?_
                repeat (go_big_quiet_step ((go_at_call 60; exact Calm.call hrl _)))
                refine wpQuiet_nil ?_
                intro _ hw'
                obtain ⟨sq, hw''⟩ := hw'
                subst hw''
                have ks := sq.kept
                generalize sq.at = wx at ks ⊢
                clear sq
                have kx := @hideH _ ks
                clear ks s_z0 s_z1 s_e10 
                have RK := @hideH _ (K1.out.then (HK.out.then kx.out))
                clear kx HK
                go_wp2
                go_ret
                exact ⟨by rw [eQ.out]; rfl, RK.out⟩
        · have hql' : ¬ (q : Int) < (dirty.length : Int) := by omega
          have hqe : q = dirty.length := by omega
          have eQ := @hideH _ (HF6.out HS.out H1.out.1 (hqe ▸ hh.out.1))
          have RK := @hideH _ (K1.out.then hh.out.2)
          clear hh hqe
          go_wp2
          go_ret
          exact ⟨by rw [eQ.out]; rfl, RK.out⟩
end Go.Proofs.Ytebcmcmboomgfaa

/-
  OWN WORK (by mkrec7.py). The document's records (tidemarkref09): Same.
-/
namespace Go.Proofs.Ytebcmcmboomgfaa
open Go.RowKit
set_option linter.unusedVariables false
set_option linter.unusedSimpArgs false

theorem Bs.textR {w : World} {v : Value} {l : List UInt8} (h : Bs w v l) : (Go.convert 22 9 v).run Try.prog w = .ok (.string ⟨l.toArray⟩) w := h.convert Try.underlying22 Try.underlying5 Try.underlying9
set_option maxRecDepth 20000 in
set_option maxHeartbeats 12800000 in
theorem rSame (V1 V2 : RV) (r s : Rcd) (w : World) (g1 : SeeR w V1 r) (g2 : SeeR w V2 s) : Calls Try.prog 13 #[r.agg V1, s.agg V2] w fun e w' => e = .returned (.bool (bl (r = s))) ∧ Kept [] w w' := by
  haveI HNE : ∀ w2, Nonempty (Calm w2) := calmNe
  obtain ⟨Q, hQ⟩ : ∃ Q, Q = bl (r = s) := ⟨_, rfl⟩
  rw [← hQ]
  obtain ⟨pb1, cb1, pa1, ca1, pr1, cr1, pd1, cd1, rfl⟩ := g1.shapes
  obtain ⟨pb2, cb2, pa2, ca2, pr2, cr2, pd2, cd2, rfl⟩ := g2.shapes
  obtain ⟨kind1, birth1, prev1, id1, page1, frm1, before1, after1, next1, rows1, dirty1⟩ := r
  obtain ⟨kind2, birth2, prev2, id2, page2, frm2, before2, after2, next2, rows2, dirty2⟩ := s
  have HQ := @hideH _ hQ
  have G1 := @hideH _ g1
  have G2 := @hideH _ g2
  have HBB1 := @hideH _ g1.before
  have HBA1 := @hideH _ g1.after
  have HBB2 := @hideH _ g2.before
  have HBA2 := @hideH _ g2.after
  have HCR1 := @hideH _ g1.rows
  have HCD1 := @hideH _ g1.dirty
  have HCR2 := @hideH _ g2.rows
  have HCD2 := @hideH _ g2.dirty
  clear hQ g1 g2 G1 G2
  unfold Rcd.agg
  dsimp only at HBB1 HBA1 HBB2 HBA2 HCR1 HCD1 HCR2 HCD2 ⊢
  obtain ⟨nb1, hnb1⟩ : ∃ nb1, nb1 = before1.length := ⟨_, rfl⟩
  obtain ⟨na1, hna1⟩ : ∃ na1, na1 = after1.length := ⟨_, rfl⟩
  obtain ⟨nr1, hnr1⟩ : ∃ nr1, nr1 = rows1.length := ⟨_, rfl⟩
  obtain ⟨nd1, hnd1⟩ : ∃ nd1, nd1 = dirty1.length := ⟨_, rfl⟩
  obtain ⟨nb2, hnb2⟩ : ∃ nb2, nb2 = before2.length := ⟨_, rfl⟩
  obtain ⟨na2, hna2⟩ : ∃ na2, na2 = after2.length := ⟨_, rfl⟩
  obtain ⟨nr2, hnr2⟩ : ∃ nr2, nr2 = rows2.length := ⟨_, rfl⟩
  obtain ⟨nd2, hnd2⟩ : ∃ nd2, nd2 = dirty2.length := ⟨_, rfl⟩
  simp only [← hnb1, ← hna1, ← hnr1, ← hnd1, ← hnb2, ← hna2, ← hnr2, ← hnd2] at HBB1 HBA1 HBB2 HBA2 HCR1 HCD1 HCR2 HCD2 ⊢
  have HNB1 := @hideH _ hnb1
  clear hnb1
  have HNA1 := @hideH _ hna1
  clear hna1
  have HNR1 := @hideH _ hnr1
  clear hnr1
  have HND1 := @hideH _ hnd1
  clear hnd1
  have HNB2 := @hideH _ hnb2
  clear hnb2
  have HNA2 := @hideH _ hna2
  clear hna2
  have HNR2 := @hideH _ hnr2
  clear hnr2
  have HND2 := @hideH _ hnd2
  clear hnd2
  by_cases h_kind : kind1 = kind2
  rotate_left
  · have eQ := @hideH _ (show Q = false by rw [HQ.out]; exact bl_f (fun e => h_kind (by injection e)))
    have e1 : (kind1 != kind2) = true := by simp [h_kind]
    have e2 : (kind1 == kind2) = false := by simp [h_kind]
    clear h_kind
    obtain ⟨w1, hw1⟩ : ∃ w1, w1 = (w.alloc (.cells #[.int .i64 kind1, .int .i64 birth1, .int .i64 prev1, .int .i64 id1, .int .i64 page1, .int .i64 frm1, .slice pb1 nb1 cb1, .slice pa1 na1 ca1, .int .i64 next1, .slice pr1 nr1 cr1, .slice pd1 nd1 cd1] 26)).alloc (.cells #[.int .i64 kind2, .int .i64 birth2, .int .i64 prev2, .int .i64 id2, .int .i64 page2, .int .i64 frm2, .slice pb2 nb2 cb2, .slice pa2 na2 ca2, .int .i64 next2, .slice pr2 nr2 cr2, .slice pd2 nd2 cd2] 26) := ⟨_, rfl⟩
    have k1 : Kept [] w w1 := by rw [hw1]; exact ((Kept.refl [] w).alloc _).alloc _
    have b1 : Blk w1 w.heap.size 26 [.int .i64 kind1, .int .i64 birth1, .int .i64 prev1, .int .i64 id1, .int .i64 page1, .int .i64 frm1, .slice pb1 nb1 cb1, .slice pa1 na1 ca1, .int .i64 next1, .slice pr1 nr1 cr1, .slice pd1 nd1 cd1] := by rw [hw1]; exact (Blk.new w _ _).kept ((Kept.refl [] _).alloc _) (by simp)
    have b2 : Blk w1 (w.heap.size + 1) 26 [.int .i64 kind2, .int .i64 birth2, .int .i64 prev2, .int .i64 id2, .int .i64 page2, .int .i64 frm2, .slice pb2 nb2 cb2, .slice pa2 na2 ca2, .int .i64 next2, .slice pr2 nr2 cr2, .slice pd2 nd2 cd2] := by rw [hw1]; have := Blk.new (w.alloc (.cells #[.int .i64 kind1, .int .i64 birth1, .int .i64 prev1, .int .i64 id1, .int .i64 page1, .int .i64 frm1, .slice pb1 nb1 cb1, .slice pa1 na1 ca1, .int .i64 next1, .slice pr1 nr1 cr1, .slice pd1 nd1 cd1] 26)) 26 [.int .i64 kind2, .int .i64 birth2, .int .i64 prev2, .int .i64 id2, .int .i64 page2, .int .i64 frm2, .slice pb2 nb2 cb2, .slice pa2 na2 ca2, .int .i64 next2, .slice pr2 nr2 cr2, .slice pd2 nd2 cd2]; rwa [World.size_alloc] at this
    have K1 := @hideH _ k1
    have HB1 := @hideH _ b1
    have HB2 := @hideH _ b2
    have x0 := b1.cell (j := 0) rfl
    have y0 := b2.cell (j := 0) rfl
    have x1 := b1.cell (j := 1) rfl
    have y1 := b2.cell (j := 1) rfl
    have x2 := b1.cell (j := 2) rfl
    have y2 := b2.cell (j := 2) rfl
    have x3 := b1.cell (j := 3) rfl
    have y3 := b2.cell (j := 3) rfl
    have x4 := b1.cell (j := 4) rfl
    have y4 := b2.cell (j := 4) rfl
    have x5 := b1.cell (j := 5) rfl
    have y5 := b2.cell (j := 5) rfl
    have x6 := b1.cell (j := 6) rfl
    have y6 := b2.cell (j := 6) rfl
    have x7 := b1.cell (j := 7) rfl
    have y7 := b2.cell (j := 7) rfl
    have x8 := b1.cell (j := 8) rfl
    have y8 := b2.cell (j := 8) rfl
    have x9 := b1.cell (j := 9) rfl
    have y9 := b2.cell (j := 9) rfl
    have x10 := b1.cell (j := 10) rfl
    have y10 := b2.cell (j := 10) rfl
    have t1 := (HBB1.out.kept k1).textR
    have t2 := (HBB2.out.kept k1).textR
    have t3 := (HBA1.out.kept k1).textR
    have t4 := (HBA2.out.kept k1).textR
    clear b1 b2 k1
    go_enter Try.func13, Try.ntmps13
    go_upto_region 1 with fail
    rw [← hw1]
    clear hw1
    go_wp2
    go_ret
    exact ⟨by rw [eQ.out]; rfl, K1.out⟩
  subst h_kind
  by_cases h_birth : birth1 = birth2
  rotate_left
  · have eQ := @hideH _ (show Q = false by rw [HQ.out]; exact bl_f (fun e => h_birth (by injection e)))
    have e1 : (birth1 != birth2) = true := by simp [h_birth]
    have e2 : (birth1 == birth2) = false := by simp [h_birth]
    clear h_birth
    obtain ⟨w1, hw1⟩ : ∃ w1, w1 = (w.alloc (.cells #[.int .i64 kind1, .int .i64 birth1, .int .i64 prev1, .int .i64 id1, .int .i64 page1, .int .i64 frm1, .slice pb1 nb1 cb1, .slice pa1 na1 ca1, .int .i64 next1, .slice pr1 nr1 cr1, .slice pd1 nd1 cd1] 26)).alloc (.cells #[.int .i64 kind1, .int .i64 birth2, .int .i64 prev2, .int .i64 id2, .int .i64 page2, .int .i64 frm2, .slice pb2 nb2 cb2, .slice pa2 na2 ca2, .int .i64 next2, .slice pr2 nr2 cr2, .slice pd2 nd2 cd2] 26) := ⟨_, rfl⟩
    have k1 : Kept [] w w1 := by rw [hw1]; exact ((Kept.refl [] w).alloc _).alloc _
    have b1 : Blk w1 w.heap.size 26 [.int .i64 kind1, .int .i64 birth1, .int .i64 prev1, .int .i64 id1, .int .i64 page1, .int .i64 frm1, .slice pb1 nb1 cb1, .slice pa1 na1 ca1, .int .i64 next1, .slice pr1 nr1 cr1, .slice pd1 nd1 cd1] := by rw [hw1]; exact (Blk.new w _ _).kept ((Kept.refl [] _).alloc _) (by simp)
    have b2 : Blk w1 (w.heap.size + 1) 26 [.int .i64 kind1, .int .i64 birth2, .int .i64 prev2, .int .i64 id2, .int .i64 page2, .int .i64 frm2, .slice pb2 nb2 cb2, .slice pa2 na2 ca2, .int .i64 next2, .slice pr2 nr2 cr2, .slice pd2 nd2 cd2] := by rw [hw1]; have := Blk.new (w.alloc (.cells #[.int .i64 kind1, .int .i64 birth1, .int .i64 prev1, .int .i64 id1, .int .i64 page1, .int .i64 frm1, .slice pb1 nb1 cb1, .slice pa1 na1 ca1, .int .i64 next1, .slice pr1 nr1 cr1, .slice pd1 nd1 cd1] 26)) 26 [.int .i64 kind1, .int .i64 birth2, .int .i64 prev2, .int .i64 id2, .int .i64 page2, .int .i64 frm2, .slice pb2 nb2 cb2, .slice pa2 na2 ca2, .int .i64 next2, .slice pr2 nr2 cr2, .slice pd2 nd2 cd2]; rwa [World.size_alloc] at this
    have K1 := @hideH _ k1
    have HB1 := @hideH _ b1
    have HB2 := @hideH _ b2
    have x0 := b1.cell (j := 0) rfl
    have y0 := b2.cell (j := 0) rfl
    have x1 := b1.cell (j := 1) rfl
    have y1 := b2.cell (j := 1) rfl
    have x2 := b1.cell (j := 2) rfl
    have y2 := b2.cell (j := 2) rfl
    have x3 := b1.cell (j := 3) rfl
    have y3 := b2.cell (j := 3) rfl
    have x4 := b1.cell (j := 4) rfl
    have y4 := b2.cell (j := 4) rfl
    have x5 := b1.cell (j := 5) rfl
    have y5 := b2.cell (j := 5) rfl
    have x6 := b1.cell (j := 6) rfl
    have y6 := b2.cell (j := 6) rfl
    have x7 := b1.cell (j := 7) rfl
    have y7 := b2.cell (j := 7) rfl
    have x8 := b1.cell (j := 8) rfl
    have y8 := b2.cell (j := 8) rfl
    have x9 := b1.cell (j := 9) rfl
    have y9 := b2.cell (j := 9) rfl
    have x10 := b1.cell (j := 10) rfl
    have y10 := b2.cell (j := 10) rfl
    have t1 := (HBB1.out.kept k1).textR
    have t2 := (HBB2.out.kept k1).textR
    have t3 := (HBA1.out.kept k1).textR
    have t4 := (HBA2.out.kept k1).textR
    clear b1 b2 k1
    go_enter Try.func13, Try.ntmps13
    go_upto_region 1 with fail
    rw [← hw1]
    clear hw1
    go_wp2
    go_ret
    exact ⟨by rw [eQ.out]; rfl, K1.out⟩
  subst h_birth
  by_cases h_prev : prev1 = prev2
  rotate_left
  · have eQ := @hideH _ (show Q = false by rw [HQ.out]; exact bl_f (fun e => h_prev (by injection e)))
    have e1 : (prev1 != prev2) = true := by simp [h_prev]
    have e2 : (prev1 == prev2) = false := by simp [h_prev]
    clear h_prev
    obtain ⟨w1, hw1⟩ : ∃ w1, w1 = (w.alloc (.cells #[.int .i64 kind1, .int .i64 birth1, .int .i64 prev1, .int .i64 id1, .int .i64 page1, .int .i64 frm1, .slice pb1 nb1 cb1, .slice pa1 na1 ca1, .int .i64 next1, .slice pr1 nr1 cr1, .slice pd1 nd1 cd1] 26)).alloc (.cells #[.int .i64 kind1, .int .i64 birth1, .int .i64 prev2, .int .i64 id2, .int .i64 page2, .int .i64 frm2, .slice pb2 nb2 cb2, .slice pa2 na2 ca2, .int .i64 next2, .slice pr2 nr2 cr2, .slice pd2 nd2 cd2] 26) := ⟨_, rfl⟩
    have k1 : Kept [] w w1 := by rw [hw1]; exact ((Kept.refl [] w).alloc _).alloc _
    have b1 : Blk w1 w.heap.size 26 [.int .i64 kind1, .int .i64 birth1, .int .i64 prev1, .int .i64 id1, .int .i64 page1, .int .i64 frm1, .slice pb1 nb1 cb1, .slice pa1 na1 ca1, .int .i64 next1, .slice pr1 nr1 cr1, .slice pd1 nd1 cd1] := by rw [hw1]; exact (Blk.new w _ _).kept ((Kept.refl [] _).alloc _) (by simp)
    have b2 : Blk w1 (w.heap.size + 1) 26 [.int .i64 kind1, .int .i64 birth1, .int .i64 prev2, .int .i64 id2, .int .i64 page2, .int .i64 frm2, .slice pb2 nb2 cb2, .slice pa2 na2 ca2, .int .i64 next2, .slice pr2 nr2 cr2, .slice pd2 nd2 cd2] := by rw [hw1]; have := Blk.new (w.alloc (.cells #[.int .i64 kind1, .int .i64 birth1, .int .i64 prev1, .int .i64 id1, .int .i64 page1, .int .i64 frm1, .slice pb1 nb1 cb1, .slice pa1 na1 ca1, .int .i64 next1, .slice pr1 nr1 cr1, .slice pd1 nd1 cd1] 26)) 26 [.int .i64 kind1, .int .i64 birth1, .int .i64 prev2, .int .i64 id2, .int .i64 page2, .int .i64 frm2, .slice pb2 nb2 cb2, .slice pa2 na2 ca2, .int .i64 next2, .slice pr2 nr2 cr2, .slice pd2 nd2 cd2]; rwa [World.size_alloc] at this
    have K1 := @hideH _ k1
    have HB1 := @hideH _ b1
    have HB2 := @hideH _ b2
    have x0 := b1.cell (j := 0) rfl
    have y0 := b2.cell (j := 0) rfl
    have x1 := b1.cell (j := 1) rfl
    have y1 := b2.cell (j := 1) rfl
    have x2 := b1.cell (j := 2) rfl
    have y2 := b2.cell (j := 2) rfl
    have x3 := b1.cell (j := 3) rfl
    have y3 := b2.cell (j := 3) rfl
    have x4 := b1.cell (j := 4) rfl
    have y4 := b2.cell (j := 4) rfl
    have x5 := b1.cell (j := 5) rfl
    have y5 := b2.cell (j := 5) rfl
    have x6 := b1.cell (j := 6) rfl
    have y6 := b2.cell (j := 6) rfl
    have x7 := b1.cell (j := 7) rfl
    have y7 := b2.cell (j := 7) rfl
    have x8 := b1.cell (j := 8) rfl
    have y8 := b2.cell (j := 8) rfl
    have x9 := b1.cell (j := 9) rfl
    have y9 := b2.cell (j := 9) rfl
    have x10 := b1.cell (j := 10) rfl
    have y10 := b2.cell (j := 10) rfl
    have t1 := (HBB1.out.kept k1).textR
    have t2 := (HBB2.out.kept k1).textR
    have t3 := (HBA1.out.kept k1).textR
    have t4 := (HBA2.out.kept k1).textR
    clear b1 b2 k1
    go_enter Try.func13, Try.ntmps13
    go_upto_region 1 with fail
    rw [← hw1]
    clear hw1
    go_wp2
    go_ret
    exact ⟨by rw [eQ.out]; rfl, K1.out⟩
  subst h_prev
  by_cases h_id : id1 = id2
  rotate_left
  · have eQ := @hideH _ (show Q = false by rw [HQ.out]; exact bl_f (fun e => h_id (by injection e)))
    have e1 : (id1 != id2) = true := by simp [h_id]
    have e2 : (id1 == id2) = false := by simp [h_id]
    clear h_id
    obtain ⟨w1, hw1⟩ : ∃ w1, w1 = (w.alloc (.cells #[.int .i64 kind1, .int .i64 birth1, .int .i64 prev1, .int .i64 id1, .int .i64 page1, .int .i64 frm1, .slice pb1 nb1 cb1, .slice pa1 na1 ca1, .int .i64 next1, .slice pr1 nr1 cr1, .slice pd1 nd1 cd1] 26)).alloc (.cells #[.int .i64 kind1, .int .i64 birth1, .int .i64 prev1, .int .i64 id2, .int .i64 page2, .int .i64 frm2, .slice pb2 nb2 cb2, .slice pa2 na2 ca2, .int .i64 next2, .slice pr2 nr2 cr2, .slice pd2 nd2 cd2] 26) := ⟨_, rfl⟩
    have k1 : Kept [] w w1 := by rw [hw1]; exact ((Kept.refl [] w).alloc _).alloc _
    have b1 : Blk w1 w.heap.size 26 [.int .i64 kind1, .int .i64 birth1, .int .i64 prev1, .int .i64 id1, .int .i64 page1, .int .i64 frm1, .slice pb1 nb1 cb1, .slice pa1 na1 ca1, .int .i64 next1, .slice pr1 nr1 cr1, .slice pd1 nd1 cd1] := by rw [hw1]; exact (Blk.new w _ _).kept ((Kept.refl [] _).alloc _) (by simp)
    have b2 : Blk w1 (w.heap.size + 1) 26 [.int .i64 kind1, .int .i64 birth1, .int .i64 prev1, .int .i64 id2, .int .i64 page2, .int .i64 frm2, .slice pb2 nb2 cb2, .slice pa2 na2 ca2, .int .i64 next2, .slice pr2 nr2 cr2, .slice pd2 nd2 cd2] := by rw [hw1]; have := Blk.new (w.alloc (.cells #[.int .i64 kind1, .int .i64 birth1, .int .i64 prev1, .int .i64 id1, .int .i64 page1, .int .i64 frm1, .slice pb1 nb1 cb1, .slice pa1 na1 ca1, .int .i64 next1, .slice pr1 nr1 cr1, .slice pd1 nd1 cd1] 26)) 26 [.int .i64 kind1, .int .i64 birth1, .int .i64 prev1, .int .i64 id2, .int .i64 page2, .int .i64 frm2, .slice pb2 nb2 cb2, .slice pa2 na2 ca2, .int .i64 next2, .slice pr2 nr2 cr2, .slice pd2 nd2 cd2]; rwa [World.size_alloc] at this
    have K1 := @hideH _ k1
    have HB1 := @hideH _ b1
    have HB2 := @hideH _ b2
    have x0 := b1.cell (j := 0) rfl
    have y0 := b2.cell (j := 0) rfl
    have x1 := b1.cell (j := 1) rfl
    have y1 := b2.cell (j := 1) rfl
    have x2 := b1.cell (j := 2) rfl
    have y2 := b2.cell (j := 2) rfl
    have x3 := b1.cell (j := 3) rfl
    have y3 := b2.cell (j := 3) rfl
    have x4 := b1.cell (j := 4) rfl
    have y4 := b2.cell (j := 4) rfl
    have x5 := b1.cell (j := 5) rfl
    have y5 := b2.cell (j := 5) rfl
    have x6 := b1.cell (j := 6) rfl
    have y6 := b2.cell (j := 6) rfl
    have x7 := b1.cell (j := 7) rfl
    have y7 := b2.cell (j := 7) rfl
    have x8 := b1.cell (j := 8) rfl
    have y8 := b2.cell (j := 8) rfl
    have x9 := b1.cell (j := 9) rfl
    have y9 := b2.cell (j := 9) rfl
    have x10 := b1.cell (j := 10) rfl
    have y10 := b2.cell (j := 10) rfl
    have t1 := (HBB1.out.kept k1).textR
    have t2 := (HBB2.out.kept k1).textR
    have t3 := (HBA1.out.kept k1).textR
    have t4 := (HBA2.out.kept k1).textR
    clear b1 b2 k1
    go_enter Try.func13, Try.ntmps13
    go_upto_region 1 with fail
    rw [← hw1]
    clear hw1
    go_wp2
    go_ret
    exact ⟨by rw [eQ.out]; rfl, K1.out⟩
  subst h_id
  by_cases h_page : page1 = page2
  rotate_left
  · have eQ := @hideH _ (show Q = false by rw [HQ.out]; exact bl_f (fun e => h_page (by injection e)))
    have e1 : (page1 != page2) = true := by simp [h_page]
    have e2 : (page1 == page2) = false := by simp [h_page]
    clear h_page
    obtain ⟨w1, hw1⟩ : ∃ w1, w1 = (w.alloc (.cells #[.int .i64 kind1, .int .i64 birth1, .int .i64 prev1, .int .i64 id1, .int .i64 page1, .int .i64 frm1, .slice pb1 nb1 cb1, .slice pa1 na1 ca1, .int .i64 next1, .slice pr1 nr1 cr1, .slice pd1 nd1 cd1] 26)).alloc (.cells #[.int .i64 kind1, .int .i64 birth1, .int .i64 prev1, .int .i64 id1, .int .i64 page2, .int .i64 frm2, .slice pb2 nb2 cb2, .slice pa2 na2 ca2, .int .i64 next2, .slice pr2 nr2 cr2, .slice pd2 nd2 cd2] 26) := ⟨_, rfl⟩
    have k1 : Kept [] w w1 := by rw [hw1]; exact ((Kept.refl [] w).alloc _).alloc _
    have b1 : Blk w1 w.heap.size 26 [.int .i64 kind1, .int .i64 birth1, .int .i64 prev1, .int .i64 id1, .int .i64 page1, .int .i64 frm1, .slice pb1 nb1 cb1, .slice pa1 na1 ca1, .int .i64 next1, .slice pr1 nr1 cr1, .slice pd1 nd1 cd1] := by rw [hw1]; exact (Blk.new w _ _).kept ((Kept.refl [] _).alloc _) (by simp)
    have b2 : Blk w1 (w.heap.size + 1) 26 [.int .i64 kind1, .int .i64 birth1, .int .i64 prev1, .int .i64 id1, .int .i64 page2, .int .i64 frm2, .slice pb2 nb2 cb2, .slice pa2 na2 ca2, .int .i64 next2, .slice pr2 nr2 cr2, .slice pd2 nd2 cd2] := by rw [hw1]; have := Blk.new (w.alloc (.cells #[.int .i64 kind1, .int .i64 birth1, .int .i64 prev1, .int .i64 id1, .int .i64 page1, .int .i64 frm1, .slice pb1 nb1 cb1, .slice pa1 na1 ca1, .int .i64 next1, .slice pr1 nr1 cr1, .slice pd1 nd1 cd1] 26)) 26 [.int .i64 kind1, .int .i64 birth1, .int .i64 prev1, .int .i64 id1, .int .i64 page2, .int .i64 frm2, .slice pb2 nb2 cb2, .slice pa2 na2 ca2, .int .i64 next2, .slice pr2 nr2 cr2, .slice pd2 nd2 cd2]; rwa [World.size_alloc] at this
    have K1 := @hideH _ k1
    have HB1 := @hideH _ b1
    have HB2 := @hideH _ b2
    have x0 := b1.cell (j := 0) rfl
    have y0 := b2.cell (j := 0) rfl
    have x1 := b1.cell (j := 1) rfl
    have y1 := b2.cell (j := 1) rfl
    have x2 := b1.cell (j := 2) rfl
    have y2 := b2.cell (j := 2) rfl
    have x3 := b1.cell (j := 3) rfl
    have y3 := b2.cell (j := 3) rfl
    have x4 := b1.cell (j := 4) rfl
    have y4 := b2.cell (j := 4) rfl
    have x5 := b1.cell (j := 5) rfl
    have y5 := b2.cell (j := 5) rfl
    have x6 := b1.cell (j := 6) rfl
    have y6 := b2.cell (j := 6) rfl
    have x7 := b1.cell (j := 7) rfl
    have y7 := b2.cell (j := 7) rfl
    have x8 := b1.cell (j := 8) rfl
    have y8 := b2.cell (j := 8) rfl
    have x9 := b1.cell (j := 9) rfl
    have y9 := b2.cell (j := 9) rfl
    have x10 := b1.cell (j := 10) rfl
    have y10 := b2.cell (j := 10) rfl
    have t1 := (HBB1.out.kept k1).textR
    have t2 := (HBB2.out.kept k1).textR
    have t3 := (HBA1.out.kept k1).textR
    have t4 := (HBA2.out.kept k1).textR
    clear b1 b2 k1
    go_enter Try.func13, Try.ntmps13
    go_upto_region 1 with fail
    rw [← hw1]
    clear hw1
    go_wp2
    go_ret
    exact ⟨by rw [eQ.out]; rfl, K1.out⟩
  subst h_page
  by_cases h_frm : frm1 = frm2
  rotate_left
  · have eQ := @hideH _ (show Q = false by rw [HQ.out]; exact bl_f (fun e => h_frm (by injection e)))
    have e1 : (frm1 != frm2) = true := by simp [h_frm]
    have e2 : (frm1 == frm2) = false := by simp [h_frm]
    clear h_frm
    obtain ⟨w1, hw1⟩ : ∃ w1, w1 = (w.alloc (.cells #[.int .i64 kind1, .int .i64 birth1, .int .i64 prev1, .int .i64 id1, .int .i64 page1, .int .i64 frm1, .slice pb1 nb1 cb1, .slice pa1 na1 ca1, .int .i64 next1, .slice pr1 nr1 cr1, .slice pd1 nd1 cd1] 26)).alloc (.cells #[.int .i64 kind1, .int .i64 birth1, .int .i64 prev1, .int .i64 id1, .int .i64 page1, .int .i64 frm2, .slice pb2 nb2 cb2, .slice pa2 na2 ca2, .int .i64 next2, .slice pr2 nr2 cr2, .slice pd2 nd2 cd2] 26) := ⟨_, rfl⟩
    have k1 : Kept [] w w1 := by rw [hw1]; exact ((Kept.refl [] w).alloc _).alloc _
    have b1 : Blk w1 w.heap.size 26 [.int .i64 kind1, .int .i64 birth1, .int .i64 prev1, .int .i64 id1, .int .i64 page1, .int .i64 frm1, .slice pb1 nb1 cb1, .slice pa1 na1 ca1, .int .i64 next1, .slice pr1 nr1 cr1, .slice pd1 nd1 cd1] := by rw [hw1]; exact (Blk.new w _ _).kept ((Kept.refl [] _).alloc _) (by simp)
    have b2 : Blk w1 (w.heap.size + 1) 26 [.int .i64 kind1, .int .i64 birth1, .int .i64 prev1, .int .i64 id1, .int .i64 page1, .int .i64 frm2, .slice pb2 nb2 cb2, .slice pa2 na2 ca2, .int .i64 next2, .slice pr2 nr2 cr2, .slice pd2 nd2 cd2] := by rw [hw1]; have := Blk.new (w.alloc (.cells #[.int .i64 kind1, .int .i64 birth1, .int .i64 prev1, .int .i64 id1, .int .i64 page1, .int .i64 frm1, .slice pb1 nb1 cb1, .slice pa1 na1 ca1, .int .i64 next1, .slice pr1 nr1 cr1, .slice pd1 nd1 cd1] 26)) 26 [.int .i64 kind1, .int .i64 birth1, .int .i64 prev1, .int .i64 id1, .int .i64 page1, .int .i64 frm2, .slice pb2 nb2 cb2, .slice pa2 na2 ca2, .int .i64 next2, .slice pr2 nr2 cr2, .slice pd2 nd2 cd2]; rwa [World.size_alloc] at this
    have K1 := @hideH _ k1
    have HB1 := @hideH _ b1
    have HB2 := @hideH _ b2
    have x0 := b1.cell (j := 0) rfl
    have y0 := b2.cell (j := 0) rfl
    have x1 := b1.cell (j := 1) rfl
    have y1 := b2.cell (j := 1) rfl
    have x2 := b1.cell (j := 2) rfl
    have y2 := b2.cell (j := 2) rfl
    have x3 := b1.cell (j := 3) rfl
    have y3 := b2.cell (j := 3) rfl
    have x4 := b1.cell (j := 4) rfl
    have y4 := b2.cell (j := 4) rfl
    have x5 := b1.cell (j := 5) rfl
    have y5 := b2.cell (j := 5) rfl
    have x6 := b1.cell (j := 6) rfl
    have y6 := b2.cell (j := 6) rfl
    have x7 := b1.cell (j := 7) rfl
    have y7 := b2.cell (j := 7) rfl
    have x8 := b1.cell (j := 8) rfl
    have y8 := b2.cell (j := 8) rfl
    have x9 := b1.cell (j := 9) rfl
    have y9 := b2.cell (j := 9) rfl
    have x10 := b1.cell (j := 10) rfl
    have y10 := b2.cell (j := 10) rfl
    have t1 := (HBB1.out.kept k1).textR
    have t2 := (HBB2.out.kept k1).textR
    have t3 := (HBA1.out.kept k1).textR
    have t4 := (HBA2.out.kept k1).textR
    clear b1 b2 k1
    go_enter Try.func13, Try.ntmps13
    go_upto_region 1 with fail
    rw [← hw1]
    clear hw1
    go_wp2
    go_ret
    exact ⟨by rw [eQ.out]; rfl, K1.out⟩
  subst h_frm
  by_cases h_next : next1 = next2
  rotate_left
  · have eQ := @hideH _ (show Q = false by rw [HQ.out]; exact bl_f (fun e => h_next (by injection e)))
    have e1 : (next1 != next2) = true := by simp [h_next]
    have e2 : (next1 == next2) = false := by simp [h_next]
    clear h_next
    obtain ⟨w1, hw1⟩ : ∃ w1, w1 = (w.alloc (.cells #[.int .i64 kind1, .int .i64 birth1, .int .i64 prev1, .int .i64 id1, .int .i64 page1, .int .i64 frm1, .slice pb1 nb1 cb1, .slice pa1 na1 ca1, .int .i64 next1, .slice pr1 nr1 cr1, .slice pd1 nd1 cd1] 26)).alloc (.cells #[.int .i64 kind1, .int .i64 birth1, .int .i64 prev1, .int .i64 id1, .int .i64 page1, .int .i64 frm1, .slice pb2 nb2 cb2, .slice pa2 na2 ca2, .int .i64 next2, .slice pr2 nr2 cr2, .slice pd2 nd2 cd2] 26) := ⟨_, rfl⟩
    have k1 : Kept [] w w1 := by rw [hw1]; exact ((Kept.refl [] w).alloc _).alloc _
    have b1 : Blk w1 w.heap.size 26 [.int .i64 kind1, .int .i64 birth1, .int .i64 prev1, .int .i64 id1, .int .i64 page1, .int .i64 frm1, .slice pb1 nb1 cb1, .slice pa1 na1 ca1, .int .i64 next1, .slice pr1 nr1 cr1, .slice pd1 nd1 cd1] := by rw [hw1]; exact (Blk.new w _ _).kept ((Kept.refl [] _).alloc _) (by simp)
    have b2 : Blk w1 (w.heap.size + 1) 26 [.int .i64 kind1, .int .i64 birth1, .int .i64 prev1, .int .i64 id1, .int .i64 page1, .int .i64 frm1, .slice pb2 nb2 cb2, .slice pa2 na2 ca2, .int .i64 next2, .slice pr2 nr2 cr2, .slice pd2 nd2 cd2] := by rw [hw1]; have := Blk.new (w.alloc (.cells #[.int .i64 kind1, .int .i64 birth1, .int .i64 prev1, .int .i64 id1, .int .i64 page1, .int .i64 frm1, .slice pb1 nb1 cb1, .slice pa1 na1 ca1, .int .i64 next1, .slice pr1 nr1 cr1, .slice pd1 nd1 cd1] 26)) 26 [.int .i64 kind1, .int .i64 birth1, .int .i64 prev1, .int .i64 id1, .int .i64 page1, .int .i64 frm1, .slice pb2 nb2 cb2, .slice pa2 na2 ca2, .int .i64 next2, .slice pr2 nr2 cr2, .slice pd2 nd2 cd2]; rwa [World.size_alloc] at this
    have K1 := @hideH _ k1
    have HB1 := @hideH _ b1
    have HB2 := @hideH _ b2
    have x0 := b1.cell (j := 0) rfl
    have y0 := b2.cell (j := 0) rfl
    have x1 := b1.cell (j := 1) rfl
    have y1 := b2.cell (j := 1) rfl
    have x2 := b1.cell (j := 2) rfl
    have y2 := b2.cell (j := 2) rfl
    have x3 := b1.cell (j := 3) rfl
    have y3 := b2.cell (j := 3) rfl
    have x4 := b1.cell (j := 4) rfl
    have y4 := b2.cell (j := 4) rfl
    have x5 := b1.cell (j := 5) rfl
    have y5 := b2.cell (j := 5) rfl
    have x6 := b1.cell (j := 6) rfl
    have y6 := b2.cell (j := 6) rfl
    have x7 := b1.cell (j := 7) rfl
    have y7 := b2.cell (j := 7) rfl
    have x8 := b1.cell (j := 8) rfl
    have y8 := b2.cell (j := 8) rfl
    have x9 := b1.cell (j := 9) rfl
    have y9 := b2.cell (j := 9) rfl
    have x10 := b1.cell (j := 10) rfl
    have y10 := b2.cell (j := 10) rfl
    have t1 := (HBB1.out.kept k1).textR
    have t2 := (HBB2.out.kept k1).textR
    have t3 := (HBA1.out.kept k1).textR
    have t4 := (HBA2.out.kept k1).textR
    clear b1 b2 k1
    go_enter Try.func13, Try.ntmps13
    go_upto_region 1 with fail
    rw [← hw1]
    clear hw1
    go_wp2
    go_ret
    exact ⟨by rw [eQ.out]; rfl, K1.out⟩
  subst h_next
  by_cases h_before : before1 = before2
  rotate_left
  · have eQ := @hideH _ (show Q = false by rw [HQ.out]; exact bl_f (fun e => h_before (by injection e)))
    obtain ⟨w1, hw1⟩ : ∃ w1, w1 = (w.alloc (.cells #[.int .i64 kind1, .int .i64 birth1, .int .i64 prev1, .int .i64 id1, .int .i64 page1, .int .i64 frm1, .slice pb1 nb1 cb1, .slice pa1 na1 ca1, .int .i64 next1, .slice pr1 nr1 cr1, .slice pd1 nd1 cd1] 26)).alloc (.cells #[.int .i64 kind1, .int .i64 birth1, .int .i64 prev1, .int .i64 id1, .int .i64 page1, .int .i64 frm1, .slice pb2 nb2 cb2, .slice pa2 na2 ca2, .int .i64 next1, .slice pr2 nr2 cr2, .slice pd2 nd2 cd2] 26) := ⟨_, rfl⟩
    have k1 : Kept [] w w1 := by rw [hw1]; exact ((Kept.refl [] w).alloc _).alloc _
    have b1 : Blk w1 w.heap.size 26 [.int .i64 kind1, .int .i64 birth1, .int .i64 prev1, .int .i64 id1, .int .i64 page1, .int .i64 frm1, .slice pb1 nb1 cb1, .slice pa1 na1 ca1, .int .i64 next1, .slice pr1 nr1 cr1, .slice pd1 nd1 cd1] := by rw [hw1]; exact (Blk.new w _ _).kept ((Kept.refl [] _).alloc _) (by simp)
    have b2 : Blk w1 (w.heap.size + 1) 26 [.int .i64 kind1, .int .i64 birth1, .int .i64 prev1, .int .i64 id1, .int .i64 page1, .int .i64 frm1, .slice pb2 nb2 cb2, .slice pa2 na2 ca2, .int .i64 next1, .slice pr2 nr2 cr2, .slice pd2 nd2 cd2] := by rw [hw1]; have := Blk.new (w.alloc (.cells #[.int .i64 kind1, .int .i64 birth1, .int .i64 prev1, .int .i64 id1, .int .i64 page1, .int .i64 frm1, .slice pb1 nb1 cb1, .slice pa1 na1 ca1, .int .i64 next1, .slice pr1 nr1 cr1, .slice pd1 nd1 cd1] 26)) 26 [.int .i64 kind1, .int .i64 birth1, .int .i64 prev1, .int .i64 id1, .int .i64 page1, .int .i64 frm1, .slice pb2 nb2 cb2, .slice pa2 na2 ca2, .int .i64 next1, .slice pr2 nr2 cr2, .slice pd2 nd2 cd2]; rwa [World.size_alloc] at this
    have K1 := @hideH _ k1
    have HB1 := @hideH _ b1
    have HB2 := @hideH _ b2
    have x0 := b1.cell (j := 0) rfl
    have y0 := b2.cell (j := 0) rfl
    have x1 := b1.cell (j := 1) rfl
    have y1 := b2.cell (j := 1) rfl
    have x2 := b1.cell (j := 2) rfl
    have y2 := b2.cell (j := 2) rfl
    have x3 := b1.cell (j := 3) rfl
    have y3 := b2.cell (j := 3) rfl
    have x4 := b1.cell (j := 4) rfl
    have y4 := b2.cell (j := 4) rfl
    have x5 := b1.cell (j := 5) rfl
    have y5 := b2.cell (j := 5) rfl
    have x6 := b1.cell (j := 6) rfl
    have y6 := b2.cell (j := 6) rfl
    have x7 := b1.cell (j := 7) rfl
    have y7 := b2.cell (j := 7) rfl
    have x8 := b1.cell (j := 8) rfl
    have y8 := b2.cell (j := 8) rfl
    have x9 := b1.cell (j := 9) rfl
    have y9 := b2.cell (j := 9) rfl
    have x10 := b1.cell (j := 10) rfl
    have y10 := b2.cell (j := 10) rfl
    have t1 := (HBB1.out.kept k1).textR
    have t2 := (HBB2.out.kept k1).textR
    have t3 := (HBA1.out.kept k1).textR
    have t4 := (HBA2.out.kept k1).textR
    clear b1 b2 k1
    go_enter Try.func13, Try.ntmps13
    go_upto_region 1 with fail
    rw [← hw1]
    clear hw1
    go_wp2
    go_ret
    exact ⟨by rw [eQ.out]; rfl, K1.out⟩
  subst h_before
  obtain rfl : nb1 = nb2 := by rw [HNB1.out, HNB2.out]
  by_cases h_after : after1 = after2
  rotate_left
  · have eQ := @hideH _ (show Q = false by rw [HQ.out]; exact bl_f (fun e => h_after (by injection e)))
    obtain ⟨w1, hw1⟩ : ∃ w1, w1 = (w.alloc (.cells #[.int .i64 kind1, .int .i64 birth1, .int .i64 prev1, .int .i64 id1, .int .i64 page1, .int .i64 frm1, .slice pb1 nb1 cb1, .slice pa1 na1 ca1, .int .i64 next1, .slice pr1 nr1 cr1, .slice pd1 nd1 cd1] 26)).alloc (.cells #[.int .i64 kind1, .int .i64 birth1, .int .i64 prev1, .int .i64 id1, .int .i64 page1, .int .i64 frm1, .slice pb2 nb1 cb2, .slice pa2 na2 ca2, .int .i64 next1, .slice pr2 nr2 cr2, .slice pd2 nd2 cd2] 26) := ⟨_, rfl⟩
    have k1 : Kept [] w w1 := by rw [hw1]; exact ((Kept.refl [] w).alloc _).alloc _
    have b1 : Blk w1 w.heap.size 26 [.int .i64 kind1, .int .i64 birth1, .int .i64 prev1, .int .i64 id1, .int .i64 page1, .int .i64 frm1, .slice pb1 nb1 cb1, .slice pa1 na1 ca1, .int .i64 next1, .slice pr1 nr1 cr1, .slice pd1 nd1 cd1] := by rw [hw1]; exact (Blk.new w _ _).kept ((Kept.refl [] _).alloc _) (by simp)
    have b2 : Blk w1 (w.heap.size + 1) 26 [.int .i64 kind1, .int .i64 birth1, .int .i64 prev1, .int .i64 id1, .int .i64 page1, .int .i64 frm1, .slice pb2 nb1 cb2, .slice pa2 na2 ca2, .int .i64 next1, .slice pr2 nr2 cr2, .slice pd2 nd2 cd2] := by rw [hw1]; have := Blk.new (w.alloc (.cells #[.int .i64 kind1, .int .i64 birth1, .int .i64 prev1, .int .i64 id1, .int .i64 page1, .int .i64 frm1, .slice pb1 nb1 cb1, .slice pa1 na1 ca1, .int .i64 next1, .slice pr1 nr1 cr1, .slice pd1 nd1 cd1] 26)) 26 [.int .i64 kind1, .int .i64 birth1, .int .i64 prev1, .int .i64 id1, .int .i64 page1, .int .i64 frm1, .slice pb2 nb1 cb2, .slice pa2 na2 ca2, .int .i64 next1, .slice pr2 nr2 cr2, .slice pd2 nd2 cd2]; rwa [World.size_alloc] at this
    have K1 := @hideH _ k1
    have HB1 := @hideH _ b1
    have HB2 := @hideH _ b2
    have x0 := b1.cell (j := 0) rfl
    have y0 := b2.cell (j := 0) rfl
    have x1 := b1.cell (j := 1) rfl
    have y1 := b2.cell (j := 1) rfl
    have x2 := b1.cell (j := 2) rfl
    have y2 := b2.cell (j := 2) rfl
    have x3 := b1.cell (j := 3) rfl
    have y3 := b2.cell (j := 3) rfl
    have x4 := b1.cell (j := 4) rfl
    have y4 := b2.cell (j := 4) rfl
    have x5 := b1.cell (j := 5) rfl
    have y5 := b2.cell (j := 5) rfl
    have x6 := b1.cell (j := 6) rfl
    have y6 := b2.cell (j := 6) rfl
    have x7 := b1.cell (j := 7) rfl
    have y7 := b2.cell (j := 7) rfl
    have x8 := b1.cell (j := 8) rfl
    have y8 := b2.cell (j := 8) rfl
    have x9 := b1.cell (j := 9) rfl
    have y9 := b2.cell (j := 9) rfl
    have x10 := b1.cell (j := 10) rfl
    have y10 := b2.cell (j := 10) rfl
    have t1 := (HBB1.out.kept k1).textR
    have t2 := (HBB2.out.kept k1).textR
    have t3 := (HBA1.out.kept k1).textR
    have t4 := (HBA2.out.kept k1).textR
    clear b1 b2 k1
    go_enter Try.func13, Try.ntmps13
    go_upto_region 1 with fail
    rw [← hw1]
    clear hw1
    go_wp2
    go_ret
    exact ⟨by rw [eQ.out]; rfl, K1.out⟩
  subst h_after
  obtain rfl : na1 = na2 := by rw [HNA1.out, HNA2.out]
  by_cases h_nr : nr1 = nr2
  rotate_left
  · have eQ := @hideH _ (show Q = false by rw [HQ.out]; exact bl_f (fun e => h_nr (by rw [HNR1.out, HNR2.out]; injection e with e1 e2 e3 e4 e5 e6 e7 e8 e9 e10 e11; rw [e10])))
    have e1 : ((nr1 : Int) != (nr2 : Int)) = true := bne_iff_ne.2 (fun e => h_nr (by omega))
    have e2 : ((nr1 : Int) == (nr2 : Int)) = false := beq_eq_false_iff_ne.2 (fun e => h_nr (by omega))
    have e3 : ¬ nr1 = nr2 := h_nr
    clear h_nr
    obtain ⟨w1, hw1⟩ : ∃ w1, w1 = (w.alloc (.cells #[.int .i64 kind1, .int .i64 birth1, .int .i64 prev1, .int .i64 id1, .int .i64 page1, .int .i64 frm1, .slice pb1 nb1 cb1, .slice pa1 na1 ca1, .int .i64 next1, .slice pr1 nr1 cr1, .slice pd1 nd1 cd1] 26)).alloc (.cells #[.int .i64 kind1, .int .i64 birth1, .int .i64 prev1, .int .i64 id1, .int .i64 page1, .int .i64 frm1, .slice pb2 nb1 cb2, .slice pa2 na1 ca2, .int .i64 next1, .slice pr2 nr2 cr2, .slice pd2 nd2 cd2] 26) := ⟨_, rfl⟩
    have k1 : Kept [] w w1 := by rw [hw1]; exact ((Kept.refl [] w).alloc _).alloc _
    have b1 : Blk w1 w.heap.size 26 [.int .i64 kind1, .int .i64 birth1, .int .i64 prev1, .int .i64 id1, .int .i64 page1, .int .i64 frm1, .slice pb1 nb1 cb1, .slice pa1 na1 ca1, .int .i64 next1, .slice pr1 nr1 cr1, .slice pd1 nd1 cd1] := by rw [hw1]; exact (Blk.new w _ _).kept ((Kept.refl [] _).alloc _) (by simp)
    have b2 : Blk w1 (w.heap.size + 1) 26 [.int .i64 kind1, .int .i64 birth1, .int .i64 prev1, .int .i64 id1, .int .i64 page1, .int .i64 frm1, .slice pb2 nb1 cb2, .slice pa2 na1 ca2, .int .i64 next1, .slice pr2 nr2 cr2, .slice pd2 nd2 cd2] := by rw [hw1]; have := Blk.new (w.alloc (.cells #[.int .i64 kind1, .int .i64 birth1, .int .i64 prev1, .int .i64 id1, .int .i64 page1, .int .i64 frm1, .slice pb1 nb1 cb1, .slice pa1 na1 ca1, .int .i64 next1, .slice pr1 nr1 cr1, .slice pd1 nd1 cd1] 26)) 26 [.int .i64 kind1, .int .i64 birth1, .int .i64 prev1, .int .i64 id1, .int .i64 page1, .int .i64 frm1, .slice pb2 nb1 cb2, .slice pa2 na1 ca2, .int .i64 next1, .slice pr2 nr2 cr2, .slice pd2 nd2 cd2]; rwa [World.size_alloc] at this
    have K1 := @hideH _ k1
    have HB1 := @hideH _ b1
    have HB2 := @hideH _ b2
    have x0 := b1.cell (j := 0) rfl
    have y0 := b2.cell (j := 0) rfl
    have x1 := b1.cell (j := 1) rfl
    have y1 := b2.cell (j := 1) rfl
    have x2 := b1.cell (j := 2) rfl
    have y2 := b2.cell (j := 2) rfl
    have x3 := b1.cell (j := 3) rfl
    have y3 := b2.cell (j := 3) rfl
    have x4 := b1.cell (j := 4) rfl
    have y4 := b2.cell (j := 4) rfl
    have x5 := b1.cell (j := 5) rfl
    have y5 := b2.cell (j := 5) rfl
    have x6 := b1.cell (j := 6) rfl
    have y6 := b2.cell (j := 6) rfl
    have x7 := b1.cell (j := 7) rfl
    have y7 := b2.cell (j := 7) rfl
    have x8 := b1.cell (j := 8) rfl
    have y8 := b2.cell (j := 8) rfl
    have x9 := b1.cell (j := 9) rfl
    have y9 := b2.cell (j := 9) rfl
    have x10 := b1.cell (j := 10) rfl
    have y10 := b2.cell (j := 10) rfl
    have t1 := (HBB1.out.kept k1).textR
    have t2 := (HBB2.out.kept k1).textR
    have t3 := (HBA1.out.kept k1).textR
    have t4 := (HBA2.out.kept k1).textR
    clear b1 b2 k1
    go_enter Try.func13, Try.ntmps13
    go_upto_region 1 with fail
    rw [← hw1]
    clear hw1
    go_wp2
    go_ret
    exact ⟨by rw [eQ.out]; rfl, K1.out⟩
  subst h_nr
  by_cases h_nd : nd1 = nd2
  rotate_left
  · have eQ := @hideH _ (show Q = false by rw [HQ.out]; exact bl_f (fun e => h_nd (by rw [HND1.out, HND2.out]; injection e with e1 e2 e3 e4 e5 e6 e7 e8 e9 e10 e11; rw [e11])))
    have e1 : ((nd1 : Int) != (nd2 : Int)) = true := bne_iff_ne.2 (fun e => h_nd (by omega))
    have e2 : ((nd1 : Int) == (nd2 : Int)) = false := beq_eq_false_iff_ne.2 (fun e => h_nd (by omega))
    have e3 : ¬ nd1 = nd2 := h_nd
    clear h_nd
    obtain ⟨w1, hw1⟩ : ∃ w1, w1 = (w.alloc (.cells #[.int .i64 kind1, .int .i64 birth1, .int .i64 prev1, .int .i64 id1, .int .i64 page1, .int .i64 frm1, .slice pb1 nb1 cb1, .slice pa1 na1 ca1, .int .i64 next1, .slice pr1 nr1 cr1, .slice pd1 nd1 cd1] 26)).alloc (.cells #[.int .i64 kind1, .int .i64 birth1, .int .i64 prev1, .int .i64 id1, .int .i64 page1, .int .i64 frm1, .slice pb2 nb1 cb2, .slice pa2 na1 ca2, .int .i64 next1, .slice pr2 nr1 cr2, .slice pd2 nd2 cd2] 26) := ⟨_, rfl⟩
    have k1 : Kept [] w w1 := by rw [hw1]; exact ((Kept.refl [] w).alloc _).alloc _
    have b1 : Blk w1 w.heap.size 26 [.int .i64 kind1, .int .i64 birth1, .int .i64 prev1, .int .i64 id1, .int .i64 page1, .int .i64 frm1, .slice pb1 nb1 cb1, .slice pa1 na1 ca1, .int .i64 next1, .slice pr1 nr1 cr1, .slice pd1 nd1 cd1] := by rw [hw1]; exact (Blk.new w _ _).kept ((Kept.refl [] _).alloc _) (by simp)
    have b2 : Blk w1 (w.heap.size + 1) 26 [.int .i64 kind1, .int .i64 birth1, .int .i64 prev1, .int .i64 id1, .int .i64 page1, .int .i64 frm1, .slice pb2 nb1 cb2, .slice pa2 na1 ca2, .int .i64 next1, .slice pr2 nr1 cr2, .slice pd2 nd2 cd2] := by rw [hw1]; have := Blk.new (w.alloc (.cells #[.int .i64 kind1, .int .i64 birth1, .int .i64 prev1, .int .i64 id1, .int .i64 page1, .int .i64 frm1, .slice pb1 nb1 cb1, .slice pa1 na1 ca1, .int .i64 next1, .slice pr1 nr1 cr1, .slice pd1 nd1 cd1] 26)) 26 [.int .i64 kind1, .int .i64 birth1, .int .i64 prev1, .int .i64 id1, .int .i64 page1, .int .i64 frm1, .slice pb2 nb1 cb2, .slice pa2 na1 ca2, .int .i64 next1, .slice pr2 nr1 cr2, .slice pd2 nd2 cd2]; rwa [World.size_alloc] at this
    have K1 := @hideH _ k1
    have HB1 := @hideH _ b1
    have HB2 := @hideH _ b2
    have x0 := b1.cell (j := 0) rfl
    have y0 := b2.cell (j := 0) rfl
    have x1 := b1.cell (j := 1) rfl
    have y1 := b2.cell (j := 1) rfl
    have x2 := b1.cell (j := 2) rfl
    have y2 := b2.cell (j := 2) rfl
    have x3 := b1.cell (j := 3) rfl
    have y3 := b2.cell (j := 3) rfl
    have x4 := b1.cell (j := 4) rfl
    have y4 := b2.cell (j := 4) rfl
    have x5 := b1.cell (j := 5) rfl
    have y5 := b2.cell (j := 5) rfl
    have x6 := b1.cell (j := 6) rfl
    have y6 := b2.cell (j := 6) rfl
    have x7 := b1.cell (j := 7) rfl
    have y7 := b2.cell (j := 7) rfl
    have x8 := b1.cell (j := 8) rfl
    have y8 := b2.cell (j := 8) rfl
    have x9 := b1.cell (j := 9) rfl
    have y9 := b2.cell (j := 9) rfl
    have x10 := b1.cell (j := 10) rfl
    have y10 := b2.cell (j := 10) rfl
    have t1 := (HBB1.out.kept k1).textR
    have t2 := (HBB2.out.kept k1).textR
    have t3 := (HBA1.out.kept k1).textR
    have t4 := (HBA2.out.kept k1).textR
    clear b1 b2 k1
    go_enter Try.func13, Try.ntmps13
    go_upto_region 1 with fail
    rw [← hw1]
    clear hw1
    go_wp2
    go_ret
    exact ⟨by rw [eQ.out]; rfl, K1.out⟩
  subst h_nd
  have HF1 := @hideH _ (show rows1 ≠ rows2 → Q = false from fun hne => by rw [HQ.out]; exact bl_f (fun e => hne (by injection e)))
  have HF2 := @hideH _ (show dirty1 ≠ dirty2 → Q = false from fun hne => by rw [HQ.out]; exact bl_f (fun e => hne (by injection e)))
  have HF3 := @hideH _ (show rows1 = rows2 → dirty1 = dirty2 → Q = true from fun e1 e2 => by rw [HQ.out]; exact bl_t (by rw [e1, e2]))
  have hmr : nr1 ≤ maxLen := by obtain ⟨-, -, _, _, e, h1, h2, _⟩ := HCR1.out; cases e; exact Nat.le_trans h1 h2
  have HMR := @hideH _ hmr
  have hmd : nd1 ≤ maxLen := by obtain ⟨-, -, _, _, e, h1, h2, _⟩ := HCD1.out; cases e; exact Nat.le_trans h1 h2
  have HMD := @hideH _ hmd
  clear hmr hmd
  obtain ⟨w1, hw1⟩ : ∃ w1, w1 = (w.alloc (.cells #[.int .i64 kind1, .int .i64 birth1, .int .i64 prev1, .int .i64 id1, .int .i64 page1, .int .i64 frm1, .slice pb1 nb1 cb1, .slice pa1 na1 ca1, .int .i64 next1, .slice pr1 nr1 cr1, .slice pd1 nd1 cd1] 26)).alloc (.cells #[.int .i64 kind1, .int .i64 birth1, .int .i64 prev1, .int .i64 id1, .int .i64 page1, .int .i64 frm1, .slice pb2 nb1 cb2, .slice pa2 na1 ca2, .int .i64 next1, .slice pr2 nr1 cr2, .slice pd2 nd1 cd2] 26) := ⟨_, rfl⟩
  have k1 : Kept [] w w1 := by rw [hw1]; exact ((Kept.refl [] w).alloc _).alloc _
  have b1 : Blk w1 w.heap.size 26 [.int .i64 kind1, .int .i64 birth1, .int .i64 prev1, .int .i64 id1, .int .i64 page1, .int .i64 frm1, .slice pb1 nb1 cb1, .slice pa1 na1 ca1, .int .i64 next1, .slice pr1 nr1 cr1, .slice pd1 nd1 cd1] := by rw [hw1]; exact (Blk.new w _ _).kept ((Kept.refl [] _).alloc _) (by simp)
  have b2 : Blk w1 (w.heap.size + 1) 26 [.int .i64 kind1, .int .i64 birth1, .int .i64 prev1, .int .i64 id1, .int .i64 page1, .int .i64 frm1, .slice pb2 nb1 cb2, .slice pa2 na1 ca2, .int .i64 next1, .slice pr2 nr1 cr2, .slice pd2 nd1 cd2] := by rw [hw1]; have := Blk.new (w.alloc (.cells #[.int .i64 kind1, .int .i64 birth1, .int .i64 prev1, .int .i64 id1, .int .i64 page1, .int .i64 frm1, .slice pb1 nb1 cb1, .slice pa1 na1 ca1, .int .i64 next1, .slice pr1 nr1 cr1, .slice pd1 nd1 cd1] 26)) 26 [.int .i64 kind1, .int .i64 birth1, .int .i64 prev1, .int .i64 id1, .int .i64 page1, .int .i64 frm1, .slice pb2 nb1 cb2, .slice pa2 na1 ca2, .int .i64 next1, .slice pr2 nr1 cr2, .slice pd2 nd1 cd2]; rwa [World.size_alloc] at this
  have K1 := @hideH _ k1
  have HB1 := @hideH _ b1
  have HB2 := @hideH _ b2
  have x0 := b1.cell (j := 0) rfl
  have y0 := b2.cell (j := 0) rfl
  have x1 := b1.cell (j := 1) rfl
  have y1 := b2.cell (j := 1) rfl
  have x2 := b1.cell (j := 2) rfl
  have y2 := b2.cell (j := 2) rfl
  have x3 := b1.cell (j := 3) rfl
  have y3 := b2.cell (j := 3) rfl
  have x4 := b1.cell (j := 4) rfl
  have y4 := b2.cell (j := 4) rfl
  have x5 := b1.cell (j := 5) rfl
  have y5 := b2.cell (j := 5) rfl
  have x6 := b1.cell (j := 6) rfl
  have y6 := b2.cell (j := 6) rfl
  have x7 := b1.cell (j := 7) rfl
  have y7 := b2.cell (j := 7) rfl
  have x8 := b1.cell (j := 8) rfl
  have y8 := b2.cell (j := 8) rfl
  have x9 := b1.cell (j := 9) rfl
  have y9 := b2.cell (j := 9) rfl
  have x10 := b1.cell (j := 10) rfl
  have y10 := b2.cell (j := 10) rfl
  have t1 := (HBB1.out.kept k1).textR
  have t2 := (HBB2.out.kept k1).textR
  have t3 := (HBA1.out.kept k1).textR
  have t4 := (HBA2.out.kept k1).textR
  clear b1 b2 k1
  go_enter Try.func13, Try.ntmps13
  go_upto_region 1 with fail
  rw [← hw1]
  clear hw1
  go_wp2
  go_loopw [5] (fun vi wr => ∃ k : Nat, k ≤ nr1 ∧ vi = .int .i64 k ∧ Hid ((∀ j, j < k → rows1[j]? = rows2[j]?) ∧ Kept [] w1 wr)) (fun vi _ => nr1 - (intOf vi).toNat)
  case atStart => exact ⟨0, Nat.zero_le _, rfl, fun j hj => by omega, Kept.refl [] _⟩
  case round =>
    clear x0 y0 x1 y1 x2 y2 x3 y3 x4 y4 x5 y5 x6 y6 x7 y7 x8 y8 x9 y9 x10 y10 t1 t2 t3 t4
    obtain ⟨k, hk, rfl, hh⟩ := hrel
    have c9 := (HB1.out.kept hh.out.2 (by simp)).cell (j := 9) rfl
    have d9 := (HB2.out.kept hh.out.2 (by simp)).cell (j := 9) rfl
    by_cases hkl : k < nr1
    · have hkl' : (k : Int) < (nr1 : Int) := by omega
      have hk0 : (0 : Int) ≤ (k : Int) := by omega
      have wk : IntKind.i64.wrap ((k : Int) + 1) = (k : Int) + 1 := wrap_i64_of (by omega) (by have := HMR.out; unfold maxLen at this; omega)
      obtain ⟨x, hx⟩ : ∃ x, rows1[k]? = some x := ⟨_, List.getElem?_eq_getElem (by rw [← HNR1.out]; exact hkl)⟩
      obtain ⟨y, hy⟩ : ∃ y, rows2[k]? = some y := ⟨_, List.getElem?_eq_getElem (by rw [← HNR2.out]; exact hkl)⟩
      obtain ⟨b1, o1, q1, ev1, hc1⟩ := (show Cs wr 5 (.slice pr1 nr1 cr1) rows1.length (rcells rows1) from (by have := (HCR1.out.kept K1.out).kept hh.out.2; rw [← HNR1.out]; exact this)).rowAt (by rw [← HNR1.out]; omega)
      obtain rfl : pr1 = some ⟨b1, o1, none⟩ := by simp at ev1; exact ev1.1
      obtain ⟨b2, o2, q2, ev2, hc2⟩ := (show Cs wr 5 (.slice pr2 nr1 cr2) rows2.length (rcells rows2) from (by have := (HCR2.out.kept K1.out).kept hh.out.2; rw [← HNR2.out]; exact this)).rowAt (by rw [← HNR2.out]; omega)
      obtain rfl : pr2 = some ⟨b2, o2, none⟩ := by simp at ev2; exact ev2.1
      obtain ⟨x0, x1, x2, x3, x4⟩ := hc1 k x hx
      obtain ⟨y0, y1, y2, y3, y4⟩ := hc2 k y hy
      obtain ⟨x_birth, x_id, x_state, x_last, x_next⟩ := x
      obtain ⟨y_birth, y_id, y_state, y_last, y_next⟩ := y
      simp only at x0 x1 x2 x3 x4 y0 y1 y2 y3 y4
      have HXY := @hideH _ (And.intro hx hy)
      have HK := @hideH _ hh.out.2
      have HH := @hideH _ hh.out.1
      clear hh hc1 hc2 ev1 ev2 hx hy
      by_cases he : x_birth = y_birth ∧ x_id = y_id ∧ x_state = y_state ∧ x_last = y_last ∧ x_next = y_next
      · obtain ⟨rfl, rfl, rfl, rfl, rfl⟩ := he
        have REL := @hideH _ (show ∀ j, j < k + 1 → rows1[j]? = rows2[j]? from fun j hj => by by_cases e : j = k; (subst e; rw [HXY.out.1, HXY.out.2]); exact HH.out j (by omega))
        go_upto_region 8 with fail
        have s_c9 := fun (s : Calm wr) => s.kept.cell c9 (by simp)
        have s_d9 := fun (s : Calm wr) => s.kept.cell d9 (by simp)
        have s_x0 := fun (s : Calm wr) => s.kept.cell x0 (by simp)
        have s_x1 := fun (s : Calm wr) => s.kept.cell x1 (by simp)
        have s_x2 := fun (s : Calm wr) => s.kept.cell x2 (by simp)
        have s_x3 := fun (s : Calm wr) => s.kept.cell x3 (by simp)
        have s_x4 := fun (s : Calm wr) => s.kept.cell x4 (by simp)
        have s_y0 := fun (s : Calm wr) => s.kept.cell y0 (by simp)
        have s_y1 := fun (s : Calm wr) => s.kept.cell y1 (by simp)
        have s_y2 := fun (s : Calm wr) => s.kept.cell y2 (by simp)
        have s_y3 := fun (s : Calm wr) => s.kept.cell y3 (by simp)
        have s_y4 := fun (s : Calm wr) => s.kept.cell y4 (by simp)
        clear c9 d9 x0 x1 x2 x3 x4 y0 y1 y2 y3 y4
        have KR := @hideH _ (Kept.refl [] wr)
        refine wp_region_calm KR.out (by kernel_rfl) (by kernel_rfl) ?_
        repeat (go_big_quiet_step (fail))
        refine wpQuiet_nil ?_
        intro _ hw'
        obtain ⟨sq, hw''⟩ := hw'
        subst hw''
        have ks := sq.kept
        generalize sq.at = wx at ks ⊢
        clear sq
        have KX := @hideH _ (HK.out.then ks)
        clear KR ks HK s_c9 s_d9 s_x0 s_x1 s_x2 s_x3 s_x4 s_y0 s_y1 s_y2 s_y3 s_y4
        go_wp2
        go_roundw
        case rel => exact ⟨k + 1, by omega, by go_num, REL.out, KX.out⟩
        case measure => simp [intOf]; omega
      · have eQ := @hideH _ (HF1.out (fun e => he (by have e1 := HXY.out.1; rw [e, HXY.out.2] at e1; simpa using (Option.some.inj e1).symm)))
        by_cases z_birth : x_birth = y_birth
        rotate_left
        · have u1 : (x_birth == y_birth) = false := by simp [z_birth]
          have u2 : (x_birth != y_birth) = true := by simp [z_birth]
          clear he
          go_upto_region 8 with fail
          have s_c9 := fun (s : Calm wr) => s.kept.cell c9 (by simp)
          have s_d9 := fun (s : Calm wr) => s.kept.cell d9 (by simp)
          have s_x0 := fun (s : Calm wr) => s.kept.cell x0 (by simp)
          have s_x1 := fun (s : Calm wr) => s.kept.cell x1 (by simp)
          have s_x2 := fun (s : Calm wr) => s.kept.cell x2 (by simp)
          have s_x3 := fun (s : Calm wr) => s.kept.cell x3 (by simp)
          have s_x4 := fun (s : Calm wr) => s.kept.cell x4 (by simp)
          have s_y0 := fun (s : Calm wr) => s.kept.cell y0 (by simp)
          have s_y1 := fun (s : Calm wr) => s.kept.cell y1 (by simp)
          have s_y2 := fun (s : Calm wr) => s.kept.cell y2 (by simp)
          have s_y3 := fun (s : Calm wr) => s.kept.cell y3 (by simp)
          have s_y4 := fun (s : Calm wr) => s.kept.cell y4 (by simp)
          clear c9 d9 x0 x1 x2 x3 x4 y0 y1 y2 y3 y4
          have KR := @hideH _ (Kept.refl [] wr)
          refine wp_region_calm KR.out (by kernel_rfl) (by kernel_rfl) ?_
          repeat (go_big_quiet_step (fail))
          refine wpQuiet_nil ?_
          intro _ hw'
          obtain ⟨sq, hw''⟩ := hw'
          subst hw''
          have ks := sq.kept
          generalize sq.at = wx at ks ⊢
          clear sq
          have KX := @hideH _ (HK.out.then ks)
          clear KR ks HK s_c9 s_d9 s_x0 s_x1 s_x2 s_x3 s_x4 s_y0 s_y1 s_y2 s_y3 s_y4
          go_wp2
          go_ret
          exact ⟨by rw [eQ.out]; rfl, K1.out.then KX.out⟩
        subst z_birth
        by_cases z_id : x_id = y_id
        rotate_left
        · have u1 : (x_id == y_id) = false := by simp [z_id]
          have u2 : (x_id != y_id) = true := by simp [z_id]
          clear he
          go_upto_region 8 with fail
          have s_c9 := fun (s : Calm wr) => s.kept.cell c9 (by simp)
          have s_d9 := fun (s : Calm wr) => s.kept.cell d9 (by simp)
          have s_x0 := fun (s : Calm wr) => s.kept.cell x0 (by simp)
          have s_x1 := fun (s : Calm wr) => s.kept.cell x1 (by simp)
          have s_x2 := fun (s : Calm wr) => s.kept.cell x2 (by simp)
          have s_x3 := fun (s : Calm wr) => s.kept.cell x3 (by simp)
          have s_x4 := fun (s : Calm wr) => s.kept.cell x4 (by simp)
          have s_y0 := fun (s : Calm wr) => s.kept.cell y0 (by simp)
          have s_y1 := fun (s : Calm wr) => s.kept.cell y1 (by simp)
          have s_y2 := fun (s : Calm wr) => s.kept.cell y2 (by simp)
          have s_y3 := fun (s : Calm wr) => s.kept.cell y3 (by simp)
          have s_y4 := fun (s : Calm wr) => s.kept.cell y4 (by simp)
          clear c9 d9 x0 x1 x2 x3 x4 y0 y1 y2 y3 y4
          have KR := @hideH _ (Kept.refl [] wr)
          refine wp_region_calm KR.out (by kernel_rfl) (by kernel_rfl) ?_
          repeat (go_big_quiet_step (fail))
          refine wpQuiet_nil ?_
          intro _ hw'
          obtain ⟨sq, hw''⟩ := hw'
          subst hw''
          have ks := sq.kept
          generalize sq.at = wx at ks ⊢
          clear sq
          have KX := @hideH _ (HK.out.then ks)
          clear KR ks HK s_c9 s_d9 s_x0 s_x1 s_x2 s_x3 s_x4 s_y0 s_y1 s_y2 s_y3 s_y4
          go_wp2
          go_ret
          exact ⟨by rw [eQ.out]; rfl, K1.out.then KX.out⟩
        subst z_id
        by_cases z_state : x_state = y_state
        rotate_left
        · have u1 : (x_state == y_state) = false := by simp [z_state]
          have u2 : (x_state != y_state) = true := by simp [z_state]
          clear he
          go_upto_region 8 with fail
          have s_c9 := fun (s : Calm wr) => s.kept.cell c9 (by simp)
          have s_d9 := fun (s : Calm wr) => s.kept.cell d9 (by simp)
          have s_x0 := fun (s : Calm wr) => s.kept.cell x0 (by simp)
          have s_x1 := fun (s : Calm wr) => s.kept.cell x1 (by simp)
          have s_x2 := fun (s : Calm wr) => s.kept.cell x2 (by simp)
          have s_x3 := fun (s : Calm wr) => s.kept.cell x3 (by simp)
          have s_x4 := fun (s : Calm wr) => s.kept.cell x4 (by simp)
          have s_y0 := fun (s : Calm wr) => s.kept.cell y0 (by simp)
          have s_y1 := fun (s : Calm wr) => s.kept.cell y1 (by simp)
          have s_y2 := fun (s : Calm wr) => s.kept.cell y2 (by simp)
          have s_y3 := fun (s : Calm wr) => s.kept.cell y3 (by simp)
          have s_y4 := fun (s : Calm wr) => s.kept.cell y4 (by simp)
          clear c9 d9 x0 x1 x2 x3 x4 y0 y1 y2 y3 y4
          have KR := @hideH _ (Kept.refl [] wr)
          refine wp_region_calm KR.out (by kernel_rfl) (by kernel_rfl) ?_
          repeat (go_big_quiet_step (fail))
          refine wpQuiet_nil ?_
          intro _ hw'
          obtain ⟨sq, hw''⟩ := hw'
          subst hw''
          have ks := sq.kept
          generalize sq.at = wx at ks ⊢
          clear sq
          have KX := @hideH _ (HK.out.then ks)
          clear KR ks HK s_c9 s_d9 s_x0 s_x1 s_x2 s_x3 s_x4 s_y0 s_y1 s_y2 s_y3 s_y4
          go_wp2
          go_ret
          exact ⟨by rw [eQ.out]; rfl, K1.out.then KX.out⟩
        subst z_state
        by_cases z_last : x_last = y_last
        rotate_left
        · have u1 : (x_last == y_last) = false := by simp [z_last]
          have u2 : (x_last != y_last) = true := by simp [z_last]
          clear he
          go_upto_region 8 with fail
          have s_c9 := fun (s : Calm wr) => s.kept.cell c9 (by simp)
          have s_d9 := fun (s : Calm wr) => s.kept.cell d9 (by simp)
          have s_x0 := fun (s : Calm wr) => s.kept.cell x0 (by simp)
          have s_x1 := fun (s : Calm wr) => s.kept.cell x1 (by simp)
          have s_x2 := fun (s : Calm wr) => s.kept.cell x2 (by simp)
          have s_x3 := fun (s : Calm wr) => s.kept.cell x3 (by simp)
          have s_x4 := fun (s : Calm wr) => s.kept.cell x4 (by simp)
          have s_y0 := fun (s : Calm wr) => s.kept.cell y0 (by simp)
          have s_y1 := fun (s : Calm wr) => s.kept.cell y1 (by simp)
          have s_y2 := fun (s : Calm wr) => s.kept.cell y2 (by simp)
          have s_y3 := fun (s : Calm wr) => s.kept.cell y3 (by simp)
          have s_y4 := fun (s : Calm wr) => s.kept.cell y4 (by simp)
          clear c9 d9 x0 x1 x2 x3 x4 y0 y1 y2 y3 y4
          have KR := @hideH _ (Kept.refl [] wr)
          refine wp_region_calm KR.out (by kernel_rfl) (by kernel_rfl) ?_
          repeat (go_big_quiet_step (fail))
          refine wpQuiet_nil ?_
          intro _ hw'
          obtain ⟨sq, hw''⟩ := hw'
          subst hw''
          have ks := sq.kept
          generalize sq.at = wx at ks ⊢
          clear sq
          have KX := @hideH _ (HK.out.then ks)
          clear KR ks HK s_c9 s_d9 s_x0 s_x1 s_x2 s_x3 s_x4 s_y0 s_y1 s_y2 s_y3 s_y4
          go_wp2
          go_ret
          exact ⟨by rw [eQ.out]; rfl, K1.out.then KX.out⟩
        subst z_last
        by_cases z_next : x_next = y_next
        rotate_left
        · have u1 : (x_next == y_next) = false := by simp [z_next]
          have u2 : (x_next != y_next) = true := by simp [z_next]
          clear he
          go_upto_region 8 with fail
          have s_c9 := fun (s : Calm wr) => s.kept.cell c9 (by simp)
          have s_d9 := fun (s : Calm wr) => s.kept.cell d9 (by simp)
          have s_x0 := fun (s : Calm wr) => s.kept.cell x0 (by simp)
          have s_x1 := fun (s : Calm wr) => s.kept.cell x1 (by simp)
          have s_x2 := fun (s : Calm wr) => s.kept.cell x2 (by simp)
          have s_x3 := fun (s : Calm wr) => s.kept.cell x3 (by simp)
          have s_x4 := fun (s : Calm wr) => s.kept.cell x4 (by simp)
          have s_y0 := fun (s : Calm wr) => s.kept.cell y0 (by simp)
          have s_y1 := fun (s : Calm wr) => s.kept.cell y1 (by simp)
          have s_y2 := fun (s : Calm wr) => s.kept.cell y2 (by simp)
          have s_y3 := fun (s : Calm wr) => s.kept.cell y3 (by simp)
          have s_y4 := fun (s : Calm wr) => s.kept.cell y4 (by simp)
          clear c9 d9 x0 x1 x2 x3 x4 y0 y1 y2 y3 y4
          have KR := @hideH _ (Kept.refl [] wr)
          refine wp_region_calm KR.out (by kernel_rfl) (by kernel_rfl) ?_
          repeat (go_big_quiet_step (fail))
          refine wpQuiet_nil ?_
          intro _ hw'
          obtain ⟨sq, hw''⟩ := hw'
          subst hw''
          have ks := sq.kept
          generalize sq.at = wx at ks ⊢
          clear sq
          have KX := @hideH _ (HK.out.then ks)
          clear KR ks HK s_c9 s_d9 s_x0 s_x1 s_x2 s_x3 s_x4 s_y0 s_y1 s_y2 s_y3 s_y4
          go_wp2
          go_ret
          exact ⟨by rw [eQ.out]; rfl, K1.out.then KX.out⟩
        subst z_next
        exact absurd ⟨rfl, rfl, rfl, rfl, rfl⟩ he
    · have hkl' : ¬ (k : Int) < (nr1 : Int) := by omega
      have ER := @hideH _ (show rows1 = rows2 from List.ext_getElem? (fun j => by by_cases e : j < k; exact hh.out.1 j e; rw [List.getElem?_eq_none (by have := HNR1.out; omega), List.getElem?_eq_none (by have := HNR2.out; omega)]))
      have KO := @hideH _ hh.out.2
      clear hh
      obtain ⟨wo, rfl⟩ : ∃ wo, wo = wr := ⟨_, rfl⟩
      go_wp2
      go_loopw [6] (fun vi wr => ∃ q : Nat, q ≤ nd1 ∧ vi = .int .i64 q ∧ Hid ((∀ j, j < q → dirty1[j]? = dirty2[j]?) ∧ Kept [] w1 wr)) (fun vi _ => nd1 - (intOf vi).toNat)
      case atStart => exact ⟨0, Nat.zero_le _, rfl, fun j hj => by omega, KO.out⟩
      case round =>
        clear c9 d9
        obtain ⟨q, hq, rfl, hh⟩ := hrel
        have c10 := (HB1.out.kept hh.out.2 (by simp)).cell (j := 10) rfl
        have d10 := (HB2.out.kept hh.out.2 (by simp)).cell (j := 10) rfl
        by_cases hkl : q < nd1
        · have hkl' : (q : Int) < (nd1 : Int) := by omega
          have hk0 : (0 : Int) ≤ (q : Int) := by omega
          have wk : IntKind.i64.wrap ((q : Int) + 1) = (q : Int) + 1 := wrap_i64_of (by omega) (by have := HMD.out; unfold maxLen at this; omega)
          obtain ⟨x, hx⟩ : ∃ x, dirty1[q]? = some x := ⟨_, List.getElem?_eq_getElem (by rw [← HND1.out]; exact hkl)⟩
          obtain ⟨y, hy⟩ : ∃ y, dirty2[q]? = some y := ⟨_, List.getElem?_eq_getElem (by rw [← HND2.out]; exact hkl)⟩
          obtain ⟨b1, o1, q1, ev1, hc1⟩ := (show Cs wr 2 (.slice pd1 nd1 cd1) dirty1.length (dcells dirty1) from (by have := (HCD1.out.kept K1.out).kept hh.out.2; rw [← HND1.out]; exact this)).recAt (by rw [← HND1.out]; omega)
          obtain rfl : pd1 = some ⟨b1, o1, none⟩ := by simp at ev1; exact ev1.1
          obtain ⟨b2, o2, q2, ev2, hc2⟩ := (show Cs wr 2 (.slice pd2 nd1 cd2) dirty2.length (dcells dirty2) from (by have := (HCD2.out.kept K1.out).kept hh.out.2; rw [← HND2.out]; exact this)).recAt (by rw [← HND2.out]; omega)
          obtain rfl : pd2 = some ⟨b2, o2, none⟩ := by simp at ev2; exact ev2.1
          obtain ⟨x0, x1⟩ := hc1 q x hx
          obtain ⟨y0, y1⟩ := hc2 q y hy
          obtain ⟨x_page, x_lsn⟩ := x
          obtain ⟨y_page, y_lsn⟩ := y
          simp only at x0 x1 y0 y1
          have HXY := @hideH _ (And.intro hx hy)
          have HK := @hideH _ hh.out.2
          have HH := @hideH _ hh.out.1
          clear hh hc1 hc2 ev1 ev2 hx hy
          by_cases he : x_page = y_page ∧ x_lsn = y_lsn
          · obtain ⟨rfl, rfl⟩ := he
            have REL := @hideH _ (show ∀ j, j < q + 1 → dirty1[j]? = dirty2[j]? from fun j hj => by by_cases e : j = q; (subst e; rw [HXY.out.1, HXY.out.2]); exact HH.out j (by omega))
            go_upto_region 13 with fail
            have s_c10 := fun (s : Calm wr) => s.kept.cell c10 (by simp)
            have s_d10 := fun (s : Calm wr) => s.kept.cell d10 (by simp)
            have s_x0 := fun (s : Calm wr) => s.kept.cell x0 (by simp)
            have s_x1 := fun (s : Calm wr) => s.kept.cell x1 (by simp)
            have s_y0 := fun (s : Calm wr) => s.kept.cell y0 (by simp)
            have s_y1 := fun (s : Calm wr) => s.kept.cell y1 (by simp)
            clear c10 d10 x0 x1 y0 y1
            have KR := @hideH _ (Kept.refl [] wr)
            refine wp_region_calm KR.out (by kernel_rfl) (by kernel_rfl) ?_
            repeat (go_big_quiet_step (fail))
            refine wpQuiet_nil ?_
            intro _ hw'
            obtain ⟨sq, hw''⟩ := hw'
            subst hw''
            have ks := sq.kept
            generalize sq.at = wx at ks ⊢
            clear sq
            have KX := @hideH _ (HK.out.then ks)
            clear KR ks HK s_c10 s_d10 s_x0 s_x1 s_y0 s_y1
            go_wp2
            go_roundw
            case rel => exact ⟨q + 1, by omega, by go_num, REL.out, KX.out⟩
            case measure => simp [intOf]; omega
          · have eQ := @hideH _ (HF2.out (fun e => he (by have e1 := HXY.out.1; rw [e, HXY.out.2] at e1; simpa using (Option.some.inj e1).symm)))
            by_cases z_page : x_page = y_page
            rotate_left
            · have u1 : (x_page == y_page) = false := by simp [z_page]
              have u2 : (x_page != y_page) = true := by simp [z_page]
              clear he
              go_upto_region 13 with fail
              have s_c10 := fun (s : Calm wr) => s.kept.cell c10 (by simp)
              have s_d10 := fun (s : Calm wr) => s.kept.cell d10 (by simp)
              have s_x0 := fun (s : Calm wr) => s.kept.cell x0 (by simp)
              have s_x1 := fun (s : Calm wr) => s.kept.cell x1 (by simp)
              have s_y0 := fun (s : Calm wr) => s.kept.cell y0 (by simp)
              have s_y1 := fun (s : Calm wr) => s.kept.cell y1 (by simp)
              clear c10 d10 x0 x1 y0 y1
              have KR := @hideH _ (Kept.refl [] wr)
              refine wp_region_calm KR.out (by kernel_rfl) (by kernel_rfl) ?_
              repeat (go_big_quiet_step (fail))
              refine wpQuiet_nil ?_
              intro _ hw'
              obtain ⟨sq, hw''⟩ := hw'
              subst hw''
              have ks := sq.kept
              generalize sq.at = wx at ks ⊢
              clear sq
              have KX := @hideH _ (HK.out.then ks)
              clear KR ks HK s_c10 s_d10 s_x0 s_x1 s_y0 s_y1
              go_wp2
              go_ret
              exact ⟨by rw [eQ.out]; rfl, K1.out.then KX.out⟩
            subst z_page
            by_cases z_lsn : x_lsn = y_lsn
            rotate_left
            · have u1 : (x_lsn == y_lsn) = false := by simp [z_lsn]
              have u2 : (x_lsn != y_lsn) = true := by simp [z_lsn]
              clear he
              go_upto_region 13 with fail
              have s_c10 := fun (s : Calm wr) => s.kept.cell c10 (by simp)
              have s_d10 := fun (s : Calm wr) => s.kept.cell d10 (by simp)
              have s_x0 := fun (s : Calm wr) => s.kept.cell x0 (by simp)
              have s_x1 := fun (s : Calm wr) => s.kept.cell x1 (by simp)
              have s_y0 := fun (s : Calm wr) => s.kept.cell y0 (by simp)
              have s_y1 := fun (s : Calm wr) => s.kept.cell y1 (by simp)
              clear c10 d10 x0 x1 y0 y1
              have KR := @hideH _ (Kept.refl [] wr)
              refine wp_region_calm KR.out (by kernel_rfl) (by kernel_rfl) ?_
              repeat (go_big_quiet_step (fail))
              refine wpQuiet_nil ?_
              intro _ hw'
              obtain ⟨sq, hw''⟩ := hw'
              subst hw''
              have ks := sq.kept
              generalize sq.at = wx at ks ⊢
              clear sq
              have KX := @hideH _ (HK.out.then ks)
              clear KR ks HK s_c10 s_d10 s_x0 s_x1 s_y0 s_y1
              go_wp2
              go_ret
              exact ⟨by rw [eQ.out]; rfl, K1.out.then KX.out⟩
            subst z_lsn
            exact absurd ⟨rfl, rfl⟩ he
        · have hkl' : ¬ (q : Int) < (nd1 : Int) := by omega
          have eQ := @hideH _ (HF3.out ER.out (List.ext_getElem? (fun j => by by_cases e : j < q; exact hh.out.1 j e; rw [List.getElem?_eq_none (by have := HND1.out; omega), List.getElem?_eq_none (by have := HND2.out; omega)])))
          have KX := @hideH _ (K1.out.then hh.out.2)
          clear hh
          go_wp2
          go_ret
          exact ⟨by rw [eQ.out]; rfl, KX.out⟩
end Go.Proofs.Ytebcmcmboomgfaa

/-
  OWN WORK. The laws of record: lent, whole, num.
-/
namespace Go.Proofs.Ytebcmcmboomgfaa
open Go.RowKit
set_option linter.unusedVariables false
set_option linter.unusedSimpArgs false

def lent9 : List UInt8 := (List.range 120).map fun k => UInt8.ofNat (129 + k)
theorem lent9_length : lent9.length = 120 := by simp [lent9]
theorem lent9_at {k : Nat} (h : k < 120) : lent9[k]? = some (UInt8.ofNat (129 + k)) := by
  unfold lent9
  rw [List.getElem?_map, List.getElem?_range h]
  rfl
/-- the first k of F are laid -/
def fillF (F : List UInt8) (k : Nat) : List UInt8 := F.take k ++ List.replicate (F.length - k) 0
theorem fillF_length {F : List UInt8} {k : Nat} (h : k ≤ F.length) : (fillF F k).length = F.length := by
  unfold fillF
  simp
  omega
theorem fillF_set {F : List UInt8} {k : Nat} {y : UInt8} (h : F[k]? = some y) : (fillF F k).set k y = fillF F (k + 1) := by
  obtain ⟨hk, rfl⟩ := List.getElem?_eq_some_iff.1 h
  unfold fillF
  have hl : (F.take k).length = k := by rw [List.length_take]; omega
  rw [List.set_append_right _ _ (by rw [hl]; exact Nat.le_refl _), hl, Nat.sub_self, show F.length - k = F.length - (k + 1) + 1 by omega, List.replicate_succ, List.set_cons_zero, List.take_add_one, List.getElem?_eq_getElem hk, Option.toList_some, List.append_assoc]
  rfl
theorem fillF_end (F : List UInt8) : fillF F F.length = F := by simp [fillF]
theorem mark_byte (k : Nat) (h : k < 120) : IntKind.u8.wrap (129 + (k : Int)) = ((UInt8.ofNat (129 + k)).toNat : Int) := by
  rw [UInt8.toNat_ofNat']
  unfold IntKind.wrap
  simp [IntKind.signed, IntKind.bits]
theorem rNum (e : Int) (w : World) : Calls Try.prog 11 #[.int .i64 e] w fun r w' => r = .returned (.int .i64 e) ∧ w' = w := by
  go_enter Try.func11, Try.ntmps11
  go_wp2
  go_ret
  exact ⟨rfl, rfl⟩
set_option maxRecDepth 20000 in
set_option maxHeartbeats 6400000 in
theorem lent_any (u : Value) (b : List UInt8) (w : World) (hu : Bs w u b) (hcap : b.length + 120 ≤ 140737488355328) :
    Calls Try.prog 22 #[u] w fun e w' => ∃ v, e = .returned v ∧ w'.ownsRow w.heap.size 5 1 v (b.length + 120) (u8s (b ++ lent9)) ∧ Kept [] w w' := by
  obtain ⟨pb, cb, rfl, -⟩ := id hu
  have HU := @hideH _ hu
  obtain ⟨n, hn⟩ : ∃ n, n = b.length := ⟨_, rfl⟩
  obtain ⟨N, hN⟩ : ∃ N, N = n + 120 := ⟨_, rfl⟩
  obtain ⟨F, hF⟩ : ∃ F, F = b ++ lent9 := ⟨_, rfl⟩
  have HF := @hideH _ (show F = b ++ lent9 ∧ F.length = N by refine ⟨hF, ?_⟩; rw [hF, List.length_append, lent9_length, hN, hn])
  have hmk := fun u => run_make_bs (P := Try.prog) u 22 5 Try.underlying22 (by kernel_rfl) N N (Nat.le_refl _) (by omega)
  have wN : IntKind.i64.wrap ((n : Int) + 120) = (N : Int) := by rw [show (n : Int) + 120 = (N : Int) by omega]; exact wrap_i64_of (by omega) (by omega)
  have HC := @hideH _ (show N ≤ 140737488355328 by omega)
  rw [← hF, ← hn, show n + 120 = N from hN.symm]
  have HN := @hideH _ (And.intro hn hN)
  have o1 := own_made w 5 w.heap.size N N (Nat.le_refl _) (Nat.le_refl _) (by unfold maxLen; omega)
  obtain ⟨w1, hw1⟩ : ∃ w1, w1 = w.alloc (.cells (madeCells #[.int .u8 0] N) 5) := ⟨_, rfl⟩
  have k1 : Kept [] w w1 := by rw [hw1]; exact (Kept.refl [] w).alloc _
  rw [← hw1] at o1
  have O1 := @hideH _ (show w1.ownsRow w.heap.size 5 1 (.slice (some ⟨w.heap.size, 0, none⟩) N N) N (u8s (fillF F 0)) ∧ Kept [] w w1 from ⟨by unfold fillF; rw [HF.out.2]; simpa using o1, k1⟩)
  have HW1 := @hideH _ hw1
  clear hu hcap hn hN hF o1 k1
  go_enter Try.func22, Try.ntmps22
  go_upto_region 2 with fail
  rw [← HW1.out]
  clear hw1 hmk wN
  obtain ⟨G, hG⟩ : ∃ G, G = w.heap.size := ⟨_, rfl⟩
  have HG := @hideH _ hG
  rw [← hG] at O1 ⊢
  clear hG
  go_wp2
  go_loopw [4] (fun vi wr => ∃ k : Nat, k ≤ n ∧ vi = .int .i64 k ∧ Hid (wr.ownsRow G 5 1 (.slice (some ⟨G, 0, none⟩) N N) N (u8s (fillF F k)) ∧ Kept [] w wr)) (fun vi _ => n - (intOf vi).toNat)
  case atStart => exact ⟨0, Nat.zero_le _, rfl, O1.out⟩
  case round =>
    obtain ⟨k, hk, rfl, hh⟩ := hrel
    by_cases hkl : k < n
    · have hkl' : (k : Int) < (n : Int) := by omega
      have hk0 : (0 : Int) ≤ (k : Int) := by omega
      have hkN : (k : Int) < (N : Int) := by have := HN.out; omega
      have wk : IntKind.i64.wrap ((k : Int) + 1) = (k : Int) + 1 := wrap_i64_of (by omega) (by have e1 := HC.out; have e2 := HN.out; omega)
      obtain ⟨x, hx⟩ : ∃ x, b[k]? = some x := ⟨_, List.getElem?_eq_getElem (by have := HN.out; omega)⟩
      obtain ⟨bb, ob, qb, ev, -, -, -, hc⟩ := HU.out.pos (by have := HN.out; omega)
      obtain rfl : pb = some ⟨bb, ob, none⟩ := by simp at ev; exact ev.1
      have cx := hh.out.2.cell (hc k x hx) (by simp)
      have hFk : F[k]? = some x := by rw [HF.out.1, List.getElem?_append_left (by have := HN.out; omega)]; exact hx
      have fz := hh.out.1.frozenAt k
      have cz := hh.out.1.cellAt k (by have := HN.out; omega)
      obtain ⟨o2, k2⟩ := set_own hh.out.1 k x (x.toNat : Int) rfl
      rw [fillF_set hFk] at o2
      have REL := @hideH _ (And.intro o2 (hh.out.2.trans k2 (fun y hy => .inr (by simp at hy; rw [hy, HG.out]; exact Nat.le_refl _))))
      obtain ⟨z, hz⟩ : ∃ z, (u8s (fillF F k))[k]? = some z := ⟨_, List.getElem?_eq_getElem (by rw [u8s_length, fillF_length (by have e1 := HF.out.2; have e2 := HN.out; omega), HF.out.2]; have := HN.out; omega)⟩
      rw [hz] at cz
      clear hh o2 k2 hx hFk hc ev hz
      go_wp2
      go_roundw
      case rel => exact ⟨k + 1, by omega, by go_num, REL⟩
      case measure => simp [intOf]; omega
    · have hkl' : ¬ (k : Int) < (n : Int) := by omega
      have hke : k = n := by omega
      have O2 := @hideH _ (show wr.ownsRow G 5 1 (.slice (some ⟨G, 0, none⟩) N N) N (u8s (fillF F n)) ∧ Kept [] w wr by rw [← hke]; exact ⟨by rw [hke] at hh ⊢; exact hh.out.1, hh.out.2⟩)
      obtain ⟨wo, rfl⟩ : ∃ wo, wo = wr := ⟨_, rfl⟩
      clear hh hke O1
      go_wp2
      go_loopw [5] (fun vi wr => ∃ q : Nat, n ≤ q ∧ q ≤ N ∧ vi = .int .i64 q ∧ Hid (wr.ownsRow G 5 1 (.slice (some ⟨G, 0, none⟩) N N) N (u8s (fillF F q)) ∧ Kept [] w wr)) (fun vi _ => N - (intOf vi).toNat)
      case atStart => exact ⟨n, Nat.le_refl _, by have := HN.out; omega, rfl, O2.out⟩
      case round =>
        clear O2
        obtain ⟨q, hq1, hq2, rfl, hh⟩ := hrel
        by_cases hql : q < N
        · have hql' : (q : Int) < (N : Int) := by omega
          have hq0 : (0 : Int) ≤ (q : Int) := by omega
          have wq : IntKind.i64.wrap ((q : Int) + 1) = (q : Int) + 1 := wrap_i64_of (by omega) (by have e1 := HC.out; omega)
          have wm1 : IntKind.i64.wrap (129 + (q : Int)) = 129 + (q : Int) := wrap_i64_of (by omega) (by have e1 := HC.out; omega)
          have wm2 : IntKind.i64.wrap (129 + (q : Int) - (n : Int)) = 129 + ((q - n : Nat) : Int) := by rw [show 129 + (q : Int) - (n : Int) = 129 + ((q - n : Nat) : Int) by omega]; exact wrap_i64_of (by omega) (by have e1 := HC.out; omega)
          have wm3 := mark_byte (q - n) (by have := HN.out; omega)
          have hFk : F[q]? = some (UInt8.ofNat (129 + (q - n))) := by rw [HF.out.1, List.getElem?_append_right (by have := HN.out; omega), ← HN.out.1]; exact lent9_at (by have := HN.out; omega)
          have fz := hh.out.1.frozenAt q
          have cz := hh.out.1.cellAt q (by omega)
          obtain ⟨o2, k2⟩ := set_own hh.out.1 q (UInt8.ofNat (129 + (q - n))) ((UInt8.ofNat (129 + (q - n))).toNat : Int) rfl
          rw [fillF_set hFk] at o2
          have REL := @hideH _ (And.intro o2 (hh.out.2.trans k2 (fun y hy => .inr (by simp at hy; rw [hy, HG.out]; exact Nat.le_refl _))))
          obtain ⟨z, hz⟩ : ∃ z, (u8s (fillF F q))[q]? = some z := ⟨_, List.getElem?_eq_getElem (by rw [u8s_length, fillF_length (by rw [HF.out.2]; exact hq2), HF.out.2]; exact hql)⟩
          rw [hz] at cz
          clear hh o2 k2 hFk hz
          go_wp2
          go_roundw
          case rel => exact ⟨q + 1, by omega, by omega, by go_num, REL⟩
          case measure => simp [intOf]; omega
        · have hql' : ¬ (q : Int) < (N : Int) := by omega
          have FIN := @hideH _ (show wr.ownsRow w.heap.size 5 1 (.slice (some ⟨G, 0, none⟩) N N) N (u8s F) ∧ Kept [] w wr by
            have hqN : q = F.length := by rw [HF.out.2]; omega
            refine ⟨?_, hh.out.2⟩
            have e1 := hh.out.1
            rw [hqN, fillF_end] at e1
            rw [← HG.out]
            exact e1)
          clear hh
          go_wp2
          go_ret
          exact ⟨_, rfl, FIN.out⟩
end Go.Proofs.Ytebcmcmboomgfaa

/-
  OWN WORK. Contracts of the small functions: same, width, lowestFirst, Clone.
-/
namespace Go.Proofs.Ytebcmcmboomgfaa
open Go.RowKit
set_option linter.unusedVariables false

set_option maxHeartbeats 400000 in
theorem low_any (v : Value) (l : List UInt8) (w : World) (hv : Bs w v l) (h8 : l.length ≤ 8) :
    Calls Try.prog 81 #[v] w fun e w' => e = .returned (.int .u64 (low l : Int)) ∧ w' = w := by
  by_cases h0 : l.length = 0
  · obtain rfl : l = [] := List.eq_nil_of_length_eq_zero h0
    obtain ⟨p, c, rfl, -⟩ := hv
    go_enter Try.func81, Try.ntmps81
    go_wp2
    refine wp_loop_rounds 1 ?_
    rw [rounds_succ]
    go_wp2
    go_ret
    exact ⟨rfl, rfl⟩
  · obtain ⟨b, o, c, rfl, hc1, hc2, hb, hcell⟩ := hv.pos (by omega)
    go_enter Try.func81, Try.ntmps81
    go_wp2
    go_loop [3, 8] (fun s i => ∃ k : Nat, k ≤ l.length ∧ i = .int .i64 k ∧ s = .int .u64 (low (l.take k) : Int)) (fun _ i => l.length - (intOf i).toNat)
    case atStart => exact ⟨0, Nat.zero_le _, rfl, rfl⟩
    case round =>
      obtain ⟨k, hk, rfl, rfl⟩ := hrel
      by_cases hlt : k < l.length
      · have hck := hcell k l[k] (List.getElem?_eq_getElem hlt)
        go_wp2
        go_round
        case rel => exact ⟨k + 1, by omega, by go_num, by rw [low_or l k hlt h8]⟩
        case measure => simp [intOf]; omega
      · go_wp2
        go_ret
        have : l.take k = l := List.take_of_length_le (by omega)
        rw [this]
        exact ⟨rfl, rfl⟩

set_option maxHeartbeats 400000 in
/-- bytes.Clone: nil stays nil; else a new row of the same bytes -/
theorem clone_any (v : Value) (l : List UInt8) (w : World) (hv : Bs w v l) (hl : l.length ≤ 140737488355328) :
    Calls Try.prog 59 #[v] w fun e w' => ∃ v', e = .returned v' ∧ w'.ownsRow w.heap.size 5 1 v' l.length (u8s l) ∧ Kept [] w w' := by
  have q22 : ∀ (w : World) (a : Option Addr) (n c n' c' : Nat), (binOp .eql 22 (.slice a n c) (.slice none n' c')).run Try.prog w = .ok (.bool a.isNone) w := fun w a n c n' c' => Lib.run_eql_slice_nil w _ _ a n c n' c' Try.underlying22
  obtain ⟨p, c, rfl, h1, h2, h3, h4⟩ := hv
  cases p with
  | none =>
    obtain rfl := h3 rfl
    obtain rfl : l = [] := List.eq_nil_of_length_eq_zero (by omega)
    go_enter Try.func59, Try.ntmps59
    go_wp2
    go_ret
    exact ⟨_, rfl, World.ownsRow_nil _ _ _ _, Kept.refl _ _⟩
  | some a =>
    go_enter Try.func59, Try.ntmps59
    have hB : Bs (w.alloc (.cells #[] 5)) (.slice (some a) l.length c) l := Bs.kept ⟨some a, c, rfl, h1, h2, h3, h4⟩ ((Kept.refl [] w).alloc _)
    go_wp2_with (at_builtin; refine wpList_append_bs rfl _ _ 22 rfl w.heap.size 5 Try.underlying22 (by kernel_rfl) _ _ _ rfl (World.ownsRow_made w #[] 0 (Nat.le_refl _) (by decide) rfl) _ l rfl hB (by omega) (by simp) ?_; intro v' w1 hown hg hat)
    go_ret
    exact ⟨_, rfl, by simpa using hown, ((Kept.refl [] w).alloc _).grown hg fun k hk => .inr (own_ge (World.ownsRow_made (base := w.heap.size) (e := 5) (size := 1) w #[] 0 (Nat.le_refl _) (by decide) rfl) k hk)⟩
end Go.Proofs.Ytebcmcmboomgfaa

/-
  OWN WORK. The widths: math/bits.Len64 at the four numbers that 'width' hands it.
-/
namespace Go.Proofs.Ytebcmcmboomgfaa
open Go.RowKit
set_option linter.unusedVariables false

theorem tab255' : Lib.len8tab.data[255]? = some 8 := by kernel_rfl
theorem tab255 (n : Nat) (h : n < Lib.len8tab.size) (hn : n = 255) : ((Lib.len8tab[n]'h).toNat : Int) = 8 := by
  have e : Lib.len8tab.data[n]? = some (Lib.len8tab[n]'h) := Array.getElem?_eq_getElem h
  generalize Lib.len8tab[n]'h = y at e
  rw [hn, tab255'] at e
  obtain rfl := Option.some.inj e
  rfl

set_option maxRecDepth 100000 in
theorem len8_any (x : Int) (w : World) (h1 : 255 ≤ x) (h2 : x ≤ 255) : Calls Try.prog 79 #[.int .u64 x] w fun e w' => e = .returned (.int .i64 8) ∧ w' = w := by
  have hsz : (Lib.len8tab.size : Int) = 256 := by decide +kernel
  go_enter Try.func79, Try.ntmps79
  go_wp2
  all_goals (go_ret; refine ⟨congrArg Ending.returned (congrArg (Value.int IntKind.i64) ?_), rfl⟩)
  rw [tab255 _ _ (by omega)]
  decide +kernel
theorem width8_any (w : World) : Calls Try.prog 68 #[] w fun e w' => e = .returned (.int .i64 1) ∧ w' = w := by
  go_enter Try.func68, Try.ntmps68
  go_wp2_with (go_at_call 79; refine (len8_any _ _ (by decide +kernel) (by decide +kernel)).mono ?_; rintro e w' ⟨rfl, rfl⟩)
  go_ret
  exact ⟨rfl, rfl⟩

set_option maxRecDepth 100000 in
theorem len16_any (x : Int) (w : World) (h1 : 65535 ≤ x) (h2 : x ≤ 65535) : Calls Try.prog 79 #[.int .u64 x] w fun e w' => e = .returned (.int .i64 16) ∧ w' = w := by
  have hsz : (Lib.len8tab.size : Int) = 256 := by decide +kernel
  go_enter Try.func79, Try.ntmps79
  go_wp2
  all_goals (go_ret; refine ⟨congrArg Ending.returned (congrArg (Value.int IntKind.i64) ?_), rfl⟩)
  rw [tab255 _ _ (by omega)]
  decide +kernel
theorem width16_any (w : World) : Calls Try.prog 86 #[] w fun e w' => e = .returned (.int .i64 2) ∧ w' = w := by
  go_enter Try.func86, Try.ntmps86
  go_wp2_with (go_at_call 79; refine (len16_any _ _ (by decide +kernel) (by decide +kernel)).mono ?_; rintro e w' ⟨rfl, rfl⟩)
  go_ret
  exact ⟨rfl, rfl⟩

set_option maxRecDepth 100000 in
theorem len32_any (x : Int) (w : World) (h1 : 4294967295 ≤ x) (h2 : x ≤ 4294967295) : Calls Try.prog 79 #[.int .u64 x] w fun e w' => e = .returned (.int .i64 32) ∧ w' = w := by
  have hsz : (Lib.len8tab.size : Int) = 256 := by decide +kernel
  go_enter Try.func79, Try.ntmps79
  go_wp2
  all_goals (go_ret; refine ⟨congrArg Ending.returned (congrArg (Value.int IntKind.i64) ?_), rfl⟩)
  rw [tab255 _ _ (by omega)]
  decide +kernel
set_option maxRecDepth 100000 in
theorem len64_any (x : Int) (w : World) (h1 : 18446744073709551615 ≤ x) (h2 : x ≤ 18446744073709551615) : Calls Try.prog 79 #[.int .u64 x] w fun e w' => e = .returned (.int .i64 64) ∧ w' = w := by
  have hsz : (Lib.len8tab.size : Int) = 256 := by decide +kernel
  go_enter Try.func79, Try.ntmps79
  go_wp2
  all_goals (go_ret; refine ⟨congrArg Ending.returned (congrArg (Value.int IntKind.i64) ?_), rfl⟩)
  rw [tab255 _ _ (by omega)]
  decide +kernel
theorem width64_any (w : World) : Calls Try.prog 69 #[] w fun e w' => e = .returned (.int .i64 8) ∧ w' = w := by
  go_enter Try.func69, Try.ntmps69
  go_wp2_with (go_at_call 79; refine (len64_any _ _ (by decide +kernel) (by decide +kernel)).mono ?_; rintro e w' ⟨rfl, rfl⟩)
  go_ret
  exact ⟨rfl, rfl⟩
end Go.Proofs.Ytebcmcmboomgfaa

/-
  OWN WORK. octet.Get at its four widths; the reader.
-/
namespace Go.Proofs.Ytebcmcmboomgfaa
open Go.RowKit
set_option linter.unusedVariables false

theorem sz8 : (Try.prog.info? 5).map (·.size) = some 1 := by kernel_rfl

theorem get64_short (v : Value) (l : List UInt8) (w : World) (hv : Bs w v l) (hl : l.length < 8) :
    Calls Try.prog 85 #[v] w fun e w' => e = .returned (.tuple #[.int .u64 0, .int .i64 10]) ∧ w' = w := by
  obtain ⟨p, c, rfl, -⟩ := hv
  have hl' : (l.length : Int) < 8 := by omega
  go_enter Try.func85, Try.ntmps85
  go_wp2_with (go_at_call 69; refine (width64_any _).mono ?_; rintro e w' ⟨rfl, rfl⟩)
  go_ret2
  exact ⟨rfl, rfl⟩
theorem get64_any (v : Value) (l : List UInt8) (w : World) (hv : Bs w v l) (hl : 8 ≤ l.length) :
    Calls Try.prog 85 #[v] w fun e w' => e = .returned (.tuple #[.int .u64 (low (l.take 8) : Int), .int .i64 0]) ∧ w' = w := by
  have hlo := low_take_lt l 8 hl
  clear hlo
  obtain ⟨p, c, rfl, h1, -⟩ := id hv
  obtain ⟨p2, hr1, -, hb1, -⟩ := hv.cuts (P := Try.prog) 22 5 Try.underlying22 sz8 8 hl
  have hl' : ((8 : Nat) : Int) ≤ (l.length : Int) := by omega
  go_enter Try.func85, Try.ntmps85
  go_wp2_with (first | (go_at_call 69; refine (width64_any _).mono ?_; rintro e w' ⟨rfl, rfl⟩) | (go_at_call 81; refine (low_any _ _ _ hb1 (by simp; omega)).mono ?_; rintro e w' ⟨rfl, rfl⟩))
  go_ret2
  exact ⟨rfl, rfl⟩
end Go.Proofs.Ytebcmcmboomgfaa

/-
  OWN WORK. octet's reader: NewReader, take, Row, Number, Int, Left, End.
-/
namespace Go.Proofs.Ytebcmcmboomgfaa
open Go.RowKit
set_option linter.unusedVariables false

theorem own_shape {w : World} {base e size : Nat} {v : Value} {n : Nat} {xs : List Value} (h : w.ownsRow base e size v n xs) : ∃ p n c, v = .slice p n c := by
  rcases h.2 with ⟨rfl, _⟩ | ⟨g, cap, cur, rfl, _⟩
  · exact ⟨_, _, _, rfl⟩
  · exact ⟨_, _, _, rfl⟩

set_option maxHeartbeats 400000 in
theorem newReader_lo (v : Value) (l : List UInt8) (w : World) (hv : Bs w v l) (hl : l.length ≤ 140737488355328) :
    Calls Try.prog 34 #[v] w fun e w' => ∃ g p n c, e = .returned (.pointer (some ⟨g, 0, none⟩)) ∧ w.heap.size ≤ g ∧ w'.heap[g]? = some (.cells #[.slice p n c] 92 (0, 0)) ∧ Bs w' (.slice p n c) l ∧ (∀ x, (Value.slice p n c).ownBlock = some x → w.heap.size ≤ x) ∧ Kept [] w w' := by
  go_enter Try.func34, Try.ntmps34
  go_wp2_with (go_at_call 59; refine (clone_any _ _ _ hv hl).mono ?_; rintro e w1 ⟨v', rfl, hown, hk⟩; obtain ⟨p, n, c, rfl⟩ := own_shape hown)
  go_ret
  exact ⟨w1.heap.size, p, n, c, rfl, hk.size, heap_alloc_new w1 _, (Bs.ofOwn hown).kept ((Kept.refl [] _).alloc _), fun x hx => own_ge hown x hx, hk.alloc _⟩
set_option maxHeartbeats 400000 in
theorem newReader_any (v : Value) (l : List UInt8) (w : World) (hv : Bs w v l) (hl : l.length ≤ 140737488355328) :
    Calls Try.prog 34 #[v] w fun e w' => ∃ g, e = .returned (.pointer (some ⟨g, 0, none⟩)) ∧ w.heap.size ≤ g ∧ Rd 92 w' g l ∧ Kept [] w w' := by
  go_enter Try.func34, Try.ntmps34
  go_wp2_with (go_at_call 59; refine (clone_any _ _ _ hv hl).mono ?_; rintro e w1 ⟨v', rfl, hown, hk⟩; obtain ⟨p, n, c, rfl⟩ := own_shape hown)
  go_ret
  exact ⟨w1.heap.size, rfl, hk.size, Rd.fresh (Bs.ofOwn hown), hk.alloc _⟩

set_option maxHeartbeats 400000 in
theorem take_any (g : Nat) (l : List UInt8) (n : Nat) (w : World) (hr : Rd 92 w g l) (hn : n ≤ l.length) :
    Calls Try.prog 82 #[.pointer (some ⟨g, 0, none⟩), .int .i64 (n : Int)] w fun e w' => ∃ v', e = .returned v' ∧ Bs w' v' (l.take n) ∧ Rd 92 w' g (l.drop n) ∧ Kept [g] w w' := by
  obtain ⟨p, m, c, hg, hb⟩ := hr
  obtain ⟨p', c', e', h1, h2, -⟩ := id hb
  cases e'
  obtain ⟨p2, hr1, hr2, hb1, hb2⟩ := hb.cuts (P := Try.prog) 22 5 Try.underlying22 sz8 n hn
  obtain ⟨hc, hf⟩ := Rd.cell hg
  obtain ⟨hrd, hkp⟩ := Rd.set hg hb2
  go_enter Try.func82, Try.ntmps82
  go_wp2
  go_ret
  exact ⟨_, rfl, hb1.keptBox hkp (fun x hx => by simp at hx; subst hx; exact .inl ⟨_, _, _, _, _, hg⟩), hrd, hkp⟩

theorem end_any (g : Nat) (l : List UInt8) (w : World) (hr : Rd 92 w g l) :
    Calls Try.prog 58 #[.pointer (some ⟨g, 0, none⟩)] w fun e w' => e = .returned (.int .i64 (if l.length = 0 then 0 else 11)) ∧ w' = w := by
  obtain ⟨p, m, c, hg, hb⟩ := hr
  obtain ⟨p', c', e', h1, h2, -⟩ := id hb
  cases e'
  obtain ⟨hc, hf⟩ := Rd.cell hg
  by_cases h0 : l.length = 0
  · have h0' : ¬ (0 : Int) < (l.length : Int) := by omega
    rw [if_pos h0]
    clear h0
    go_enter Try.func58, Try.ntmps58
    go_wp2
    go_ret
    exact ⟨rfl, rfl⟩
  · have h0' : (0 : Int) < (l.length : Int) := by omega
    rw [if_neg h0]
    clear h0
    go_enter Try.func58, Try.ntmps58
    go_wp2
    go_ret
    exact ⟨rfl, rfl⟩

theorem end_nil (g : Nat) (w : World) (hr : Rd 92 w g []) :
    Calls Try.prog 58 #[.pointer (some ⟨g, 0, none⟩)] w fun e w' => e = .returned (.int .i64 0) ∧ w' = w := end_any g [] w hr
theorem row_neg (g : Nat) (n : Int) (w : World) (hn : n < 0) :
    Calls Try.prog 87 #[.pointer (some ⟨g, 0, none⟩), .int .i64 n] w fun e w' => e = .returned (.tuple #[.slice none 0 0, .int .i64 30]) ∧ w' = w := by
  go_enter Try.func87, Try.ntmps87
  go_wp2
  go_ret2
  exact ⟨rfl, rfl⟩
theorem row_short (g : Nat) (l : List UInt8) (n : Int) (w : World) (hr : Rd 92 w g l) (hn : (l.length : Int) < n) :
    Calls Try.prog 87 #[.pointer (some ⟨g, 0, none⟩), .int .i64 n] w fun e w' => e = .returned (.tuple #[.slice none 0 0, .int .i64 10]) ∧ w' = w := by
  obtain ⟨p, m, c, hg, hb⟩ := hr
  obtain ⟨p', c', e', h1, h2, -⟩ := id hb
  cases e'
  obtain ⟨hc, hf⟩ := Rd.cell hg
  have h0 : ¬ n < 0 := by omega
  go_enter Try.func87, Try.ntmps87
  go_wp2
  go_ret2
  exact ⟨rfl, rfl⟩
set_option maxHeartbeats 400000 in
theorem row_any (g : Nat) (l : List UInt8) (n : Nat) (w : World) (hr : Rd 92 w g l) (hn : n ≤ l.length) (hl : l.length ≤ 140737488355328) :
    Calls Try.prog 87 #[.pointer (some ⟨g, 0, none⟩), .int .i64 (n : Int)] w fun e w' => ∃ v', e = .returned (.tuple #[v', .int .i64 0]) ∧ w'.ownsRow w.heap.size 5 1 v' n (u8s (l.take n)) ∧ Rd 92 w' g (l.drop n) ∧ Kept [g] w w' := by
  obtain ⟨p, m, c, hg, hb⟩ := id hr
  obtain ⟨p', c', e', h1, h2, -⟩ := id hb
  cases e'
  obtain ⟨hc, hf⟩ := Rd.cell hg
  have h0 : ¬ (n : Int) < 0 := by omega
  have h0' : ¬ (l.length : Int) < (n : Int) := by omega
  clear hb
  go_enter Try.func87, Try.ntmps87
  go_wp2_with (first | (go_at_call 82; refine (take_any g l n _ hr hn).mono ?_; rintro e w1 ⟨v1, rfl, hb1, hr1, hk1⟩) | (go_at_call 59; refine (clone_any _ _ _ hb1 (by simp; omega)).mono ?_; rintro e w2 ⟨v2, rfl, hown2, hk2⟩))
  go_ret2
  have hlen : (l.take n).length = n := by simp; omega
  rw [hlen] at hown2
  exact ⟨v2, rfl, own_mono hown2 hk1.size, hr1.kept hk2 (by simp), hk1.then hk2⟩

theorem number_bad (g : Nat) (n : Int) (w : World) (h1 : n ≠ 1) (h2 : n ≠ 2) (h4 : n ≠ 4) (h8 : n ≠ 8) :
    Calls Try.prog 71 #[.pointer (some ⟨g, 0, none⟩), .int .i64 n] w fun e w' => e = .returned (.tuple #[.int .u64 0, .int .i64 30]) ∧ w' = w := by
  have e1 : (n != 1) = true := by simpa using h1
  have e2 : (n != 2) = true := by simpa using h2
  have e4 : (n != 4) = true := by simpa using h4
  have e8 : (n != 8) = true := by simpa using h8
  clear h1 h2 h4 h8
  go_enter Try.func71, Try.ntmps71
  go_wp2
  go_ret2
  exact ⟨rfl, rfl⟩
theorem number_short (g : Nat) (l : List UInt8) (n : Nat) (w : World) (hr : Rd 92 w g l) (hn : n = 1 ∨ n = 2 ∨ n = 4 ∨ n = 8) (hl : l.length < n) :
    Calls Try.prog 71 #[.pointer (some ⟨g, 0, none⟩), .int .i64 (n : Int)] w fun e w' => e = .returned (.tuple #[.int .u64 0, .int .i64 10]) ∧ w' = w := by
  obtain ⟨p, m, c, hg, hb⟩ := hr
  obtain ⟨p', c', e', h1, h2, -⟩ := id hb
  cases e'
  obtain ⟨hc, hf⟩ := Rd.cell hg
  rcases hn with rfl | rfl | rfl | rfl
  all_goals
    go_enter Try.func71, Try.ntmps71
    go_wp2
    go_ret2
    exact ⟨rfl, rfl⟩
set_option maxHeartbeats 800000 in
theorem number_any (g : Nat) (l : List UInt8) (n : Nat) (w : World) (hr : Rd 92 w g l) (hn : n = 1 ∨ n = 2 ∨ n = 4 ∨ n = 8) (hl : n ≤ l.length) :
    Calls Try.prog 71 #[.pointer (some ⟨g, 0, none⟩), .int .i64 (n : Int)] w fun e w' => e = .returned (.tuple #[.int .u64 (low (l.take n) : Int), .int .i64 0]) ∧ Rd 92 w' g (l.drop n) ∧ Kept [g] w w' := by
  obtain ⟨p, m, c, hg, hb⟩ := id hr
  obtain ⟨p', c', e', h1, h2, -⟩ := id hb
  cases e'
  obtain ⟨hc, hf⟩ := Rd.cell hg
  clear hb
  have hT := fun n hn => take_any g l n w hr hn
  have HT : Hid (∀ n : Nat, n ≤ l.length → Calls Try.prog 82 #[.pointer (some ⟨g, 0, none⟩), .int .i64 (n : Int)] w fun e w' => ∃ v', e = .returned v' ∧ Bs w' v' (l.take n) ∧ Rd 92 w' g (l.drop n) ∧ Kept [g] w w') := hT
  clear hT
  rcases hn with rfl | rfl | rfl | rfl
  · go_enter Try.func71, Try.ntmps71
    go_wp2_with (first | (go_at_call 82; refine (HT.out 1 hl).mono ?_; rintro e w1 ⟨v1, rfl, hb1, hr1, hk1⟩) | (go_at_call 81; refine (low_any _ _ _ hb1 (by simp; omega)).mono ?_; rintro e w2 ⟨rfl, rfl⟩))
    go_ret2
    exact ⟨rfl, hr1, hk1⟩
  · go_enter Try.func71, Try.ntmps71
    go_wp2_with (first | (go_at_call 82; refine (HT.out 2 hl).mono ?_; rintro e w1 ⟨v1, rfl, hb1, hr1, hk1⟩) | (go_at_call 81; refine (low_any _ _ _ hb1 (by simp; omega)).mono ?_; rintro e w2 ⟨rfl, rfl⟩))
    go_ret2
    exact ⟨rfl, hr1, hk1⟩
  · go_enter Try.func71, Try.ntmps71
    go_wp2_with (first | (go_at_call 82; refine (HT.out 4 hl).mono ?_; rintro e w1 ⟨v1, rfl, hb1, hr1, hk1⟩) | (go_at_call 81; refine (low_any _ _ _ hb1 (by simp; omega)).mono ?_; rintro e w2 ⟨rfl, rfl⟩))
    go_ret2
    exact ⟨rfl, hr1, hk1⟩
  · go_enter Try.func71, Try.ntmps71
    go_wp2_with (first | (go_at_call 82; refine (HT.out 8 hl).mono ?_; rintro e w1 ⟨v1, rfl, hb1, hr1, hk1⟩) | (go_at_call 81; refine (low_any _ _ _ hb1 (by simp; omega)).mono ?_; rintro e w2 ⟨rfl, rfl⟩))
    go_ret2
    exact ⟨rfl, hr1, hk1⟩

theorem int_short (g : Nat) (l : List UInt8) (w : World) (hr : Rd 92 w g l) (hl : l.length < 8) :
    Calls Try.prog 77 #[.pointer (some ⟨g, 0, none⟩)] w fun e w' => e = .returned (.tuple #[.int .i64 0, .int .i64 10]) ∧ w' = w := by
  obtain ⟨p, m, c, hg, hb⟩ := id hr
  obtain ⟨hc, hf⟩ := Rd.cell hg
  go_enter Try.func77, Try.ntmps77
  go_wp2_with (go_at_call 85; refine (get64_short _ _ _ hb hl).mono ?_; rintro e w1 ⟨rfl, rfl⟩)
  go_ret2
  exact ⟨rfl, rfl⟩
theorem int_big (g : Nat) (l : List UInt8) (w : World) (hr : Rd 92 w g l) (hl : 8 ≤ l.length) (hv : 1152921504606846976 < low (l.take 8)) :
    Calls Try.prog 77 #[.pointer (some ⟨g, 0, none⟩)] w fun e w' => e = .returned (.tuple #[.int .i64 0, .int .i64 30]) ∧ w' = w := by
  obtain ⟨p, m, c, hg, hb⟩ := id hr
  obtain ⟨hc, hf⟩ := Rd.cell hg
  have hv' : (1152921504606846976 : Int) < (low (l.take 8) : Int) := by omega
  clear hv
  go_enter Try.func77, Try.ntmps77
  go_wp2_with (go_at_call 85; refine (get64_any _ _ _ hb hl).mono ?_; rintro e w1 ⟨rfl, rfl⟩)
  go_ret2
  exact ⟨rfl, rfl⟩
set_option maxHeartbeats 800000 in
theorem int_any (g : Nat) (l : List UInt8) (w : World) (hr : Rd 92 w g l) (hl : 8 ≤ l.length) (hv : low (l.take 8) ≤ 1152921504606846976) :
    Calls Try.prog 77 #[.pointer (some ⟨g, 0, none⟩)] w fun e w' => e = .returned (.tuple #[.int .i64 (low (l.take 8) : Int), .int .i64 0]) ∧ Rd 92 w' g (l.drop 8) ∧ Kept [g] w w' := by
  obtain ⟨p, m, c, hg, hb⟩ := id hr
  obtain ⟨hc, hf⟩ := Rd.cell hg
  have hv' : (low (l.take 8) : Int) ≤ (1152921504606846976 : Int) := by omega
  have hwr : IntKind.i64.wrap (low (l.take 8) : Int) = (low (l.take 8) : Int) := by rw [IntKind.wrap_i64]; omega
  clear hv
  go_enter Try.func77, Try.ntmps77
  go_wp2_with (first | (go_at_call 85; refine (get64_any _ _ _ hb hl).mono ?_; rintro e w1 ⟨rfl, rfl⟩) | (go_at_call 82; refine (take_any g l 8 _ hr hl).mono ?_; rintro e w1 ⟨v1, rfl, hb1, hr1, hk1⟩))
  go_ret2
  exact ⟨rfl, hr1, hk1⟩
end Go.Proofs.Ytebcmcmboomgfaa

/-
  OWN WORK (by mkpr0.py). octet's reader, with where its bytes lie.
-/
namespace Go.Proofs.Ytebcmcmboomgfaa
open Go.RowKit
set_option linter.unusedVariables false

/-- a reader whose bytes lie in a block below b -/
def RdL (b : Nat) (w : World) (g : Nat) (l : List UInt8) : Prop := ∃ p n c, w.heap[g]? = some (.cells #[.slice p n c] 92 (0, 0)) ∧ Bs w (.slice p n c) l ∧ ∀ x, (Value.slice p n c).ownBlock = some x → x < b
theorem hideLo {p : Prop} (h : p) : Hid p := h
theorem RdL.kept {b : Nat} {w w' : World} {g : Nat} {l : List UInt8} (h : RdL b w g l) (k : Kept [] w w') : RdL b w' g l := by
  have hl := h
  obtain ⟨p, n, c, h1, h2, h3⟩ := h
  exact ⟨p, n, c, (k.block g (Array.getElem?_eq_some_iff.1 h1).1 (by simp)).trans h1, h2.kept k, h3⟩
theorem RdL.rd {b : Nat} {w : World} {g : Nat} {l : List UInt8} (h : RdL b w g l) : Rd 92 w g l := by
  obtain ⟨p, n, c, h1, h2, -⟩ := h
  exact ⟨p, n, c, h1, h2⟩
theorem Bs.cutsB {P : Program} (t e : TypeId) (hu : P.underlying t = some (.slice e)) (hsz : (P.info? e).map (·.size) = some 1) {w : World} {p : Option Addr} {n c : Nat} {l : List UInt8} (h : Bs w (.slice p n c) l) (k : Nat) (hk : k ≤ n) :
    ∃ p2, (∀ u, (Instr.slice t (.slice p n c) none (some (.int .i64 (k : Int))) none).run P u = .ok (.slice p k c) u) ∧
      (∀ u, (Instr.slice t (.slice p n c) (some (.int .i64 (k : Int))) none none).run P u = .ok (.slice p2 (n - k) (c - k)) u) ∧ Bs w (.slice p k c) (l.take k) ∧ Bs w (.slice p2 (n - k) (c - k)) (l.drop k) ∧ ∀ m m' x, (Value.slice p2 m m').ownBlock = some x → (Value.slice p n c).ownBlock = some x := by
  obtain ⟨p', c', e', h1, h2, -⟩ := id h
  cases e'
  have hc := h.cut (P := P) hk
  refine ⟨_, fun u => run_cut_to u t e hu hsz p _ c k (by omega), fun u => run_cut_from u t e hu hsz p _ c k hk, hc.1, hc.2, fun m m' x hx => ?_⟩
  cases p with
  | none => split at hx <;> simp [Value.ownBlock] at hx
  | some a => split at hx <;> simpa [Value.ownBlock, add_block] using hx

set_option maxHeartbeats 400000 in
theorem take_lo (b g : Nat) (l : List UInt8) (n : Nat) (w : World) (hr : RdL b w g l) (hn : n ≤ l.length) :
    Calls Try.prog 82 #[.pointer (some ⟨g, 0, none⟩), .int .i64 (n : Int)] w fun e w' => ∃ v', e = .returned v' ∧ Bs w' v' (l.take n) ∧ RdL b w' g (l.drop n) ∧ Kept [g] w w' := by
  obtain ⟨p, m, c, hg, hb, hlo⟩ := hr
  obtain ⟨p', c', e', h1, h2, -⟩ := id hb
  cases e'
  obtain ⟨p2, hr1, hr2, hb1, hb2, hb3⟩ := hb.cutsB (P := Try.prog) 22 5 Try.underlying22 sz8 n hn
  obtain ⟨hc, hf⟩ := Rd.cell hg
  obtain ⟨hrd, hkp⟩ := Rd.set hg hb2
  have HLO := @hideLo _ (fun x hx => hlo x (hb3 (l.length - n) (c - n) x hx))
  go_enter Try.func82, Try.ntmps82
  go_wp2
  go_ret
  exact ⟨_, rfl, hb1.keptBox hkp (fun x hx => by simp at hx; subst hx; exact .inl ⟨_, _, _, _, _, hg⟩), ⟨p2, _, _, one_setCell hg, hb2.keptBox hkp (fun x hx => by simp at hx; subst hx; exact .inl ⟨_, _, _, _, _, hg⟩), HLO.out⟩, hkp⟩
set_option maxHeartbeats 400000 in
theorem row_lo (b g : Nat) (l : List UInt8) (n : Nat) (w : World) (hr : RdL b w g l) (hn : n ≤ l.length) (hl : l.length ≤ 140737488355328) :
    Calls Try.prog 87 #[.pointer (some ⟨g, 0, none⟩), .int .i64 (n : Int)] w fun e w' => ∃ v', e = .returned (.tuple #[v', .int .i64 0]) ∧ w'.ownsRow w.heap.size 5 1 v' n (u8s (l.take n)) ∧ RdL b w' g (l.drop n) ∧ Kept [g] w w' := by
  obtain ⟨p, m, c, hg, hb, hlo⟩ := id hr
  obtain ⟨p', c', e', h1, h2, -⟩ := id hb
  cases e'
  obtain ⟨hc, hf⟩ := Rd.cell hg
  have h0 : ¬ (n : Int) < 0 := by omega
  have h0' : ¬ (l.length : Int) < (n : Int) := by omega
  clear hb hlo
  go_enter Try.func87, Try.ntmps87
  go_wp2_with (first | (go_at_call 82; refine (take_lo b g l n _ hr hn).mono ?_; rintro e w1 ⟨v1, rfl, hb1, hr1, hk1⟩) | (go_at_call 59; refine (clone_any _ _ _ hb1 (by simp; omega)).mono ?_; rintro e w2 ⟨v2, rfl, hown2, hk2⟩))
  go_ret2
  have hlen : (l.take n).length = n := by simp; omega
  rw [hlen] at hown2
  exact ⟨v2, rfl, own_mono hown2 hk1.size, hr1.kept hk2, hk1.then hk2⟩
set_option maxHeartbeats 800000 in
theorem number_lo (b g : Nat) (l : List UInt8) (n : Nat) (w : World) (hr : RdL b w g l) (hn : n = 1 ∨ n = 2) (hl : n ≤ l.length) :
    Calls Try.prog 71 #[.pointer (some ⟨g, 0, none⟩), .int .i64 (n : Int)] w fun e w' => e = .returned (.tuple #[.int .u64 (low (l.take n) : Int), .int .i64 0]) ∧ RdL b w' g (l.drop n) ∧ Kept [g] w w' := by
  obtain ⟨p, m, c, hg, hb, hlo⟩ := id hr
  obtain ⟨p', c', e', h1, h2, -⟩ := id hb
  cases e'
  obtain ⟨hc, hf⟩ := Rd.cell hg
  clear hb hlo
  have HT := @hideLo _ (fun (n : Nat) (hn : n ≤ l.length) => take_lo b g l n w hr hn)
  rcases hn with rfl | rfl
  · go_enter Try.func71, Try.ntmps71
    go_wp2_with (first | (go_at_call 82; refine (HT.out 1 hl).mono ?_; rintro e w1 ⟨v1, rfl, hb1, hr1, hk1⟩) | (go_at_call 81; refine (low_any _ _ _ hb1 (by simp; omega)).mono ?_; rintro e w2 ⟨rfl, rfl⟩))
    go_ret2
    exact ⟨rfl, hr1, hk1⟩
  · go_enter Try.func71, Try.ntmps71
    go_wp2_with (first | (go_at_call 82; refine (HT.out 2 hl).mono ?_; rintro e w1 ⟨v1, rfl, hb1, hr1, hk1⟩) | (go_at_call 81; refine (low_any _ _ _ hb1 (by simp; omega)).mono ?_; rintro e w2 ⟨rfl, rfl⟩))
    go_ret2
    exact ⟨rfl, hr1, hk1⟩
set_option maxHeartbeats 800000 in
theorem int_lo (b g : Nat) (l : List UInt8) (w : World) (hr : RdL b w g l) (hl : 8 ≤ l.length) (hv : low (l.take 8) ≤ 1152921504606846976) :
    Calls Try.prog 77 #[.pointer (some ⟨g, 0, none⟩)] w fun e w' => e = .returned (.tuple #[.int .i64 (low (l.take 8) : Int), .int .i64 0]) ∧ RdL b w' g (l.drop 8) ∧ Kept [g] w w' := by
  obtain ⟨p, m, c, hg, hb, hlo⟩ := id hr
  obtain ⟨hc, hf⟩ := Rd.cell hg
  have hv' : (low (l.take 8) : Int) ≤ (1152921504606846976 : Int) := by omega
  have hwr : IntKind.i64.wrap (low (l.take 8) : Int) = (low (l.take 8) : Int) := by rw [IntKind.wrap_i64]; omega
  clear hv hlo
  go_enter Try.func77, Try.ntmps77
  go_wp2_with (first | (go_at_call 85; refine (get64_any _ _ _ hb hl).mono ?_; rintro e w1 ⟨rfl, rfl⟩) | (go_at_call 82; refine (take_lo b g l 8 _ hr hl).mono ?_; rintro e w1 ⟨v1, rfl, hb1, hr1, hk1⟩))
  go_ret2
  exact ⟨rfl, hr1, hk1⟩
theorem newReader_low (v : Value) (l : List UInt8) (w : World) (hv : Bs w v l) (hl : l.length ≤ 140737488355328) :
    Calls Try.prog 34 #[v] w fun e w' => ∃ g, e = .returned (.pointer (some ⟨g, 0, none⟩)) ∧ w.heap.size ≤ g ∧ RdL w'.heap.size w' g l ∧ Kept [] w w' := by
  go_enter Try.func34, Try.ntmps34
  go_wp2_with (go_at_call 59; refine (clone_any _ _ _ hv hl).mono ?_; rintro e w1 ⟨v', rfl, hown, hk⟩; obtain ⟨p, n, c, rfl⟩ := own_shape hown)
  go_ret
  exact ⟨w1.heap.size, rfl, hk.size, ⟨p, n, c, heap_alloc_new w1 _, (Bs.ofOwn hown).kept ((Kept.refl [] _).alloc _), fun x hx => Nat.lt_of_lt_of_le (hown.lt x hx).2 (by simp)⟩, hk.alloc _⟩
end Go.Proofs.Ytebcmcmboomgfaa

/-
  OWN WORK (by mkpr5.py). record: giveUp, number, eight, row.
-/
namespace Go.Proofs.Ytebcmcmboomgfaa
open Go.RowKit
set_option linter.unusedVariables false
set_option linter.unusedSimpArgs false

/-- an error that was given up with -/
def Gave (e : Ending) : Prop := ∃ x : Int, e = .panicked [{ v := .iface 28 (.int .i64 x), recovered := false }]
theorem qGive0 (w : World) : Calls Try.prog 56 #[.int .i64 0] w fun e w' => e = .returned (.tuple #[]) ∧ w' = w := by
  go_enter Try.func56, Try.ntmps56
  go_wp2
  go_end0
  exact ⟨rfl, rfl⟩
theorem qGive (x : Int) (hx : x ≠ 0) (w : World) : Calls Try.prog 56 #[.int .i64 x] w fun e w' => e = .panicked [{ v := .iface 28 (.int .i64 x), recovered := false }] ∧ w' = w := by
  have hb : (x != 0) = true := by simpa using hx
  go_enter Try.func56, Try.ntmps56
  go_wp2
  exact ⟨rfl, rfl, rfl⟩
theorem takeN_low : ∀ (l : List UInt8), takeN l = low l
  | [] => rfl
  | x :: r => by simp [takeN, low, takeN_low r]
theorem num_low {n v : Nat} {l r : List UInt8} (h : num n l = some (v, r)) : n ≤ l.length ∧ v = low (l.take n) ∧ r = l.drop n ∧ low (l.take n) ≤ 1152921504606846976 := by
  unfold num at h
  split at h
  · cases h
  split at h
  · rename_i h1 h2
    simp at h
    rw [takeN_low] at h h2
    exact ⟨by omega, h.1.symm, h.2.symm, h2⟩
  · cases h
theorem num_none {n : Nat} {l : List UInt8} (h : num n l = none) : l.length < n ∨ (n ≤ l.length ∧ 1152921504606846976 < low (l.take n)) := by
  unfold num at h
  split at h
  · rename_i h1; exact .inl h1
  split at h
  · cases h
  · rename_i h1 h2
    rw [takeN_low] at h2
    refine .inr ⟨by omega, ?_⟩
    unfold topLsn at h2
    omega
/-- the reader g, and the source that holds it -/
abbrev Rs (bb : Nat) (w : World) (g : Nat) (l : List UInt8) : Prop := RdL bb w g l
def src (g : Nat) : Value := .agg #[.pointer (some ⟨g, 0, none⟩)]
theorem Rs.alloc {bb : Nat} {w : World} {g : Nat} {l : List UInt8} (h : Rs bb w g l) (o : Obj) : Rs bb (w.alloc o) g l := h.kept ((Kept.refl [] w).alloc _)
theorem kept_box {w w' : World} {g : Nat} {o : Obj} (k : Kept [g] (w.alloc o) w') : Kept [g] w w' := ((Kept.refl [g] w).alloc o).trans k (fun x hx => .inl hx)

set_option maxHeartbeats 800000 in
theorem qNum1_some (bb g v : Nat) (l r : List UInt8) (w : World) (hr : Rs bb w g l) (h : num 1 l = some (v, r)) : Calls Try.prog 54 #[src g, .int .i64 1] w fun e w' => e = .returned (.int .i64 (v : Int)) ∧ Rs bb w' g r ∧ Kept [g] w w' := by
  obtain ⟨h1, rfl, rfl, -⟩ := num_low h
  have hlt : low (l.take 1) < 65536 := by have := low_lt (l.take 1); rw [List.length_take, Nat.min_eq_left h1] at this; omega
  have hc := number_lo bb g l 1 (w.alloc (.cells #[.pointer (some ⟨g, 0, none⟩)] 64)) (hr.alloc _) (by omega) h1
  have hw : IntKind.i64.wrap (low (l.take 1) : Int) = (low (l.take 1) : Int) := wrap_i64_of (by omega) (by omega)
  generalize low (l.take 1) = v at *
  clear h hlt
  unfold src
  go_enter Try.func54, Try.ntmps54
  go_wp2_with fail
  refine hc.mono ?_
  rintro e w1 ⟨rfl, hr1, k1⟩
  clear hc
  go_wp2_with fail
  refine (qGive0 _).mono ?_
  rintro e w2 ⟨rfl, rfl⟩
  have KE := @hideH _ (And.intro hr1 (kept_box k1))
  clear hr1 k1
  go_wp2
  go_ret
  exact ⟨rfl, KE.out⟩
set_option maxHeartbeats 800000 in
theorem qNum1_none (bb g : Nat) (l : List UInt8) (w : World) (hr : Rs bb w g l) (h : num 1 l = none) : Calls Try.prog 54 #[src g, .int .i64 1] w fun e w' => Gave e ∧ Kept [g] w w' := by
  have h1 : l.length < 1 := by
    rcases num_none h with q | ⟨q1, q2⟩
    · exact q
    · have := low_lt (l.take 1); rw [List.length_take, Nat.min_eq_left q1] at this; omega
  have hc := number_short g l 1 (w.alloc (.cells #[.pointer (some ⟨g, 0, none⟩)] 64)) (hr.alloc _).rd (by omega) h1
  clear h h1 hr
  unfold src
  go_enter Try.func54, Try.ntmps54
  go_wp2_with fail
  refine hc.mono ?_
  rintro e w1 ⟨rfl, rfl⟩
  clear hc
  go_wp2_with fail
  refine (qGive 10 (by decide) _).mono ?_
  rintro e w2 ⟨rfl, rfl⟩
  exact ⟨rfl, ⟨_, rfl⟩, (Kept.refl [g] w).alloc _⟩
set_option maxHeartbeats 800000 in
theorem qNum2_some (bb g v : Nat) (l r : List UInt8) (w : World) (hr : Rs bb w g l) (h : num 2 l = some (v, r)) : Calls Try.prog 54 #[src g, .int .i64 2] w fun e w' => e = .returned (.int .i64 (v : Int)) ∧ Rs bb w' g r ∧ Kept [g] w w' := by
  obtain ⟨h1, rfl, rfl, -⟩ := num_low h
  have hlt : low (l.take 2) < 65536 := by have := low_lt (l.take 2); rw [List.length_take, Nat.min_eq_left h1] at this; omega
  have hc := number_lo bb g l 2 (w.alloc (.cells #[.pointer (some ⟨g, 0, none⟩)] 64)) (hr.alloc _) (by omega) h1
  have hw : IntKind.i64.wrap (low (l.take 2) : Int) = (low (l.take 2) : Int) := wrap_i64_of (by omega) (by omega)
  generalize low (l.take 2) = v at *
  clear h hlt
  unfold src
  go_enter Try.func54, Try.ntmps54
  go_wp2_with fail
  refine hc.mono ?_
  rintro e w1 ⟨rfl, hr1, k1⟩
  clear hc
  go_wp2_with fail
  refine (qGive0 _).mono ?_
  rintro e w2 ⟨rfl, rfl⟩
  have KE := @hideH _ (And.intro hr1 (kept_box k1))
  clear hr1 k1
  go_wp2
  go_ret
  exact ⟨rfl, KE.out⟩
set_option maxHeartbeats 800000 in
theorem qNum2_none (bb g : Nat) (l : List UInt8) (w : World) (hr : Rs bb w g l) (h : num 2 l = none) : Calls Try.prog 54 #[src g, .int .i64 2] w fun e w' => Gave e ∧ Kept [g] w w' := by
  have h1 : l.length < 2 := by
    rcases num_none h with q | ⟨q1, q2⟩
    · exact q
    · have := low_lt (l.take 2); rw [List.length_take, Nat.min_eq_left q1] at this; omega
  have hc := number_short g l 2 (w.alloc (.cells #[.pointer (some ⟨g, 0, none⟩)] 64)) (hr.alloc _).rd (by omega) h1
  clear h h1 hr
  unfold src
  go_enter Try.func54, Try.ntmps54
  go_wp2_with fail
  refine hc.mono ?_
  rintro e w1 ⟨rfl, rfl⟩
  clear hc
  go_wp2_with fail
  refine (qGive 10 (by decide) _).mono ?_
  rintro e w2 ⟨rfl, rfl⟩
  exact ⟨rfl, ⟨_, rfl⟩, (Kept.refl [g] w).alloc _⟩
set_option maxHeartbeats 800000 in
theorem qEt_some (bb g v : Nat) (l r : List UInt8) (w : World) (hr : Rs bb w g l) (h : num 8 l = some (v, r)) : Calls Try.prog 57 #[src g] w fun e w' => e = .returned (.int .i64 (v : Int)) ∧ Rs bb w' g r ∧ Kept [g] w w' := by
  obtain ⟨h1, rfl, rfl, h2⟩ := num_low h
  have hc := int_lo bb g l (w.alloc (.cells #[.pointer (some ⟨g, 0, none⟩)] 64)) (hr.alloc _) h1 h2
  generalize low (l.take 8) = v at *
  clear h h2
  unfold src
  go_enter Try.func57, Try.ntmps57
  go_wp2_with fail
  refine hc.mono ?_
  rintro e w1 ⟨rfl, hr1, k1⟩
  clear hc
  go_wp2_with fail
  refine (qGive0 _).mono ?_
  rintro e w2 ⟨rfl, rfl⟩
  have KE := @hideH _ (And.intro hr1 (kept_box k1))
  clear hr1 k1
  go_wp2
  go_ret
  exact ⟨rfl, KE.out⟩
set_option maxHeartbeats 800000 in
theorem qEt_none (bb g : Nat) (l : List UInt8) (w : World) (hr : Rs bb w g l) (h : num 8 l = none) : Calls Try.prog 57 #[src g] w fun e w' => Gave e ∧ Kept [g] w w' := by
  have hq : ∃ x : Int, x ≠ 0 ∧ Calls Try.prog 77 #[.pointer (some ⟨g, 0, none⟩)] (w.alloc (.cells #[.pointer (some ⟨g, 0, none⟩)] 64)) fun e w' => e = .returned (.tuple #[.int .i64 0, .int .i64 x]) ∧ w' = (w.alloc (.cells #[.pointer (some ⟨g, 0, none⟩)] 64)) := by
    rcases num_none h with q | ⟨q1, q2⟩
    · exact ⟨10, by decide, int_short g l _ (hr.alloc _).rd q⟩
    · exact ⟨30, by decide, int_big g l _ (hr.alloc _).rd q1 q2⟩
  obtain ⟨x, hx, hc⟩ := hq
  clear h hr
  unfold src
  go_enter Try.func57, Try.ntmps57
  go_wp2_with fail
  refine hc.mono ?_
  rintro e w1 ⟨rfl, rfl⟩
  clear hc
  go_wp2_with fail
  refine (qGive x hx _).mono ?_
  rintro e w2 ⟨rfl, rfl⟩
  exact ⟨rfl, ⟨_, rfl⟩, (Kept.refl [g] w).alloc _⟩
theorem raw_parts {n : Nat} {l x r : List UInt8} (h : raw n l = some (x, r)) : n ≤ l.length ∧ x = l.take n ∧ r = l.drop n := by
  unfold raw at h
  split at h
  · cases h
  · rename_i h1
    simp at h
    exact ⟨by omega, h.1.symm, h.2.symm⟩
theorem raw_none {n : Nat} {l : List UInt8} (h : raw n l = none) : l.length < n := by
  unfold raw at h
  split at h
  · rename_i h1; exact h1
  · cases h
set_option maxHeartbeats 800000 in
theorem qRaw_some (bb g n : Nat) (l x r : List UInt8) (w : World) (hr : Rs bb w g l) (h : raw n l = some (x, r)) (hl : l.length ≤ 140737488355328) : Calls Try.prog 84 #[src g, .int .i64 (n : Int)] w fun e w' => ∃ u, e = .returned u ∧ w'.ownsRow w.heap.size 5 1 u x.length (u8s x) ∧ Rs bb w' g r ∧ Kept [g] w w' := by
  obtain ⟨h1, rfl, rfl⟩ := raw_parts h
  have hc := row_lo bb g l n (w.alloc (.cells #[.pointer (some ⟨g, 0, none⟩)] 64)) (hr.alloc _) h1 hl
  have HL := @hideH _ hl
  clear h hl
  unfold src
  go_enter Try.func84, Try.ntmps84
  go_wp2_with fail
  refine hc.mono ?_
  rintro e w1 ⟨u, rfl, ho, hr1, k1⟩
  clear hc
  go_wp2_with fail
  refine (qGive0 _).mono ?_
  rintro e w2 ⟨rfl, rfl⟩
  have KE := @hideH _ (And.intro (own_mono ho (show w.heap.size ≤ _ by simp)) (And.intro hr1 (kept_box k1)))
  clear hr1 k1 ho
  go_wp2
  go_ret
  exact ⟨u, rfl, by rw [List.length_take, Nat.min_eq_left h1]; exact KE.out.1, KE.out.2⟩
set_option maxHeartbeats 800000 in
theorem qRaw_none (bb g n : Nat) (l : List UInt8) (w : World) (hr : Rs bb w g l) (h : raw n l = none) : Calls Try.prog 84 #[src g, .int .i64 (n : Int)] w fun e w' => Gave e ∧ Kept [g] w w' := by
  have hc := row_short g l (n : Int) (w.alloc (.cells #[.pointer (some ⟨g, 0, none⟩)] 64)) (hr.alloc _).rd (by have := raw_none h; omega)
  clear h hr
  unfold src
  go_enter Try.func84, Try.ntmps84
  go_wp2_with fail
  refine hc.mono ?_
  rintro e w1 ⟨rfl, rfl⟩
  clear hc
  go_wp2_with fail
  refine (qGive 10 (by decide) _).mono ?_
  rintro e w2 ⟨rfl, rfl⟩
  exact ⟨rfl, ⟨_, rfl⟩, (Kept.refl [g] w).alloc _⟩
end Go.Proofs.Ytebcmcmboomgfaa

/-
  OWN WORK. The document's records (tidemarkref09): put and append, one behind the other.
-/
namespace Go.Proofs.Ytebcmcmboomgfaa
open Go.RowKit
set_option linter.unusedVariables false

theorem own_baseK {w : World} {b b' e n : Nat} {v : Value} {xs : List Value} (h : w.ownsRow b e 1 v n xs) (hb : b' ≤ b) : w.ownsRow b' e 1 v n xs := by
  rcases h with ⟨h1, h2 | ⟨g, cap, cur, h2, h3, h4⟩⟩
  · exact ⟨h1, .inl h2⟩
  · exact ⟨h1, .inr ⟨g, cap, cur, h2, Nat.le_trans hb h3, h4⟩⟩
/-- u: a row of bytes of one's own, made since w0 -/
def Acc (w0 w : World) (u : Value) (b : List UInt8) : Prop := w.ownsRow w0.heap.size 5 1 u b.length (u8s b) ∧ Kept [] w0 w
theorem Acc.nil {w0 w : World} (k : Kept [] w0 w) : Acc w0 w (.slice none 0 0) [] := ⟨by simpa [u8s] using World.ownsRow_nil w w0.heap.size 5 1, k⟩
theorem Acc.then {w0 w w' : World} {u : Value} {b : List UInt8} (h : Acc w0 w u b) (k : Kept [] w w') : Acc w0 w' u b := ⟨own_of_kept h.1 k (by simp), h.2.then k⟩
theorem Acc.put {w0 w : World} {u : Value} {b : List UInt8} (h : Acc w0 w u b) (z : Int) (n : Nat) (hz : 0 ≤ z) (hz2 : z ≤ 1152921504606846976) (hn : n ≤ 8) (hcap : b.length ≤ 100000) :
    Calls Try.prog 40 #[u, .int .i64 z, .int .i64 (n : Int)] w fun e w' => ∃ u' acc, e = .returned u' ∧ Hid (acc = b ++ putN n z.toNat ∧ acc.length = b.length + n) ∧ Acc w0 w' u' acc := by
  have hp := rPut u b z.toNat n w0.heap.size w h.1 (by unfold topLsn; omega) hn (by omega) h.2.size
  rw [Int.toNat_of_nonneg hz] at hp
  refine hp.mono ?_
  rintro e w' ⟨u', rfl, o, k, -⟩
  refine ⟨u', b ++ putN n z.toNat, rfl, ⟨rfl, by rw [List.length_append, putN_length]⟩, ?_, h.2.trans k (fun x hx => .inr (own_ge h.1 x (by simpa using hx)))⟩
  rw [List.length_append, putN_length]
  exact o
end Go.Proofs.Ytebcmcmboomgfaa

/-
  OWN WORK. The document's records (tidemarkref09): the tape: take.
-/
namespace Go.Proofs.Ytebcmcmboomgfaa
open Go.RowKit
set_option linter.unusedVariables false
set_option linter.unusedSimpArgs false

/-- the tape at block g: the bytes l, read up to n -/
def Tp (w : World) (g : Nat) (tv : Value) (l : List UInt8) (n : Nat) (bad : Bool) : Prop := Blk w g 73 [tv, .int .i64 (n : Int), .bool bad] ∧ Bs w tv l ∧ n ≤ l.length ∧ (l ≠ [] → ∀ x, tv.ownBlock = some x → x ≠ g)
theorem Bs.keptOwnNe {w w' : World} {v : Value} {l : List UInt8} {S : List Nat} (h : Bs w v l) (k : Kept S w w') (hS : l ≠ [] → ∀ x, v.ownBlock = some x → x ∉ S) : Bs w' v l := by
  by_cases hl : l = []
  · subst hl
    obtain ⟨p, c, e, h1, h2, h3, -⟩ := h
    exact ⟨p, c, e, h1, h2, h3, fun a _ i x hx => by simp at hx⟩
  · exact h.keptOwn k (hS hl)
theorem takeN_drop : ∀ (m : Nat) (l : List UInt8), takeN (l.drop m) * 256 ^ m ≤ takeN l
  | 0, l => by simp
  | m + 1, [] => by simp [takeN]
  | m + 1, b :: r => by
    have := takeN_drop m r
    simp only [List.drop_succ_cons, takeN, Nat.pow_succ]
    calc takeN (r.drop m) * (256 ^ m * 256) = (takeN (r.drop m) * 256 ^ m) * 256 := by rw [Nat.mul_assoc]
      _ ≤ takeN r * 256 := Nat.mul_le_mul_right _ this
      _ ≤ b.toNat + 256 * takeN r := by omega
theorem takeN_at {l : List UInt8} {m : Nat} {x : UInt8} (h : l[m]? = some x) : takeN (l.drop m) = x.toNat + 256 * takeN (l.drop (m + 1)) := by
  obtain ⟨hm, rfl⟩ := List.getElem?_eq_some_iff.1 h
  rw [List.drop_eq_getElem_cons hm]
  rfl
theorem num_big {n m : Nat} {l : List UInt8} (hn : n ≤ l.length) (hm : 1 ≤ m) (h : 4503599627370496 < takeN ((l.take n).drop m)) : num n l = none := by
  have h1 := takeN_drop m (l.take n)
  have h2 : 256 ^ 1 ≤ 256 ^ m := Nat.pow_le_pow_right (by omega) hm
  have h3 : takeN ((l.take n).drop m) * 256 ≤ takeN (l.take n) := Nat.le_trans (Nat.mul_le_mul_left _ (by simpa using h2)) h1
  unfold num
  rw [if_neg (by omega), if_neg (by unfold topLsn; omega)]
theorem Tp.set {w : World} {g : Nat} {tv : Value} {l : List UInt8} {n : Nat} {bad : Bool} (h : Tp w g tv l n bad) (n' : Nat) (hn : n' ≤ l.length) : Tp (w.setCell ⟨g, 1, none⟩ (.int .i64 (n' : Int))) g tv l n' bad ∧ Kept [g] w (w.setCell ⟨g, 1, none⟩ (.int .i64 (n' : Int))) := by
  obtain ⟨h1, h2, h3, h4⟩ := h
  obtain ⟨b, k⟩ := h1.set 1 (.int .i64 (n' : Int))
  exact ⟨⟨b, h2.keptOwnNe k (fun h0 x hx hm => by simp at hm; exact h4 h0 x hx hm), hn, h4⟩, k⟩
theorem Tp.spoil {w : World} {g : Nat} {tv : Value} {l : List UInt8} {n : Nat} {bad : Bool} (h : Tp w g tv l n bad) : Tp (w.setCell ⟨g, 2, none⟩ (.bool true)) g tv l n true ∧ Kept [g] w (w.setCell ⟨g, 2, none⟩ (.bool true)) := by
  obtain ⟨h1, h2, h3, h4⟩ := h
  obtain ⟨b, k⟩ := h1.set 2 (.bool true)
  exact ⟨⟨b, h2.keptOwnNe k (fun h0 x hx hm => by simp at hm; exact h4 h0 x hx hm), h3, h4⟩, k⟩
theorem Tp.kept {w w' : World} {g : Nat} {tv : Value} {l : List UInt8} {n : Nat} {bad : Bool} (h : Tp w g tv l n bad) (k : Kept [] w w') : Tp w' g tv l n bad := by
  obtain ⟨h1, h2, h3, h4⟩ := h
  exact ⟨h1.kept k (by simp), h2.kept k, h3, h4⟩
/-- what take answers -/
def Took (g n at' : Nat) (tv : Value) (l : List UInt8) (bad : Bool) (w : World) (e : Ending) (w' : World) : Prop := ∃ (v n2 : Nat) (b2 : Bool), e = .returned (.int .i64 (v : Int)) ∧ Tp w' g tv l n2 b2 ∧ Kept [g] w w' ∧ Hid ((num n (l.drop at') = some (v, l.drop n2) ∧ b2 = bad) ∨ (num n (l.drop at') = none ∧ v = 0 ∧ b2 = true))
theorem Took.of {g n at' : Nat} {tv : Value} {l : List UInt8} {bad : Bool} {w : World} {e : Ending} {w' : World} (v n2 : Nat) (b2 : Bool) (h1 : e = .returned (.int .i64 (v : Int))) (h2 : Tp w' g tv l n2 b2) (h3 : Kept [g] w w') (h4 : (num n (l.drop at') = some (v, l.drop n2) ∧ b2 = bad) ∨ (num n (l.drop at') = none ∧ v = 0 ∧ b2 = true)) : Took g n at' tv l bad w e w' := ⟨v, n2, b2, h1, h2, h3, h4⟩
set_option maxRecDepth 20000 in
set_option maxHeartbeats 6400000 in
theorem rTake (g n at' : Nat) (tv : Value) (l : List UInt8) (bad : Bool) (w : World) (h : Tp w g tv l at' bad) (hn : 1 ≤ n ∧ n ≤ 8) :
    Calls Try.prog 37 #[.pointer (some ⟨g, 0, none⟩), .int .i64 (n : Int)] w (Took g n at' tv l bad w) := by
  haveI HNE : ∀ w2, Nonempty (Calm w2) := calmNe
  obtain ⟨p, c, rfl, -⟩ := id h.2.1
  have HT := @hideH _ h
  obtain ⟨bT, bs, hat, hne⟩ := h
  have HBT := @hideH _ bT
  have hmx : l.length ≤ maxLen := by obtain ⟨_, _, e, h1, h2, _⟩ := bs; cases e; exact Nat.le_trans h1 h2
  have HMX := @hideH _ hmx
  have HN := @hideH _ hn
  have HAT := @hideH _ hat
  have HBS := @hideH _ bs
  have c0 := bT.cell (j := 0) rfl
  have c1 := bT.cell (j := 1) rfl
  have f2 := bT.free 2
  have f1 := bT.free 1
  have wl : IntKind.i64.wrap ((l.length : Int) - (at' : Int)) = ((l.length - at' : Nat) : Int) := by rw [show (l.length : Int) - (at' : Int) = ((l.length - at' : Nat) : Int) by omega]; exact wrap_i64_of (by omega) (by unfold maxLen at hmx; omega)
  clear bT bs hne hmx hn hat
  by_cases hs : l.length - at' < n
  · have hs' : ((l.length - at' : Nat) : Int) < (n : Int) := by omega
    have hnum := @hideH _ (show num n (l.drop at') = none by unfold num; rw [if_pos (by rw [List.length_drop]; exact hs)])
    go_enter Try.func37, Try.ntmps37
    go_upto_region 1 with fail
    have s_c0 := fun (s : Calm w) => s.kept.cell c0 (by simp)
    have s_c1 := fun (s : Calm w) => s.kept.cell c1 (by simp)
    have KR := @hideH _ (Kept.refl [] w)
    refine wp_region_calm KR.out (by kernel_rfl) (by kernel_rfl) ?_
    repeat (go_big_quiet_step (fail))
    refine wpQuiet_nil ?_
    intro _ hw'
    obtain ⟨sq, hw''⟩ := hw'
    subst hw''
    have ks := sq.kept
    generalize sq.at = wx at ks ⊢
    clear sq
    replace c0 := ks.cell c0 (by simp)
    replace c1 := ks.cell c1 (by simp)
    clear KR s_c0 s_c1
    have fx := (HBT.out.kept ks (by simp)).free 2
    have cx := (HBT.out.kept ks (by simp)).cell (j := 2) rfl
    have FIN := @hideH _ (HT.out.kept ks).spoil
    have KS := @hideH _ ks
    clear c0 c1 f1 f2 ks wl
    go_wp2
    go_ret
    exact Took.of 0 (at') true rfl FIN.out.1 ((KS.out.mono (by simp)).trans FIN.out.2 (fun x hx => .inl hx)) (.inr ⟨hnum.out, rfl, rfl⟩)
  · have hs' : ¬ ((l.length - at' : Nat) : Int) < (n : Int) := by omega
    obtain ⟨X, hX⟩ : ∃ X, X = (l.drop at').take n := ⟨_, rfl⟩
    have HX := @hideH _ (show X = (l.drop at').take n ∧ X.length = n by refine ⟨hX, ?_⟩; rw [hX, List.length_take, List.length_drop]; omega)
    have HS := @hideH _ (show n ≤ (l.drop at').length by rw [List.length_drop]; omega)
    have wn1 : IntKind.i64.wrap ((n : Int) - 1) = (n : Int) - 1 := wrap_i64_of (by omega) (by have := HN.out; omega)
    clear hX
    go_enter Try.func37, Try.ntmps37
    go_upto_region 1 with fail
    have s_c0 := fun (s : Calm w) => s.kept.cell c0 (by simp)
    have s_c1 := fun (s : Calm w) => s.kept.cell c1 (by simp)
    have KR := @hideH _ (Kept.refl [] w)
    refine wp_region_calm KR.out (by kernel_rfl) (by kernel_rfl) ?_
    repeat (go_big_quiet_step (fail))
    refine wpQuiet_nil ?_
    intro _ hw'
    obtain ⟨sq, hw''⟩ := hw'
    subst hw''
    have ks := sq.kept
    generalize sq.at = wx at ks ⊢
    clear sq
    replace c0 := ks.cell c0 (by simp)
    replace c1 := ks.cell c1 (by simp)
    clear KR s_c0 s_c1
    have KS := @hideH _ ks
    clear c0 c1 f1 f2 ks wl
    go_wp2
    go_loopw [5, 6] (fun vv vi wr => ∃ m : Nat, m ≤ n ∧ vi = .int .i64 ((m : Int) - 1) ∧ vv = .int .i64 ((takeN (X.drop m) : Nat) : Int) ∧ Hid (Kept [] w wr)) (fun _ vi _ => (intOf vi + 1).toNat)
    case atStart => exact ⟨n, Nat.le_refl _, rfl, by rw [List.drop_eq_nil_of_le (by rw [HX.out.2]; exact Nat.le_refl _)]; rfl, KS.out⟩
    case round =>
      clear KS
      obtain ⟨m, hm, rfl, rfl, hh⟩ := hrel
      obtain ⟨v, hv⟩ : ∃ v, v = takeN (X.drop m) := ⟨_, rfl⟩
      have HV := @hideH _ hv
      rw [← hv]
      clear hv
      have c0 := hh.out.cell (HBT.out.cell (j := 0) rfl) (by simp)
      have c1 := hh.out.cell (HBT.out.cell (j := 1) rfl) (by simp)
      have f1 := (HBT.out.kept hh.out (by simp)).free 1
      have f2 := (HBT.out.kept hh.out (by simp)).free 2
      have c2 := (HBT.out.kept hh.out (by simp)).cell (j := 2) rfl
      by_cases hm0 : m = 0
      · have hi : ¬ (0 : Int) ≤ (m : Int) - 1 := by omega
        have hvX : v = takeN ((l.drop at').take n) := by rw [HV.out, hm0, HX.out.1]; rfl
        have wa : IntKind.i64.wrap ((at' : Int) + (n : Int)) = ((at' + n : Nat) : Int) := by rw [show (at' : Int) + (n : Int) = ((at' + n : Nat) : Int) by omega]; exact wrap_i64_of (by omega) (by have e1 := HMX.out; have e2 := HAT.out; have e3 := HN.out; unfold maxLen at e1; omega)
        obtain ⟨hT1, hK1⟩ := (HT.out.kept hh.out).set (at' + n) (by have e1 := HS.out; rw [List.length_drop] at e1; have e2 := HN.out; omega)
        have ecast : ((at' + n : Nat) : Int) = (at' : Int) + (n : Int) := by omega
        rw [ecast] at hT1 hK1
        obtain ⟨w5, hw5⟩ : ∃ w5, w5 = wr.setCell ⟨g, 1, none⟩ (.int .i64 ((at' : Int) + (n : Int))) := ⟨_, rfl⟩
        rw [← hw5] at hT1 hK1
        rw [ecast] at wa
        have HT1 := @hideH _ hT1
        have HK1 := @hideH _ ((hh.out.mono (by simp)).trans hK1 (fun x hx => .inl hx))
        obtain ⟨b5, -⟩ := HT1.out
        have e2 := b5.cell (j := 2) rfl
        have g2 := b5.free 2
        have HW5 := @hideH _ hw5
        clear b5 hT1 hK1 ecast hm0
        by_cases hv2 : v ≤ topLsn
        · have hd : decide ((1152921504606846976 : Int) < (v : Int)) = false := by unfold topLsn at hv2; exact decide_eq_false (by omega)
          have FIN := @hideH _ (show num n (l.drop at') = some (v, l.drop (at' + n)) by unfold num; rw [if_neg (by have := HS.out; omega), ← hvX, if_pos hv2, List.drop_drop])
          clear hvX hv2
          go_upto_region 13 with fail
          rw [← HW5.out]
          clear hw5
          go_wp2
          go_ret
          exact Took.of v (at' + n) bad rfl HT1.out HK1.out (.inl ⟨FIN.out, rfl⟩)
        · have hd : decide ((1152921504606846976 : Int) < (v : Int)) = true := by unfold topLsn at hv2; exact decide_eq_true (by omega)
          have FIN := @hideH _ (show num n (l.drop at') = none by unfold num; rw [if_neg (by have := HS.out; omega), ← hvX, if_neg hv2])
          obtain ⟨hT2, hK2⟩ := HT1.out.spoil
          have HT2 := @hideH _ hT2
          have HK2 := @hideH _ (HK1.out.trans hK2 (fun x hx => .inl hx))
          clear hvX hv2 hT2 hK2
          go_upto_region 13 with fail
          rw [← HW5.out]
          clear hw5
          go_wp2
          go_ret
          exact Took.of 0 (at' + n) true rfl HT2.out HK2.out (.inr ⟨FIN.out, rfl, rfl⟩)
      · have hi : (0 : Int) ≤ (m : Int) - 1 := by omega
        by_cases hv2 : v ≤ 4503599627370496
        · have hd : decide ((4503599627370496 : Int) < (v : Int)) = false := decide_eq_false (by omega)
          obtain ⟨j, hj⟩ : ∃ j, m = j + 1 := ⟨m - 1, by omega⟩
          subst hj
          have hji : ((j + 1 : Nat) : Int) - 1 = (j : Int) := by omega
          obtain ⟨x, hx⟩ : ∃ x, l[at' + j]? = some x := ⟨_, List.getElem?_eq_getElem (by have e1 := HS.out; rw [List.length_drop] at e1; omega)⟩
          have hxX : X[j]? = some x := by rw [HX.out.1, List.getElem?_take, if_pos (by omega), List.getElem?_drop]; exact hx
          obtain ⟨b, o, c', ev, -, -, -, hc⟩ := HBS.out.pos (by have e1 := (List.getElem?_eq_some_iff.1 hx).1; omega)
          obtain rfl : p = some ⟨b, o, none⟩ := by simp at ev; exact ev.1
          have cx := hh.out.cell (hc _ x hx) (by simp)
          have hxl := x.toNat_lt
          obtain ⟨y, hy⟩ : ∃ y, y = x.toNat := ⟨_, rfl⟩
          rw [← hy] at cx hxl
          have wi : IntKind.i64.wrap ((at' : Int) + (j : Int)) = (at' : Int) + (j : Int) := wrap_i64_of (by omega) (by have e1 := HMX.out; have e2 := HAT.out; have e3 := HN.out; unfold maxLen at e1; omega)
          have wi2 : ((at' : Int) + (j : Int)).toNat = at' + j := by omega
          have bi1 : (at' : Int) + (j : Int) < (l.length : Int) := by have e1 := HS.out; rw [List.length_drop] at e1; omega
          have bi0 : (0 : Int) ≤ (at' : Int) + (j : Int) := by omega
          have w1 : IntKind.i64.wrap ((v : Int) * 256) = (v : Int) * 256 := wrap_i64_of (by omega) (by omega)
          have w2 : IntKind.i64.wrap ((v : Int) * 256 + (y : Int)) = (v : Int) * 256 + (y : Int) := wrap_i64_of (by omega) (by omega)
          have w3 : IntKind.i64.wrap (y : Int) = (y : Int) := wrap_i64_of (by omega) (by omega)
          have w4 : IntKind.i64.wrap ((j : Int) - 1) = (j : Int) - 1 := wrap_i64_of (by omega) (by have e3 := HN.out; omega)
          have REL := @hideH _ (show ((takeN (X.drop j) : Nat) : Int) = (v : Int) * 256 + (y : Int) by rw [takeN_at hxX, ← HV.out, hy]; omega)
          have HKR := @hideH _ hh.out
          clear hx hxX hc ev hy hxl hv2 hh c2 f1 f2
          go_upto_region 11 with fail
          have s_c0 := fun (s : Calm wr) => s.kept.cell c0 (by simp)
          have s_c1 := fun (s : Calm wr) => s.kept.cell c1 (by simp)
          have s_cx := fun (s : Calm wr) => s.kept.cell cx (by simp)
          clear c0 c1 cx
          have KR := @hideH _ (Kept.refl [] wr)
          refine wp_region_calm KR.out (by kernel_rfl) (by kernel_rfl) ?_
          repeat (go_big_quiet_step (fail))
          refine wpQuiet_nil ?_
          intro _ hw'
          obtain ⟨sq, hw''⟩ := hw'
          subst hw''
          have ks := sq.kept
          generalize sq.at = wx at ks ⊢
          clear sq
          clear KR s_c0 s_c1 s_cx
          have HK9 := @hideH _ (HKR.out.then ks)
          clear ks
          go_wp2
          go_roundw
          case rel => exact ⟨j, by omega, by first | rfl | (exact congrArg (Value.int .i64) (by omega)), by rw [REL.out], HK9⟩
          case measure => simp [intOf]
        · have hd : decide ((4503599627370496 : Int) < (v : Int)) = true := decide_eq_true (by omega)
          have FIN := @hideH _ (show num n (l.drop at') = none from num_big HS.out (m := m) (by omega) (by rw [← HX.out.1, ← HV.out]; omega))
          obtain ⟨hT2, hK2⟩ := (HT.out.kept hh.out).spoil
          have HT2 := @hideH _ hT2
          have HK2 := @hideH _ ((hh.out.mono (by simp)).trans hK2 (fun x hx => .inl hx))
          clear hv2 hT2 hK2 hh
          go_wp2
          go_ret
          exact Took.of 0 (at') true rfl HT2.out HK2.out (.inr ⟨FIN.out, rfl, rfl⟩)
end Go.Proofs.Ytebcmcmboomgfaa

/-
  OWN WORK (by mkrec6.py). The document's records (tidemarkref09): the tape: row.
-/
namespace Go.Proofs.Ytebcmcmboomgfaa
open Go.RowKit
set_option linter.unusedVariables false
set_option linter.unusedSimpArgs false

/-- what row answers -/
def TookRow (g n at' : Nat) (tv : Value) (l : List UInt8) (bad : Bool) (w : World) (e : Ending) (w' : World) : Prop := ∃ (u : Value) (x : List UInt8) (n2 : Nat) (b2 : Bool), e = .returned u ∧ Tp w' g tv l n2 b2 ∧ w'.ownsRow w.heap.size 5 1 u x.length (u8s x) ∧ Kept [g] w w' ∧ Hid ((raw n (l.drop at') = some (x, l.drop n2) ∧ b2 = bad) ∨ (raw n (l.drop at') = none ∧ x = [] ∧ b2 = true))
theorem TookRow.of {g n at' : Nat} {tv : Value} {l : List UInt8} {bad : Bool} {w : World} {e : Ending} {w' : World} (u : Value) (x : List UInt8) (n2 : Nat) (b2 : Bool) (h1 : e = .returned u) (h2 : Tp w' g tv l n2 b2) (h5 : w'.ownsRow w.heap.size 5 1 u x.length (u8s x)) (h3 : Kept [g] w w') (h4 : (raw n (l.drop at') = some (x, l.drop n2) ∧ b2 = bad) ∨ (raw n (l.drop at') = none ∧ x = [] ∧ b2 = true)) : TookRow g n at' tv l bad w e w' := ⟨u, x, n2, b2, h1, h2, h5, h3, h4⟩
set_option maxRecDepth 20000 in
set_option maxHeartbeats 6400000 in
theorem rTRow (g n at' : Nat) (tv : Value) (l : List UInt8) (bad : Bool) (w : World) (h : Tp w g tv l at' bad) (hn : n ≤ 100000) :
    Calls Try.prog 38 #[.pointer (some ⟨g, 0, none⟩), .int .i64 (n : Int)] w (TookRow g n at' tv l bad w) := by
  haveI HNE : ∀ w2, Nonempty (Calm w2) := calmNe
  obtain ⟨p, c, rfl, -⟩ := id h.2.1
  have HT := @hideH _ h
  obtain ⟨bT, bs, hat, hne⟩ := h
  have HBT := @hideH _ bT
  have hmx : l.length ≤ maxLen := by obtain ⟨_, _, e, h1, h2, _⟩ := bs; cases e; exact Nat.le_trans h1 h2
  have HMX := @hideH _ hmx
  have HN := @hideH _ hn
  have HAT := @hideH _ hat
  have HBS := @hideH _ bs
  have c0 := bT.cell (j := 0) rfl
  have c1 := bT.cell (j := 1) rfl
  have wl : IntKind.i64.wrap ((l.length : Int) - (at' : Int)) = ((l.length - at' : Nat) : Int) := by rw [show (l.length : Int) - (at' : Int) = ((l.length - at' : Nat) : Int) by omega]; exact wrap_i64_of (by omega) (by unfold maxLen at hmx; omega)
  clear bT bs hne hmx hn hat
  by_cases hs : l.length - at' < n
  · have hs' : ((l.length - at' : Nat) : Int) < (n : Int) := by omega
    have hnum := @hideH _ (show raw n (l.drop at') = none by unfold raw; rw [if_pos (by rw [List.length_drop]; exact hs)])
    go_enter Try.func38, Try.ntmps38
    go_upto_region 1 with fail
    have s_c0 := fun (s : Calm w) => s.kept.cell c0 (by simp)
    have s_c1 := fun (s : Calm w) => s.kept.cell c1 (by simp)
    clear c0 c1
    have KR := @hideH _ (Kept.refl [] w)
    refine wp_region_calm KR.out (by kernel_rfl) (by kernel_rfl) ?_
    repeat (go_big_quiet_step (fail))
    refine wpQuiet_nil ?_
    intro _ hw'
    obtain ⟨sq, hw''⟩ := hw'
    subst hw''
    have ks := sq.kept
    generalize sq.at = wx at ks ⊢
    clear sq
    clear KR s_c0 s_c1
    have fx := (HBT.out.kept ks (by simp)).free 2
    have cx := (HBT.out.kept ks (by simp)).cell (j := 2) rfl
    have FIN := @hideH _ (HT.out.kept ks).spoil
    have KS := @hideH _ ks
    clear ks wl
    go_wp2
    go_ret
    exact TookRow.of (.slice none 0 0) [] at' true rfl FIN.out.1 (by simpa [u8s] using World.ownsRow_nil _ w.heap.size 5 1) ((KS.out.mono (by simp)).trans FIN.out.2 (fun x hx => .inl hx)) (.inr ⟨hnum.out, rfl, rfl⟩)
  · have hs' : ¬ ((l.length - at' : Nat) : Int) < (n : Int) := by omega
    have HS := @hideH _ (show at' + n ≤ l.length by have := HAT.out; omega)
    go_enter Try.func38, Try.ntmps38
    go_upto_region 1 with fail
    have s_c0 := fun (s : Calm w) => s.kept.cell c0 (by simp)
    have s_c1 := fun (s : Calm w) => s.kept.cell c1 (by simp)
    clear c0 c1
    have KR := @hideH _ (Kept.refl [] w)
    refine wp_region_calm KR.out (by kernel_rfl) (by kernel_rfl) ?_
    repeat (go_big_quiet_step (fail))
    refine wpQuiet_nil ?_
    intro _ hw'
    obtain ⟨sq, hw''⟩ := hw'
    subst hw''
    have ks := sq.kept
    generalize sq.at = wx at ks ⊢
    clear sq
    clear KR s_c0 s_c1
    have KS := @hideH _ ks
    have c0 := ks.cell (HBT.out.cell (j := 0) rfl) (by simp)
    have c1 := ks.cell (HBT.out.cell (j := 1) rfl) (by simp)
    obtain ⟨p2, hcut, hmid⟩ := (HBS.out.kept ks).mid (P := Try.prog) 22 5 Try.underlying22 (by kernel_rfl) at' n HS.out
    have wa : IntKind.i64.wrap ((at' : Int) + (n : Int)) = (at' : Int) + (n : Int) := wrap_i64_of (by omega) (by have e1 := HMX.out; have e2 := HS.out; unfold maxLen at e1; omega)
    obtain ⟨X, hX⟩ : ∃ X, X = (l.drop at').take n := ⟨_, rfl⟩
    have HX := @hideH _ (show X = (l.drop at').take n ∧ X.length = n by refine ⟨hX, ?_⟩; rw [hX, List.length_take, List.length_drop]; have := HS.out; omega)
    rw [← hX] at hmid
    have hcap := @hideH _ (show 0 + X.length ≤ 140737488355328 by rw [HX.out.2]; have := HN.out; omega)
    have kx : Kept [] wx wx.drew := (Kept.refl [] wx).drew
    have HM := @hideH _ hmid
    clear ks wl hX hmid
    go_upto_region 5 with fail
    go_region_held3 (fun w' => w'.cell? ⟨g, 0, none⟩ = some (.slice p l.length c) ∧ w'.cell? ⟨g, 1, none⟩ = some (.int .i64 (at' : Int)))
      (first | (with_reducible exact ⟨kx.cell c0 (by simp), kx.cell c1 (by simp)⟩) | fail)
      (first | (refine step_append_bs (by rfl) (.tmp 21) (.tmp 36) 22 (by rfl) wx.heap.size 5 Try.underlying22 (by kernel_rfl) (.slice none 0 0) 0 [] (by rfl) (World.ownsRow_nil _ _ _ _) (.slice p2 n (c - at')) X (by rfl) (HM.out.kept kx) hcap.out kx.size ?_; intro v5 w5 o5 g5 at5; replace kx : Kept [] wx w5 := kx.grown g5 (fun x hx => by simp [Value.ownBlock] at hx)) | fail)
    rw [Nat.zero_add, List.nil_append] at o5
    have K5 := @hideH _ (KS.out.then kx)
    have ecast : ((at' + n : Nat) : Int) = (at' : Int) + (n : Int) := by omega
    obtain ⟨hT1, hK1⟩ := (HT.out.kept K5.out).set (at' + n) HS.out
    rw [ecast] at hT1 hK1
    have hgl := HBT.out.lt
    have o6 := own_of_kept o5 hK1 (fun x hx hm => by simp at hm; have e1 := own_ge o5 x hx; have e2 := KS.out.size; omega)
    have HT1 := @hideH _ hT1
    have HK1 := @hideH _ ((K5.out.mono (by simp)).trans hK1 (fun x hx => .inl hx))
    have HO := @hideH _ o6
    have FIN := @hideH _ (show raw n (l.drop at') = some (X, l.drop (at' + n)) by unfold raw; rw [if_neg (by rw [List.length_drop]; have := HS.out; omega), ← HX.out.1, List.drop_drop])
    have d0 := (HBT.out.kept K5.out (by simp)).cell (j := 1) rfl
    have d1 := (HBT.out.kept K5.out (by simp)).free 1
    obtain ⟨p5, q5, rfl⟩ := own_shape2 o5
    have HSZ := @hideH _ (show w.heap.size ≤ wx.heap.size from KS.out.size)
    clear hT1 hK1 o5 o6 g5 at5 kx c0 c1 ecast hgl HM hcut
    go_wp2
    go_ret
    exact TookRow.of _ X (at' + n) bad rfl HT1.out (own_baseK HO.out HSZ.out) HK1.out (.inl ⟨FIN.out, rfl⟩)
end Go.Proofs.Ytebcmcmboomgfaa

/-
  OWN WORK (by mkrec4.py). The document's records (tidemarkref09): Right, of one kind.
-/
namespace Go.Proofs.Ytebcmcmboomgfaa
open Go.RowKit
set_option linter.unusedVariables false
set_option linter.unusedSimpArgs false

set_option maxRecDepth 20000 in
set_option maxHeartbeats 12800000 in
theorem rRight_1 (V : RV) (birth prev id page frm : Int) (before after : List UInt8) (next : Int) (rows : List RowR) (dirty : List RecR) (w : World) (h : SeeR w V (⟨1, birth, prev, id, page, frm, before, after, next, rows, dirty⟩ : Rcd)) : Calls Try.prog 39 #[(⟨1, birth, prev, id, page, frm, before, after, next, rows, dirty⟩ : Rcd).agg V] w fun e w' => e = .returned (.bool (bl (⟨1, birth, prev, id, page, frm, before, after, next, rows, dirty⟩ : Rcd).Right)) ∧ Kept [] w w' := by
  haveI HNE : ∀ w2, Nonempty (Calm w2) := calmNe
  obtain ⟨pb, cb, pa, ca, pr, cr, pd, cd, rfl⟩ := h.shapes
  have HRI := @hideH _ (show (⟨1, birth, prev, id, page, frm, before, after, next, rows, dirty⟩ : Rcd).Right ↔ (birth = 0 ∧ prev = 0) ∧ (1 ≤ id ∧ id ≤ 64) ∧ (rows = [] ∧ dirty = []) ∧ next = 0 ∧ (page = 0 ∧ frm = 0 ∧ after = []) ∧ before = [] by unfold Rcd.Right; simp)
  have hb := fun w => rIsLsn birth w
  have hp := fun w => rIsLsn prev w
  have hn := fun w => rIsNext next w
  have hu := fun (wz : World) (kz : Kept [] w wz) => rUnranged _ (⟨1, birth, prev, id, page, frm, before, after, next, rows, dirty⟩ : Rcd) wz (h.kept kz)
  have hr := fun (wz : World) (kz : Kept [] w wz) => rRanged _ (⟨1, birth, prev, id, page, frm, before, after, next, rows, dirty⟩ : Rcd) wz (h.kept kz)
  have hl := fun (wz : World) (kz : Kept [] w wz) => rLists _ (⟨1, birth, prev, id, page, frm, before, after, next, rows, dirty⟩ : Rcd) wz (h.kept kz)
  have hBS := @hideH _ h.before
  have hAS := @hideH _ h.after
  have hmx := @hideH _ (show after.length ≤ maxLen from (by obtain ⟨_, _, e, h1, h2, _⟩ := h.after; cases e; exact Nat.le_trans h1 h2))
  clear h
  unfold Rcd.agg at hu hr hl ⊢
  dsimp only at hu hr hl hBS hAS ⊢
  obtain ⟨Q, hQ⟩ : ∃ Q, Q = bl (⟨1, birth, prev, id, page, frm, before, after, next, rows, dirty⟩ : Rcd).Right := ⟨_, rfl⟩
  rw [← hQ]
  have HQ := @hideH _ hQ
  clear hQ
  obtain ⟨nb, hnb⟩ : ∃ nb, nb = before.length := ⟨_, rfl⟩
  obtain ⟨na, hna⟩ : ∃ na, na = after.length := ⟨_, rfl⟩
  obtain ⟨nr, hnr⟩ : ∃ nr, nr = rows.length := ⟨_, rfl⟩
  obtain ⟨nd, hnd⟩ : ∃ nd, nd = dirty.length := ⟨_, rfl⟩
  simp only [← hnb, ← hna, ← hnr, ← hnd] at hu hr hl ⊢
  have HNB := @hideH _ hnb
  have HNA := @hideH _ hna
  have HNR := @hideH _ hnr
  have HND := @hideH _ hnd
  clear hnb hna hnr hnd
  clear hb
  clear hp
  clear hn
  clear hr
  clear hl
  by_cases h0 : birth = 0
  · subst h0
    by_cases h1 : prev = 0
    · subst h1
      by_cases h2 : 1 ≤ id
      · have i1 : ¬ id < 1 := by omega
        by_cases h3 : id ≤ 64
        · have i2 : ¬ 64 < id := by omega
          by_cases h4 : nr = 0
          · subst h4
            by_cases h5 : nd = 0
            · subst h5
              by_cases h6 : next = 0
              · subst h6
                by_cases h7 : (page = 0 ∧ frm = 0 ∧ after = [])
                · simp only [bl_t h7] at hu
                  have k7 := @hideH _ h7
                  clear h7
                  by_cases h8 : nb = 0
                  · subst h8
                    have eQ := @hideH _ (show Q = true by rw [HQ.out]; exact bl_t (HRI.out.2 ⟨⟨rfl, rfl⟩, ⟨h2, h3⟩, ⟨(List.eq_nil_of_length_eq_zero HNR.out.symm), (List.eq_nil_of_length_eq_zero HND.out.symm)⟩, rfl, k7.out, (List.eq_nil_of_length_eq_zero HNB.out.symm)⟩))
                    obtain ⟨w1, hw1⟩ : ∃ w1, w1 = w.alloc (.cells #[.int .i64 1, .int .i64 0, .int .i64 0, .int .i64 id, .int .i64 page, .int .i64 frm, .slice pb 0 cb, .slice pa na ca, .int .i64 0, .slice pr 0 cr, .slice pd 0 cd] 26) := ⟨_, rfl⟩
                    have K1 : Kept [] w w1 := by rw [hw1]; exact (Kept.refl [] w).alloc _
                    have bR : Blk w1 w.heap.size 26 [.int .i64 1, .int .i64 0, .int .i64 0, .int .i64 id, .int .i64 page, .int .i64 frm, .slice pb 0 cb, .slice pa na ca, .int .i64 0, .slice pr 0 cr, .slice pd 0 cd] := by rw [hw1]; exact Blk.new w _ _
                    have c0 := bR.cell (j := 0) rfl
                    have c1 := bR.cell (j := 1) rfl
                    have c2 := bR.cell (j := 2) rfl
                    have c3 := bR.cell (j := 3) rfl
                    have c4 := bR.cell (j := 4) rfl
                    have c5 := bR.cell (j := 5) rfl
                    have c6 := bR.cell (j := 6) rfl
                    have c7 := bR.cell (j := 7) rfl
                    have c8 := bR.cell (j := 8) rfl
                    have c9 := bR.cell (j := 9) rfl
                    have c10 := bR.cell (j := 10) rfl
                    clear bR
                    go_enter Try.func39, Try.ntmps39
                    go_upto_region 1 with fail
                    rw [← hw1]
                    clear hw1
                    go_wp2_with fail
                    refine (hu _ K1).mono ?_
                    rintro e w2 ⟨rfl, kn⟩
                    have K2 := K1.then kn
                    replace c0 := kn.cell c0 (by simp)
                    replace c1 := kn.cell c1 (by simp)
                    replace c2 := kn.cell c2 (by simp)
                    replace c3 := kn.cell c3 (by simp)
                    replace c4 := kn.cell c4 (by simp)
                    replace c5 := kn.cell c5 (by simp)
                    replace c6 := kn.cell c6 (by simp)
                    replace c7 := kn.cell c7 (by simp)
                    replace c8 := kn.cell c8 (by simp)
                    replace c9 := kn.cell c9 (by simp)
                    replace c10 := kn.cell c10 (by simp)
                    clear kn
                    have RK := @hideH _ K2
                    go_wp2
                    go_ret
                    exact ⟨by rw [eQ.out]; rfl, RK.out⟩
                  · have eQ := @hideH _ (show Q = false by rw [HQ.out]; exact bl_f (fun hR => by have q := HRI.out.1 hR; exact h8 (by rw [HNB.out, q.2.2.2.2.2]; rfl)))
                    have g_nb : 0 < nb := by omega
                    have e_nb : ((nb : Int) == 0) = false := by simp [h8]
                    obtain ⟨w1, hw1⟩ : ∃ w1, w1 = w.alloc (.cells #[.int .i64 1, .int .i64 0, .int .i64 0, .int .i64 id, .int .i64 page, .int .i64 frm, .slice pb nb cb, .slice pa na ca, .int .i64 0, .slice pr 0 cr, .slice pd 0 cd] 26) := ⟨_, rfl⟩
                    have K1 : Kept [] w w1 := by rw [hw1]; exact (Kept.refl [] w).alloc _
                    have bR : Blk w1 w.heap.size 26 [.int .i64 1, .int .i64 0, .int .i64 0, .int .i64 id, .int .i64 page, .int .i64 frm, .slice pb nb cb, .slice pa na ca, .int .i64 0, .slice pr 0 cr, .slice pd 0 cd] := by rw [hw1]; exact Blk.new w _ _
                    have c0 := bR.cell (j := 0) rfl
                    have c1 := bR.cell (j := 1) rfl
                    have c2 := bR.cell (j := 2) rfl
                    have c3 := bR.cell (j := 3) rfl
                    have c4 := bR.cell (j := 4) rfl
                    have c5 := bR.cell (j := 5) rfl
                    have c6 := bR.cell (j := 6) rfl
                    have c7 := bR.cell (j := 7) rfl
                    have c8 := bR.cell (j := 8) rfl
                    have c9 := bR.cell (j := 9) rfl
                    have c10 := bR.cell (j := 10) rfl
                    clear bR
                    go_enter Try.func39, Try.ntmps39
                    go_upto_region 1 with fail
                    rw [← hw1]
                    clear hw1
                    go_wp2_with fail
                    refine (hu _ K1).mono ?_
                    rintro e w2 ⟨rfl, kn⟩
                    have K2 := K1.then kn
                    replace c0 := kn.cell c0 (by simp)
                    replace c1 := kn.cell c1 (by simp)
                    replace c2 := kn.cell c2 (by simp)
                    replace c3 := kn.cell c3 (by simp)
                    replace c4 := kn.cell c4 (by simp)
                    replace c5 := kn.cell c5 (by simp)
                    replace c6 := kn.cell c6 (by simp)
                    replace c7 := kn.cell c7 (by simp)
                    replace c8 := kn.cell c8 (by simp)
                    replace c9 := kn.cell c9 (by simp)
                    replace c10 := kn.cell c10 (by simp)
                    clear kn
                    have RK := @hideH _ K2
                    go_wp2
                    go_ret
                    exact ⟨by rw [eQ.out]; rfl, RK.out⟩
                · have eQ := @hideH _ (show Q = false by rw [HQ.out]; exact bl_f (fun hR => by have q := HRI.out.1 hR; exact h7 (q.2.2.2.2.1)))
                  simp only [bl_f h7] at hu
                  clear h7
                  obtain ⟨w1, hw1⟩ : ∃ w1, w1 = w.alloc (.cells #[.int .i64 1, .int .i64 0, .int .i64 0, .int .i64 id, .int .i64 page, .int .i64 frm, .slice pb nb cb, .slice pa na ca, .int .i64 0, .slice pr 0 cr, .slice pd 0 cd] 26) := ⟨_, rfl⟩
                  have K1 : Kept [] w w1 := by rw [hw1]; exact (Kept.refl [] w).alloc _
                  have bR : Blk w1 w.heap.size 26 [.int .i64 1, .int .i64 0, .int .i64 0, .int .i64 id, .int .i64 page, .int .i64 frm, .slice pb nb cb, .slice pa na ca, .int .i64 0, .slice pr 0 cr, .slice pd 0 cd] := by rw [hw1]; exact Blk.new w _ _
                  have c0 := bR.cell (j := 0) rfl
                  have c1 := bR.cell (j := 1) rfl
                  have c2 := bR.cell (j := 2) rfl
                  have c3 := bR.cell (j := 3) rfl
                  have c4 := bR.cell (j := 4) rfl
                  have c5 := bR.cell (j := 5) rfl
                  have c6 := bR.cell (j := 6) rfl
                  have c7 := bR.cell (j := 7) rfl
                  have c8 := bR.cell (j := 8) rfl
                  have c9 := bR.cell (j := 9) rfl
                  have c10 := bR.cell (j := 10) rfl
                  clear bR
                  go_enter Try.func39, Try.ntmps39
                  go_upto_region 1 with fail
                  rw [← hw1]
                  clear hw1
                  go_wp2_with fail
                  refine (hu _ K1).mono ?_
                  rintro e w2 ⟨rfl, kn⟩
                  have K2 := K1.then kn
                  replace c0 := kn.cell c0 (by simp)
                  replace c1 := kn.cell c1 (by simp)
                  replace c2 := kn.cell c2 (by simp)
                  replace c3 := kn.cell c3 (by simp)
                  replace c4 := kn.cell c4 (by simp)
                  replace c5 := kn.cell c5 (by simp)
                  replace c6 := kn.cell c6 (by simp)
                  replace c7 := kn.cell c7 (by simp)
                  replace c8 := kn.cell c8 (by simp)
                  replace c9 := kn.cell c9 (by simp)
                  replace c10 := kn.cell c10 (by simp)
                  clear kn
                  have RK := @hideH _ K2
                  go_wp2
                  go_ret
                  exact ⟨by rw [eQ.out]; rfl, RK.out⟩
              · have eQ := @hideH _ (show Q = false by rw [HQ.out]; exact bl_f (fun hR => by have q := HRI.out.1 hR; exact h6 (q.2.2.2.1)))
                have e_next : (next != 0) = true := by simp [h6]
                have g_next : (next == 0) = false := by simp [h6]
                obtain ⟨w1, hw1⟩ : ∃ w1, w1 = w.alloc (.cells #[.int .i64 1, .int .i64 0, .int .i64 0, .int .i64 id, .int .i64 page, .int .i64 frm, .slice pb nb cb, .slice pa na ca, .int .i64 next, .slice pr 0 cr, .slice pd 0 cd] 26) := ⟨_, rfl⟩
                have K1 : Kept [] w w1 := by rw [hw1]; exact (Kept.refl [] w).alloc _
                have bR : Blk w1 w.heap.size 26 [.int .i64 1, .int .i64 0, .int .i64 0, .int .i64 id, .int .i64 page, .int .i64 frm, .slice pb nb cb, .slice pa na ca, .int .i64 next, .slice pr 0 cr, .slice pd 0 cd] := by rw [hw1]; exact Blk.new w _ _
                have c0 := bR.cell (j := 0) rfl
                have c1 := bR.cell (j := 1) rfl
                have c2 := bR.cell (j := 2) rfl
                have c3 := bR.cell (j := 3) rfl
                have c4 := bR.cell (j := 4) rfl
                have c5 := bR.cell (j := 5) rfl
                have c6 := bR.cell (j := 6) rfl
                have c7 := bR.cell (j := 7) rfl
                have c8 := bR.cell (j := 8) rfl
                have c9 := bR.cell (j := 9) rfl
                have c10 := bR.cell (j := 10) rfl
                clear bR
                go_enter Try.func39, Try.ntmps39
                go_upto_region 1 with fail
                rw [← hw1]
                clear hw1
                have RK := @hideH _ K1
                go_wp2
                go_ret
                exact ⟨by rw [eQ.out]; rfl, RK.out⟩
            · have eQ := @hideH _ (show Q = false by rw [HQ.out]; exact bl_f (fun hR => by have q := HRI.out.1 hR; exact h5 (by rw [HND.out, q.2.2.1.2]; rfl)))
              have g_nd : 0 < nd := by omega
              have e_nd : ((nd : Int) == 0) = false := by simp [h5]
              obtain ⟨w1, hw1⟩ : ∃ w1, w1 = w.alloc (.cells #[.int .i64 1, .int .i64 0, .int .i64 0, .int .i64 id, .int .i64 page, .int .i64 frm, .slice pb nb cb, .slice pa na ca, .int .i64 next, .slice pr 0 cr, .slice pd nd cd] 26) := ⟨_, rfl⟩
              have K1 : Kept [] w w1 := by rw [hw1]; exact (Kept.refl [] w).alloc _
              have bR : Blk w1 w.heap.size 26 [.int .i64 1, .int .i64 0, .int .i64 0, .int .i64 id, .int .i64 page, .int .i64 frm, .slice pb nb cb, .slice pa na ca, .int .i64 next, .slice pr 0 cr, .slice pd nd cd] := by rw [hw1]; exact Blk.new w _ _
              have c0 := bR.cell (j := 0) rfl
              have c1 := bR.cell (j := 1) rfl
              have c2 := bR.cell (j := 2) rfl
              have c3 := bR.cell (j := 3) rfl
              have c4 := bR.cell (j := 4) rfl
              have c5 := bR.cell (j := 5) rfl
              have c6 := bR.cell (j := 6) rfl
              have c7 := bR.cell (j := 7) rfl
              have c8 := bR.cell (j := 8) rfl
              have c9 := bR.cell (j := 9) rfl
              have c10 := bR.cell (j := 10) rfl
              clear bR
              go_enter Try.func39, Try.ntmps39
              go_upto_region 1 with fail
              rw [← hw1]
              clear hw1
              have RK := @hideH _ K1
              go_wp2
              go_ret
              exact ⟨by rw [eQ.out]; rfl, RK.out⟩
          · have eQ := @hideH _ (show Q = false by rw [HQ.out]; exact bl_f (fun hR => by have q := HRI.out.1 hR; exact h4 (by rw [HNR.out, q.2.2.1.1]; rfl)))
            have g_nr : 0 < nr := by omega
            have e_nr : ((nr : Int) == 0) = false := by simp [h4]
            obtain ⟨w1, hw1⟩ : ∃ w1, w1 = w.alloc (.cells #[.int .i64 1, .int .i64 0, .int .i64 0, .int .i64 id, .int .i64 page, .int .i64 frm, .slice pb nb cb, .slice pa na ca, .int .i64 next, .slice pr nr cr, .slice pd nd cd] 26) := ⟨_, rfl⟩
            have K1 : Kept [] w w1 := by rw [hw1]; exact (Kept.refl [] w).alloc _
            have bR : Blk w1 w.heap.size 26 [.int .i64 1, .int .i64 0, .int .i64 0, .int .i64 id, .int .i64 page, .int .i64 frm, .slice pb nb cb, .slice pa na ca, .int .i64 next, .slice pr nr cr, .slice pd nd cd] := by rw [hw1]; exact Blk.new w _ _
            have c0 := bR.cell (j := 0) rfl
            have c1 := bR.cell (j := 1) rfl
            have c2 := bR.cell (j := 2) rfl
            have c3 := bR.cell (j := 3) rfl
            have c4 := bR.cell (j := 4) rfl
            have c5 := bR.cell (j := 5) rfl
            have c6 := bR.cell (j := 6) rfl
            have c7 := bR.cell (j := 7) rfl
            have c8 := bR.cell (j := 8) rfl
            have c9 := bR.cell (j := 9) rfl
            have c10 := bR.cell (j := 10) rfl
            clear bR
            go_enter Try.func39, Try.ntmps39
            go_upto_region 1 with fail
            rw [← hw1]
            clear hw1
            have RK := @hideH _ K1
            go_wp2
            go_ret
            exact ⟨by rw [eQ.out]; rfl, RK.out⟩
        · have eQ := @hideH _ (show Q = false by rw [HQ.out]; exact bl_f (fun hR => by have q := HRI.out.1 hR; exact h3 q.2.1.2))
          have i2 : 64 < id := by omega
          obtain ⟨w1, hw1⟩ : ∃ w1, w1 = w.alloc (.cells #[.int .i64 1, .int .i64 0, .int .i64 0, .int .i64 id, .int .i64 page, .int .i64 frm, .slice pb nb cb, .slice pa na ca, .int .i64 next, .slice pr nr cr, .slice pd nd cd] 26) := ⟨_, rfl⟩
          have K1 : Kept [] w w1 := by rw [hw1]; exact (Kept.refl [] w).alloc _
          have bR : Blk w1 w.heap.size 26 [.int .i64 1, .int .i64 0, .int .i64 0, .int .i64 id, .int .i64 page, .int .i64 frm, .slice pb nb cb, .slice pa na ca, .int .i64 next, .slice pr nr cr, .slice pd nd cd] := by rw [hw1]; exact Blk.new w _ _
          have c0 := bR.cell (j := 0) rfl
          have c1 := bR.cell (j := 1) rfl
          have c2 := bR.cell (j := 2) rfl
          have c3 := bR.cell (j := 3) rfl
          have c4 := bR.cell (j := 4) rfl
          have c5 := bR.cell (j := 5) rfl
          have c6 := bR.cell (j := 6) rfl
          have c7 := bR.cell (j := 7) rfl
          have c8 := bR.cell (j := 8) rfl
          have c9 := bR.cell (j := 9) rfl
          have c10 := bR.cell (j := 10) rfl
          clear bR
          go_enter Try.func39, Try.ntmps39
          go_upto_region 1 with fail
          rw [← hw1]
          clear hw1
          have RK := @hideH _ K1
          go_wp2
          go_ret
          exact ⟨by rw [eQ.out]; rfl, RK.out⟩
      · have eQ := @hideH _ (show Q = false by rw [HQ.out]; exact bl_f (fun hR => by have q := HRI.out.1 hR; exact h2 q.2.1.1))
        have i1 : id < 1 := by omega
        obtain ⟨w1, hw1⟩ : ∃ w1, w1 = w.alloc (.cells #[.int .i64 1, .int .i64 0, .int .i64 0, .int .i64 id, .int .i64 page, .int .i64 frm, .slice pb nb cb, .slice pa na ca, .int .i64 next, .slice pr nr cr, .slice pd nd cd] 26) := ⟨_, rfl⟩
        have K1 : Kept [] w w1 := by rw [hw1]; exact (Kept.refl [] w).alloc _
        have bR : Blk w1 w.heap.size 26 [.int .i64 1, .int .i64 0, .int .i64 0, .int .i64 id, .int .i64 page, .int .i64 frm, .slice pb nb cb, .slice pa na ca, .int .i64 next, .slice pr nr cr, .slice pd nd cd] := by rw [hw1]; exact Blk.new w _ _
        have c0 := bR.cell (j := 0) rfl
        have c1 := bR.cell (j := 1) rfl
        have c2 := bR.cell (j := 2) rfl
        have c3 := bR.cell (j := 3) rfl
        have c4 := bR.cell (j := 4) rfl
        have c5 := bR.cell (j := 5) rfl
        have c6 := bR.cell (j := 6) rfl
        have c7 := bR.cell (j := 7) rfl
        have c8 := bR.cell (j := 8) rfl
        have c9 := bR.cell (j := 9) rfl
        have c10 := bR.cell (j := 10) rfl
        clear bR
        go_enter Try.func39, Try.ntmps39
        go_upto_region 1 with fail
        rw [← hw1]
        clear hw1
        have RK := @hideH _ K1
        go_wp2
        go_ret
        exact ⟨by rw [eQ.out]; rfl, RK.out⟩
    · have eQ := @hideH _ (show Q = false by rw [HQ.out]; exact bl_f (fun hR => by have q := HRI.out.1 hR; exact h1 (q.1.2)))
      have e_prev : (prev != 0) = true := by simp [h1]
      have g_prev : (prev == 0) = false := by simp [h1]
      obtain ⟨w1, hw1⟩ : ∃ w1, w1 = w.alloc (.cells #[.int .i64 1, .int .i64 0, .int .i64 prev, .int .i64 id, .int .i64 page, .int .i64 frm, .slice pb nb cb, .slice pa na ca, .int .i64 next, .slice pr nr cr, .slice pd nd cd] 26) := ⟨_, rfl⟩
      have K1 : Kept [] w w1 := by rw [hw1]; exact (Kept.refl [] w).alloc _
      have bR : Blk w1 w.heap.size 26 [.int .i64 1, .int .i64 0, .int .i64 prev, .int .i64 id, .int .i64 page, .int .i64 frm, .slice pb nb cb, .slice pa na ca, .int .i64 next, .slice pr nr cr, .slice pd nd cd] := by rw [hw1]; exact Blk.new w _ _
      have c0 := bR.cell (j := 0) rfl
      have c1 := bR.cell (j := 1) rfl
      have c2 := bR.cell (j := 2) rfl
      have c3 := bR.cell (j := 3) rfl
      have c4 := bR.cell (j := 4) rfl
      have c5 := bR.cell (j := 5) rfl
      have c6 := bR.cell (j := 6) rfl
      have c7 := bR.cell (j := 7) rfl
      have c8 := bR.cell (j := 8) rfl
      have c9 := bR.cell (j := 9) rfl
      have c10 := bR.cell (j := 10) rfl
      clear bR
      go_enter Try.func39, Try.ntmps39
      go_upto_region 1 with fail
      rw [← hw1]
      clear hw1
      have RK := @hideH _ K1
      go_wp2
      go_ret
      exact ⟨by rw [eQ.out]; rfl, RK.out⟩
  · have eQ := @hideH _ (show Q = false by rw [HQ.out]; exact bl_f (fun hR => by have q := HRI.out.1 hR; exact h0 (q.1.1)))
    have e_birth : (birth != 0) = true := by simp [h0]
    have g_birth : (birth == 0) = false := by simp [h0]
    obtain ⟨w1, hw1⟩ : ∃ w1, w1 = w.alloc (.cells #[.int .i64 1, .int .i64 birth, .int .i64 prev, .int .i64 id, .int .i64 page, .int .i64 frm, .slice pb nb cb, .slice pa na ca, .int .i64 next, .slice pr nr cr, .slice pd nd cd] 26) := ⟨_, rfl⟩
    have K1 : Kept [] w w1 := by rw [hw1]; exact (Kept.refl [] w).alloc _
    have bR : Blk w1 w.heap.size 26 [.int .i64 1, .int .i64 birth, .int .i64 prev, .int .i64 id, .int .i64 page, .int .i64 frm, .slice pb nb cb, .slice pa na ca, .int .i64 next, .slice pr nr cr, .slice pd nd cd] := by rw [hw1]; exact Blk.new w _ _
    have c0 := bR.cell (j := 0) rfl
    have c1 := bR.cell (j := 1) rfl
    have c2 := bR.cell (j := 2) rfl
    have c3 := bR.cell (j := 3) rfl
    have c4 := bR.cell (j := 4) rfl
    have c5 := bR.cell (j := 5) rfl
    have c6 := bR.cell (j := 6) rfl
    have c7 := bR.cell (j := 7) rfl
    have c8 := bR.cell (j := 8) rfl
    have c9 := bR.cell (j := 9) rfl
    have c10 := bR.cell (j := 10) rfl
    clear bR
    go_enter Try.func39, Try.ntmps39
    go_upto_region 1 with fail
    rw [← hw1]
    clear hw1
    have RK := @hideH _ K1
    go_wp2
    go_ret
    exact ⟨by rw [eQ.out]; rfl, RK.out⟩
end Go.Proofs.Ytebcmcmboomgfaa

