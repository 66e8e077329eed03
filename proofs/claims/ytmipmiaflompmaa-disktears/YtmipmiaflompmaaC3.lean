import Derived.Test.YtmipmiaflompmaaRows
import Derived.Deep.Slices
import Derived.Shelf.Abstract
import Derived.Deep.RegionHeld3
import Derived.Lib.LazyBuf
import Derived.Test.YtmipmiaflompmaaC2
/-
  OWN WORK. The document's disk: Load.
-/
namespace Go.Proofs.Ytmipmiaflompmaa
open Go.RowKit
set_option linter.unusedVariables false
set_option linter.unusedSimpArgs false

/-- the worlds that keep what lies in w2 -/
def Calm (w2 : World) : Type := { w' : World // Kept [] w2 w' }
theorem calmNe (w2 : World) : Nonempty (Calm w2) := ⟨⟨w2, Kept.refl _ _⟩⟩
def Calm.at {w2 : World} (s : Calm w2) : World := s.1
theorem Calm.kept {w2 : World} (s : Calm w2) : Kept [] w2 s.at := s.2
theorem Calm.call {P : Program} {f : FuncId} {args : Array Value} {w2 : World} {v : Value} (c : ∀ w, Calls P f args w fun e w' => e = .returned v ∧ Kept [] w w') (s : Calm w2) : Calls P f args s.at fun e w'' => e = .returned v ∧ ∃ s' : Calm w2, w'' = s'.at :=
  (c s.at).mono fun e w'' h => ⟨h.1, ⟨w'', s.kept.then h.2⟩, rfl⟩
/-- a region that only reads, and whose callees turn nothing that was there -/
theorem wp_region_calm {P : Program} {id : Nat} {Q : Exit → Act → World → Prop} {a : Act} {w w2 : World} {l : List Oper} (k : Kept [] w2 w) (hm : P.follows .mixedOrders = true) (hB : Region.lexB .any l.toArray = true)
    (h : wpQuiet P l.toArray (fun w' => ∃ s : Calm w2, w' = s.at) (fun a' => ∀ w', (∃ s : Calm w2, w' = s.at) → Q .normal a' w') l a) : (Code.region id l.toArray true).wp P Q a w :=
  wp_region_quiet (C := fun w' => ∃ s : Calm w2, w' = s.at) hm hB ⟨⟨_, k.drew⟩, rfl⟩ (by simpa using h)
theorem load_bad (a b c : Int) (V : IV) (m : IM) (w : World) (hV : SeeIm w V m) (h : shapeOk a b c = false) :
    Calls Try.prog 57 #[.agg #[.int .i64 a, .int .i64 b, .int .i64 c], V.agg] w fun e w' => e = .returned (.tuple #[.pointer none, .int .i64 60]) ∧ Kept [] w w' := by
  have hs := fun w => shaped_any a b c w
  rw [h] at hs
  clear h
  unfold IV.agg
  go_enter Try.func57, Try.ntmps57
  go_wp2_with fail
  refine (hs _).mono ?_
  rintro e w1 ⟨rfl, k1⟩
  clear hs
  go_wp2
  go_ret2
  exact ⟨rfl, (((Kept.refl [] w).alloc _).alloc _).then k1⟩
/-- what Load asks of an image, but for its pages' lengths -/
def headOk (np ns lm : Nat) (m : IM) : Bool := decide (m.ps.length = np) && decide (m.pair.length = 16 + pgB ns) && decide (m.m0.length = 40) && decide (m.m1.length = 40) && decide (m.log.length ≤ lm)
theorem imOk_eq (np ns lm : Nat) (m : IM) : imOk np ns lm m = (headOk np ns lm m && m.ps.all fun p => decide (p.length = pgB ns)) := rfl
theorem imOf_rows {np : Nat} {m : IM} (h : m.ps.length = np) : imOf np m.rows m.log = m := by
  obtain ⟨ps, pair, log, m0, m1⟩ := m
  simp only at h
  subst h
  simp [imOf, IM.rows]
theorem imOk_parts {np ns lm : Nat} {m : IM} (h : imOk np ns lm m = true) : m.ps.length = np ∧ m.pair.length = 16 + pgB ns ∧ m.m0.length = 40 ∧ m.m1.length = 40 ∧ m.log.length ≤ lm ∧ ∀ p ∈ m.ps, p.length = pgB ns := by
  unfold imOk at h
  simp only [Bool.and_eq_true, decide_eq_true_eq, List.all_eq_true] at h
  obtain ⟨⟨⟨⟨⟨a, b⟩, c⟩, d⟩, e⟩, f⟩ := h
  exact ⟨a, b, c, d, e, f⟩
theorem DS.Ok.ofLoad {np ns lm : Nat} {m : IM} (h1 : 1 ≤ np ∧ np ≤ 16) (h2 : 1 ≤ ns ∧ ns ≤ 8) (h3 : 1024 ≤ lm ∧ lm ≤ 65536) (h : imOk np ns lm m = true) : (DS.load np ns lm m).Ok := by
  obtain ⟨a, b, c, d, e, f⟩ := imOk_parts h
  exact ⟨h1, h2, h3, (show m.rows.length = np + 3 by simp [IM.rows, a]), (show Sized np ns m.rows from sized_parts a f b c d), (fun x hx => absurd (show x ∈ ([] : List (Nat × List UInt8)) from hx) (by simp)), e, Nat.le_refl _, Int.le_refl _, wrap_i64_of (by show (-9223372036854775808 : Int) ≤ 0; omega) (by show (0 : Int) < _; omega), wrap_i64_of (by show (-9223372036854775808 : Int) ≤ 0; omega) (by show (0 : Int) < _; omega)⟩
theorem imOk_small {np ns lm : Nat} {m : IM} (h1 : np ≤ 16) (h2 : ns ≤ 8) (h3 : lm ≤ 65536) (h : imOk np ns lm m = true) : m.ps.length ≤ 16 ∧ ∀ l ∈ m.all, l.length ≤ 65536 := by
  obtain ⟨a, b, c, d, e, f⟩ := imOk_parts h
  refine ⟨by omega, fun l hl => ?_⟩
  unfold IM.all at hl
  unfold pgB at b f
  simp only [List.mem_cons, List.mem_append, List.not_mem_nil, or_false] at hl
  rcases hl with rfl | rfl | hl | rfl | rfl
  · omega
  · omega
  · have := f l hl; omega
  · omega
  · omega
theorem SeeIm.kept0 {w w' : World} {V : IV} {m : IM} (h : SeeIm w V m) (k : Kept [] w w') : SeeIm w' V m := by
  obtain ⟨⟨p, c, e, h1, h2, h3, h4⟩, a, b, d, e1, e2, e3⟩ := h
  exact ⟨⟨p, c, e, h1, h2, fun a ha i v hv => k.cell (h3 a ha i v hv) (by simp), h4⟩, a, fun i v l hv hl => (b i v l hv hl).kept k, d.kept k, e1.kept k, e2.kept k, e3.kept k⟩
theorem all_take {ps : List (List UInt8)} {k : Nat} {l : List UInt8} (h : ps[k]? = some l) (f : List UInt8 → Bool) : (ps.take (k + 1)).all f = ((ps.take k).all f && f l) := by
  obtain ⟨hi, rfl⟩ := List.getElem?_eq_some_iff.1 h
  rw [← List.take_append_getElem hi, List.all_append]
  simp
theorem headOk_eq (np ns lm : Nat) (m : IM) : headOk np ns lm m = (((m.ps.length : Int) == (np : Int)) && ((m.pair.length : Int) == 16 + (24 + 16 * (ns : Int))) && ((m.m0.length : Int) == 40) && ((m.m1.length : Int) == 40) && decide (m.log.length ≤ lm)) := by
  apply Bool.eq_iff_iff.2
  unfold headOk pgB
  simp only [Bool.and_eq_true, decide_eq_true_eq, beq_iff_eq]
  omega
set_option maxHeartbeats 3200000 in
theorem load_ok (np ns lm : Nat) (V : IV) (m : IM) (w : World) (h : SeeIm w V m) (h1 : 1 ≤ np ∧ np ≤ 16) (h2 : 1 ≤ ns ∧ ns ≤ 8) (h3 : 1024 ≤ lm ∧ lm ≤ 65536) :
    Calls Try.prog 57 #[.agg #[.int .i64 (np : Int), .int .i64 (ns : Int), .int .i64 (lm : Int)], V.agg] w fun e w' => Kept [] w w' ∧ if imOk np ns lm m = true then ∃ g R, e = .returned (.tuple #[.pointer (some ⟨g, 0, none⟩), .int .i64 0]) ∧ RD w' g (DS.load np ns lm m) R ∧ (∀ x ∈ R.foot g, w.heap.size ≤ x) else e = .returned (.tuple #[.pointer none, .int .i64 62]) := by
  haveI HNE : ∀ w2, Nonempty (Calm w2) := calmNe
  have hsh : shapeOk (np : Int) (ns : Int) (lm : Int) = true := by simp [shapeOk]; omega
  have hs := fun w => shaped_any (np : Int) (ns : Int) (lm : Int) w
  rw [hsh] at hs
  have hpb := fun w => pageBytes_any (np : Int) (ns : Int) (lm : Int) w (wrap16 h2.2) (wrap24 h2.2)
  have w16 : IntKind.i64.wrap (16 + (24 + 16 * (ns : Int))) = 16 + (24 + 16 * (ns : Int)) := wrap_i64_of (by omega) (by omega)
  obtain ⟨vp, pv, pair, log, m0, m1⟩ := V
  obtain ⟨⟨p, c, e1, hc1, hc2, hcell, hnil⟩, hlen, hps, hpair, hlog, hm0, hm1⟩ := id h
  simp only at e1 hlen hps hpair hlog hm0 hm1 hcell hnil hc1
  subst e1
  obtain ⟨pp, pc, rfl, -, -⟩ := hpair.shape
  obtain ⟨lp, lc, rfl, -, -⟩ := hlog.shape
  obtain ⟨ap, ac, rfl, -, -⟩ := hm0.shape
  obtain ⟨bp, bc, rfl, -, -⟩ := hm1.shape
  have HS : Hid ((1 ≤ np ∧ np ≤ 16) ∧ (1 ≤ ns ∧ ns ≤ 8) ∧ (1024 ≤ lm ∧ lm ≤ 65536)) := ⟨h1, h2, h3⟩
  have HSEE : Hid (SeeIm w ⟨.slice p pv.length c, pv, .slice pp m.pair.length pc, .slice lp m.log.length lc, .slice ap m.m0.length ac, .slice bp m.m1.length bc⟩ m) := h
  have HLEN : Hid (pv.length = m.ps.length) := hlen
  have HC : Hid (pv.length ≤ c ∧ c ≤ maxLen) := ⟨hc1, hc2⟩
  have HPS : Hid (∀ (i : Nat) v l, pv[i]? = some v → m.ps[i]? = some l → Bs w v l) := hps
  have HCELL : Hid (∀ a, p = some a → ∀ (i : Nat) v, pv[i]? = some v → w.cell? (a.add i) = some v) := hcell
  have HNIL : Hid (p = none → pv.length = 0) := hnil
  unfold IV.agg
  simp only
  clear hsh h h1 h2 h3 hlen hc1 hc2 hps hcell hnil hpair hlog hm0 hm1
  go_enter Try.func57, Try.ntmps57
  go_wp2_with fail
  refine (hs _).mono ?_
  rintro e w2 ⟨rfl, k2⟩
  have k02 : Kept [] w w2 := (((Kept.refl [] w).alloc _).alloc _).then k2
  have b0 : Blk w2 w.heap.size 23 [.int .i64 (np : Int), .int .i64 (ns : Int), .int .i64 (lm : Int)] := ((Blk.new w _ _).kept ((Kept.refl [] _).alloc _) (by simp)).kept k2 (by simp)
  have b1 : Blk w2 (w.heap.size + 1) 43 [.slice p pv.length c, .slice pp m.pair.length pc, .slice lp m.log.length lc, .slice ap m.m0.length ac, .slice bp m.m1.length bc] := by
    have := Blk.new (w.alloc (.cells #[.int .i64 (np : Int), .int .i64 (ns : Int), .int .i64 (lm : Int)] 23)) 43 [.slice p pv.length c, .slice pp m.pair.length pc, .slice lp m.log.length lc, .slice ap m.m0.length ac, .slice bp m.m1.length bc]
    rw [World.size_alloc] at this
    exact this.kept k2 (by simp)
  clear hs k2
  go_upto_region 3 with fail
  have a0 := b0.cell (j := 0) rfl
  have a1 := b0.cell (j := 1) rfl
  have a2 := b0.cell (j := 2) rfl
  obtain ⟨⟨i0, i1, i2, i3, i4⟩, -⟩ := b1.five
  go_cut [6] (fun s wx => s = .bool (headOk np ns lm m) ∧ Kept [] w2 wx)
  case first =>
    clear k02 b0 b1
    have kr := Kept.refl [] w2
    have s0 := fun (s : Calm w2) => s.kept.cell a0 (by simp)
    have s1 := fun (s : Calm w2) => s.kept.cell a1 (by simp)
    have s2 := fun (s : Calm w2) => s.kept.cell a2 (by simp)
    have t0 := fun (s : Calm w2) => s.kept.cell i0 (by simp)
    have t1 := fun (s : Calm w2) => s.kept.cell i1 (by simp)
    have t2 := fun (s : Calm w2) => s.kept.cell i2 (by simp)
    have t3 := fun (s : Calm w2) => s.kept.cell i3 (by simp)
    have t4 := fun (s : Calm w2) => s.kept.cell i4 (by simp)
    have KR : Hid (Kept [] w2 w2) := kr
    clear a0 a1 a2 i0 i1 i2 i3 i4 kr
    cases c1 : ((pv.length : Int) == (np : Int)) with
    | false =>
      have HZ : Hid (headOk np ns lm m = false) := (show headOk np ns lm m = false by rw [headOk_eq, ← HLEN.out]; simp only [c1, Bool.and_true, Bool.true_and, Bool.and_false, Bool.false_and])
      refine wp_region_calm KR.out (by kernel_rfl) (by kernel_rfl) ?_
      repeat (go_big_quiet_step ((go_at_call 80; exact Calm.call hpb _)))
      refine wpQuiet_nil ?_
      intro _ hw'
      obtain ⟨sq, hw''⟩ := hw'
      subst hw''
      have ks := sq.kept
      generalize sq.at = wx at ks ⊢
      clear sq
      have ks : Hid (Kept [] w2 wx) := ks
      clear s0 s1 s2 t0 t1 t2 t3 t4 w16 hpb c1
      go_step
      go_step
      go_meet
      exact ⟨by rw [HZ.out], ks.out⟩
    | true =>
      cases c2 : ((m.pair.length : Int) == 16 + (24 + 16 * (ns : Int))) with
      | false =>
        have HZ : Hid (headOk np ns lm m = false) := (show headOk np ns lm m = false by rw [headOk_eq, ← HLEN.out]; simp only [c1, c2, Bool.and_true, Bool.true_and, Bool.and_false, Bool.false_and])
        refine wp_region_calm KR.out (by kernel_rfl) (by kernel_rfl) ?_
        repeat (go_big_quiet_step ((go_at_call 80; exact Calm.call hpb _)))
        refine wpQuiet_nil ?_
        intro _ hw'
        obtain ⟨sq, hw''⟩ := hw'
        subst hw''
        have ks := sq.kept
        generalize sq.at = wx at ks ⊢
        clear sq
        have ks : Hid (Kept [] w2 wx) := ks
        clear s0 s1 s2 t0 t1 t2 t3 t4 w16 hpb c1 c2
        go_step
        go_step
        go_meet
        exact ⟨by rw [HZ.out], ks.out⟩
      | true =>
        cases c3 : ((m.m0.length : Int) == 40) with
        | false =>
          have HZ : Hid (headOk np ns lm m = false) := (show headOk np ns lm m = false by rw [headOk_eq, ← HLEN.out]; simp only [c1, c2, c3, Bool.and_true, Bool.true_and, Bool.and_false, Bool.false_and])
          refine wp_region_calm KR.out (by kernel_rfl) (by kernel_rfl) ?_
          repeat (go_big_quiet_step ((go_at_call 80; exact Calm.call hpb _)))
          refine wpQuiet_nil ?_
          intro _ hw'
          obtain ⟨sq, hw''⟩ := hw'
          subst hw''
          have ks := sq.kept
          generalize sq.at = wx at ks ⊢
          clear sq
          have ks : Hid (Kept [] w2 wx) := ks
          clear s0 s1 s2 t0 t1 t2 t3 t4 w16 hpb c1 c2 c3
          go_step
          go_step
          go_meet
          exact ⟨by rw [HZ.out], ks.out⟩
        | true =>
          cases c4 : ((m.m1.length : Int) == 40) with
          | false =>
            have HZ : Hid (headOk np ns lm m = false) := (show headOk np ns lm m = false by rw [headOk_eq, ← HLEN.out]; simp only [c1, c2, c3, c4, Bool.and_true, Bool.true_and, Bool.and_false, Bool.false_and])
            refine wp_region_calm KR.out (by kernel_rfl) (by kernel_rfl) ?_
            repeat (go_big_quiet_step ((go_at_call 80; exact Calm.call hpb _)))
            refine wpQuiet_nil ?_
            intro _ hw'
            obtain ⟨sq, hw''⟩ := hw'
            subst hw''
            have ks := sq.kept
            generalize sq.at = wx at ks ⊢
            clear sq
            have ks : Hid (Kept [] w2 wx) := ks
            clear s0 s1 s2 t0 t1 t2 t3 t4 w16 hpb c1 c2 c3 c4
            go_step
            go_step
            go_meet
            exact ⟨by rw [HZ.out], ks.out⟩
          | true =>
            cases c5 : decide (m.log.length ≤ lm) with
            | false =>
              have HZ : Hid (headOk np ns lm m = false) := (show headOk np ns lm m = false by rw [headOk_eq, ← HLEN.out]; simp only [c1, c2, c3, c4, c5, Bool.and_true, Bool.true_and, Bool.and_false, Bool.false_and])
              refine wp_region_calm KR.out (by kernel_rfl) (by kernel_rfl) ?_
              repeat (go_big_quiet_step ((go_at_call 80; exact Calm.call hpb _)))
              refine wpQuiet_nil ?_
              intro _ hw'
              obtain ⟨sq, hw''⟩ := hw'
              subst hw''
              have ks := sq.kept
              generalize sq.at = wx at ks ⊢
              clear sq
              have ks : Hid (Kept [] w2 wx) := ks
              clear s0 s1 s2 t0 t1 t2 t3 t4 w16 hpb c1 c2 c3 c4 c5
              go_step
              go_step
              go_meet
              exact ⟨by rw [HZ.out], ks.out⟩
            | true =>
              have HZ : Hid (headOk np ns lm m = true) := (show headOk np ns lm m = true by rw [headOk_eq, ← HLEN.out]; simp only [c1, c2, c3, c4, c5, Bool.and_true, Bool.true_and, Bool.and_false, Bool.false_and])
              refine wp_region_calm KR.out (by kernel_rfl) (by kernel_rfl) ?_
              repeat (go_big_quiet_step ((go_at_call 80; exact Calm.call hpb _)))
              refine wpQuiet_nil ?_
              intro _ hw'
              obtain ⟨sq, hw''⟩ := hw'
              subst hw''
              have ks := sq.kept
              generalize sq.at = wx at ks ⊢
              clear sq
              have ks : Hid (Kept [] w2 wx) := ks
              clear s0 s1 s2 t0 t1 t2 t3 t4 w16 hpb c1 c2 c3 c4 c5
              go_step
              go_step
              go_meet
              exact ⟨by rw [HZ.out], ks.out⟩
  case rest =>
    clear a0 a1 a2 i0 i1 i2 i3 i4
    obtain ⟨rfl, kc⟩ := hcut
    have B0 : Hid (Blk w2 w.heap.size 23 [.int .i64 (np : Int), .int .i64 (ns : Int), .int .i64 (lm : Int)]) := b0
    have B1 : Hid (Blk w2 (w.heap.size + 1) 43 [.slice p pv.length c, .slice pp m.pair.length pc, .slice lp m.log.length lc, .slice ap m.m0.length ac, .slice bp m.m1.length bc]) := b1
    have i0 := (b1.kept kc (by simp)).cell (j := 0) rfl
    have st0 : Hid (Kept [] w2 wc) := kc
    have W16 : Hid (IntKind.i64.wrap (16 + (24 + 16 * (ns : Int))) = 16 + (24 + 16 * (ns : Int))) := w16
    clear b0 b1 w16 kc i0
    go_wp2_with fail
    go_loopw [6, 7] (fun z i wr => ∃ k : Nat, k ≤ pv.length ∧ i = .int .i64 k ∧ z = .bool (headOk np ns lm m && (m.ps.take k).all fun p => decide (p.length = pgB ns)) ∧ Kept [] w2 wr) (fun _ i _ => pv.length - (intOf i).toNat)
    case atStart => exact ⟨0, Nat.zero_le _, rfl, by simp, st0.out⟩
    case round =>
      obtain ⟨k, hk, rfl, rfl, kr⟩ := hrel
      have i0 := (B1.out.kept kr (by simp)).cell (j := 0) rfl
      have h63 : pv.length ≤ 9223372036854775807 := by have := HC.out.1; have := HC.out.2; unfold maxLen at this; omega
      obtain ⟨z, hz⟩ : ∃ z, z = (headOk np ns lm m && (m.ps.take k).all fun p => decide (p.length = pgB ns)) := ⟨_, rfl⟩
      rw [← hz]
      by_cases hlt : k < pv.length
      · obtain ⟨a, rfl⟩ : ∃ a, p = some a := by
          cases p with
          | none => have := HNIL.out rfl; omega
          | some a => exact ⟨a, rfl⟩
        obtain ⟨v, hv⟩ : ∃ v, pv[k]? = some v := ⟨_, List.getElem?_eq_getElem hlt⟩
        obtain ⟨l, hl⟩ : ∃ l, m.ps[k]? = some l := ⟨_, List.getElem?_eq_getElem (by have := HLEN.out; omega)⟩
        have hbs := (HPS.out k v l hv hl).kept (k02.then kr)
        have hcv := (k02.then kr).cell (HCELL.out a rfl k v hv) (by simp)
        obtain ⟨pq, cq, rfl⟩ : ∃ pq cq, v = .slice pq l.length cq := by obtain ⟨pq, cq, e, -⟩ := hbs.shape; exact ⟨pq, cq, e⟩
        have hnext := all_take hl (fun p => decide (p.length = pgB ns))
        have HNX : Hid ((headOk np ns lm m && (m.ps.take (k + 1)).all fun p => decide (p.length = pgB ns)) = (z && decide (l.length = pgB ns))) := (show _ = _ by rw [hnext, ← Bool.and_assoc, ← hz])
        have hlt' : (k : Int) < (pv.length : Int) := by omega
        have wk : IntKind.i64.wrap ((k : Int) + 1) = (k : Int) + 1 := wrap_i64_of (by omega) (by omega)
        have bs := B0.out.kept kr (by simp)
        have a0 := bs.cell (j := 0) rfl
        have a1 := bs.cell (j := 1) rfl
        have a2 := bs.cell (j := 2) rfl
        have KR : Hid (Kept [] w2 wr) := kr
        have KR2 : Hid (Kept [] wr wr) := Kept.refl [] wr
        clear hnext hz hv hl hbs bs kr k02
        have s0 := fun (s : Calm wr) => s.kept.cell a0 (by simp)
        have s1 := fun (s : Calm wr) => s.kept.cell a1 (by simp)
        have s2 := fun (s : Calm wr) => s.kept.cell a2 (by simp)
        have t0 := fun (s : Calm wr) => s.kept.cell i0 (by simp)
        have tv := fun (s : Calm wr) => s.kept.cell hcv (by simp)
        cases z with
        | false =>
          have NX : Hid ((headOk np ns lm m && (m.ps.take (k + 1)).all fun p => decide (p.length = pgB ns)) = false) := (show _ = _ by rw [HNX.out]; rfl)
          go_wp2_with fail
          refine wp_region_calm KR2.out (by kernel_rfl) (by kernel_rfl) ?_
          repeat (go_big_quiet_step ((go_at_call 80; exact Calm.call hpb _)))
          refine wpQuiet_nil ?_
          intro _ hw'
          obtain ⟨sq, hw''⟩ := hw'
          subst hw''
          have ks := sq.kept
          generalize sq.at = wx at ks ⊢
          clear sq
          have KS : Hid (Kept [] w2 wx) := KR.out.then ks
          clear ks s0 s1 s2 t0 tv a0 a1 a2 i0 hcv
          go_wp2
          go_roundw
          case rel => exact ⟨k + 1, by omega, by go_num, by rw [NX.out], KS.out⟩
          case measure => simp [intOf]; omega
        | true =>
          cases cl : ((l.length : Int) == 24 + 16 * (ns : Int)) with
          | false =>
            have NX : Hid ((headOk np ns lm m && (m.ps.take (k + 1)).all fun p => decide (p.length = pgB ns)) = false) := (show _ = _ by rw [HNX.out]; unfold pgB; simp at cl; simp; omega)
            go_wp2_with fail
            refine wp_region_calm KR2.out (by kernel_rfl) (by kernel_rfl) ?_
            repeat (go_big_quiet_step ((go_at_call 80; exact Calm.call hpb _)))
            refine wpQuiet_nil ?_
            intro _ hw'
            obtain ⟨sq, hw''⟩ := hw'
            subst hw''
            have ks := sq.kept
            generalize sq.at = wx at ks ⊢
            clear sq
            have KS : Hid (Kept [] w2 wx) := KR.out.then ks
            clear ks s0 s1 s2 t0 tv a0 a1 a2 i0 hcv cl
            go_wp2
            go_roundw
            case rel => exact ⟨k + 1, by omega, by go_num, by rw [NX.out], KS.out⟩
            case measure => simp [intOf]; omega
          | true =>
            have NX : Hid ((headOk np ns lm m && (m.ps.take (k + 1)).all fun p => decide (p.length = pgB ns)) = true) := (show _ = _ by rw [HNX.out]; unfold pgB; simp at cl; simp; omega)
            go_wp2_with fail
            refine wp_region_calm KR2.out (by kernel_rfl) (by kernel_rfl) ?_
            repeat (go_big_quiet_step ((go_at_call 80; exact Calm.call hpb _)))
            refine wpQuiet_nil ?_
            intro _ hw'
            obtain ⟨sq, hw''⟩ := hw'
            subst hw''
            have ks := sq.kept
            generalize sq.at = wx at ks ⊢
            clear sq
            have KS : Hid (Kept [] w2 wx) := KR.out.then ks
            clear ks s0 s1 s2 t0 tv a0 a1 a2 i0 hcv cl
            go_wp2
            go_roundw
            case rel => exact ⟨k + 1, by omega, by go_num, by rw [NX.out], KS.out⟩
            case measure => simp [intOf]; omega
      · obtain rfl : k = pv.length := by omega
        have hzk : z = imOk np ns lm m := by rw [hz, imOk_eq, HLEN.out, List.take_length]
        have hwr : Kept [] w wr := k02.then kr
        have KW : Hid (Kept [] w wr) := hwr
        have bs := B0.out.kept kr (by simp)
        have bi := B1.out.kept kr (by simp)
        clear hz k02 hpb
        cases z with
        | false =>
          have hzf : imOk np ns lm m = false := hzk.symm
          clear kr hwr bs bi hzk h63 hlt hk
          go_wp2
          all_goals
            go_ret2
            exact ⟨KW.out, rfl⟩
        | true =>
          have hsm := imOk_small HS.out.1.2 HS.out.2.1.2 HS.out.2.2.2 hzk.symm
          have him := images_any _ m wr (HSEE.out.kept0 hwr) hsm.1 hsm.2
          unfold IV.agg at him
          simp only at him
          have a0 := bs.cell (j := 0) rfl
          have a1 := bs.cell (j := 1) rfl
          have a2 := bs.cell (j := 2) rfl
          obtain ⟨⟨j0, j1, j2, j3, j4⟩, -⟩ := bi.five
          have HZK : Hid (imOk np ns lm m = true) := hzk.symm
          have BS : Hid (Blk wr w.heap.size 23 [.int .i64 (np : Int), .int .i64 (ns : Int), .int .i64 (lm : Int)]) := bs
          clear hsm hzk kr hwr bs bi
          go_wp2_with fail
          refine him.mono ?_
          rintro e w4 ⟨V, rfl, hV, k4⟩
          obtain ⟨vp, qv, pair, log, m0, m1⟩ := V
          obtain ⟨u0, v0, u1, v1, u2, v2, u3, v3, u4, v4, x0, x1, x2, x3, x4⟩ := hV.shapes
          simp only at x0 x1 x2 x3 x4
          subst x0 x1 x2 x3 x4
          have HV : Hid (OwnIm w4 wr.heap.size ⟨.slice u0 qv.length v0, qv, .slice u1 m.pair.length v1, .slice u2 m.log.length v2, .slice u3 m.m0.length v3, .slice u4 m.m1.length v4⟩ m) := hV
          have K4 : Hid (Kept [] wr w4) := k4
          have kB := (Kept.refl [] w4).alloc (.cells #[.slice u0 qv.length v0, .slice u1 m.pair.length v1, .slice u2 m.log.length v2, .slice u3 m.m0.length v3, .slice u4 m.m1.length v4] 43)
          have c0 := (k4.then kB).cell a0 (by simp)
          have c1 := (k4.then kB).cell a1 (by simp)
          have c2 := (k4.then kB).cell a2 (by simp)
          have kD := kB.alloc (.cells #[.int .i64 (np : Int), .int .i64 (ns : Int), .int .i64 (lm : Int), .slice u0 qv.length v0, .slice u1 m.pair.length v1, .slice none 0 0, .slice u3 m.m0.length v3, .slice u4 m.m1.length v4, .slice none 0 0, .slice u2 m.log.length v2, .int .i64 (m.log.length : Int), .int .i64 0, .int .i64 0, .bool false] 113)
          have bD := Blk.new (w4.alloc (.cells #[.slice u0 qv.length v0, .slice u1 m.pair.length v1, .slice u2 m.log.length v2, .slice u3 m.m0.length v3, .slice u4 m.m1.length v4] 43)) 113 [.int .i64 (np : Int), .int .i64 (ns : Int), .int .i64 (lm : Int), .slice u0 qv.length v0, .slice u1 m.pair.length v1, .slice none 0 0, .slice u3 m.m0.length v3, .slice u4 m.m1.length v4, .slice none 0 0, .slice u2 m.log.length v2, .int .i64 (m.log.length : Int), .int .i64 0, .int .i64 0, .bool false]
          rw [World.size_alloc] at bD
          obtain ⟨f1, f2⟩ := RD.make (d := DS.load np ns lm m) (g := w4.heap.size + 1) (DS.Ok.ofLoad HS.out.1 HS.out.2.1 HS.out.2.2 HZK.out) (by show OwnIm _ wr.heap.size _ (imOf np m.rows m.log); rw [imOf_rows (imOk_parts HZK.out).1]; exact hV.kept0 kD) rfl bD (by have := k4.size; omega)
          have F1 : Hid (RD _ (w4.heap.size + 1) (DS.load np ns lm m) _) := f1
          have F2 : Hid (∀ x ∈ (freshR ⟨.slice u0 qv.length v0, qv, .slice u1 m.pair.length v1, .slice u2 m.log.length v2, .slice u3 m.m0.length v3, .slice u4 m.m1.length v4⟩).foot (w4.heap.size + 1), wr.heap.size ≤ x) := f2
          have KD : Hid (Kept [] w4 _) := kD
          clear him j0 j1 j2 j3 j4 a0 a1 a2 i0 hV k4 kB kD bD f1 f2 h63 hlt hk
          go_wp2
          go_ret2
          exact ⟨(KW.out.then K4.out).then KD.out, _, rfl, _, F1.out, fun x hx => Nat.le_trans KW.out.size (F2.out x hx)⟩
end Go.Proofs.Ytmipmiaflompmaa

/-
  OWN WORK. The document's disk: Copy: one loose write more.
-/
namespace Go.Proofs.Ytmipmiaflompmaa
open Go.RowKit
set_option linter.unusedVariables false

theorem DS.Ok.more {d : DS} (h : d.Ok) {k : Nat} {b : List UInt8} (h1 : k < d.np + 3) (h2 : b.length = sizeK d.np d.ns k) : ({ d with loose := d.loose ++ [(k, b)] } : DS).Ok :=
  ⟨h.np, h.ns, h.lm, h.len, h.row, fun x hx => by
    rcases List.mem_append.1 hx with c | c
    · exact h.loose x c
    · simp at c; subst c; exact ⟨h1, h2⟩, h.log, h.lasted, h.stop, h.acts, h.stopw⟩
theorem DS.Ok.front {d : DS} (h : d.Ok) (k : Nat) : ({ d.copy with loose := d.loose.take k } : DS).Ok :=
  ⟨h.copy.np, h.copy.ns, h.copy.lm, h.copy.len, h.copy.row, fun x hx => h.loose x (List.mem_of_mem_take hx), h.copy.log, h.copy.lasted, h.copy.stop, h.copy.acts, h.copy.stopw⟩
/-- one loose write more: a row of bytes made just now (w2 to w3), appended (w5), the list laid into the disk -/
theorem looseEnd {w2 w3 w5 : World} {g : Nat} {d : DS} {R : RDat} {p n : Int} {k : Nat} {b : List UInt8} {pz p3 p5 : Option Addr} {cz ll c3 c5 : Nat} (H2 : RD w2 g d R) (EZ : R.vloose = .slice pz ll cz) (hll : ll = d.loose.length) (hix : idxOf d.np p n = some k) (hbl : b.length = sizeK d.np d.ns k)
    (o3 : w3.ownsRow w2.heap.size 5 1 (.slice p3 b.length c3) b.length (u8s b)) (kA : Kept [] w2 w3) (r5 : Row w5 0 3 (.slice p5 (ll + 1) c5) (ll + 1) (lcells R.lv ++ [.int .i64 p, .int .i64 n, .slice p3 b.length c3]))
    (k5 : Kept (Value.slice pz ll cz).ownBlock.toList (w3.alloc (.cells #[.int .i64 p, .int .i64 n, .slice p3 b.length c3] 116)) w5) (at5 : (Value.slice p5 (ll + 1) c5).ownBlock = (Value.slice pz ll cz).ownBlock ∨ (Value.slice p5 (ll + 1) c5).ownBlock = some (w3.alloc (.cells #[.int .i64 p, .int .i64 n, .slice p3 b.length c3] 116)).heap.size) :
    RD (w5.setCell ⟨g, 8, none⟩ (.slice p5 (ll + 1) c5)) g { d with loose := d.loose ++ [(k, b)] } (R.more (.slice p5 (ll + 1) c5) p n (.slice p3 b.length c3)) ∧ Kept (g :: R.vloose.ownBlock.toList) w2 (w5.setCell ⟨g, 8, none⟩ (.slice p5 (ll + 1) c5)) ∧ ∀ x ∈ (R.more (.slice p5 (ll + 1) c5) p n (.slice p3 b.length c3)).foot g, x ∈ R.foot g ∨ w2.heap.size ≤ x := by
  rw [← EZ] at k5 at5
  have hok := H2.ok.more (idxOf_lt hix) hbl
  have ngl : g ∉ R.vloose.ownBlock.toList := fun hm => (H2.apart g (by simpa using hm)).1 rfl
  have kE : Kept R.vloose.ownBlock.toList w2 w5 := ((kA.alloc (.cells #[.int .i64 p, .int .i64 n, .slice p3 b.length c3] 116)).mono (by simp)).trans k5 (by intro x hx; exact .inl hx)
  have b5 := H2.blk.kept kE ngl
  obtain ⟨b6, k6⟩ := b5.set 8 (.slice p5 (ll + 1) c5)
  have kF : Kept (g :: R.vloose.ownBlock.toList) w2 (w5.setCell ⟨g, 8, none⟩ (.slice p5 (ll + 1) c5)) := (kE.mono (by intro x hx; simp [hx])).trans k6 (by simp)
  have hgl := H2.blk.lt
  have hlow : ∀ x ∈ R.vloose.ownBlock.toList, x < w2.heap.size := fun x hx => (H2.loose.lt x (by simpa using hx)).2
  have o4 := own_of_kept o3 ((((Kept.refl [] w3).alloc (.cells #[.int .i64 p, .int .i64 n, .slice p3 b.length c3] 116)).mono (T := R.vloose.ownBlock.toList) (by simp)).trans k5 (by intro x hx; exact .inl hx)) (fun x hx hm => by have := own_ge o3 x hx; have := hlow x hm; omega)
  have o5 := own_of_kept o4 k6 (fun x hx hm => by have := own_ge o3 x hx; simp at hm; omega)
  have hs := kA.size
  have hv : (Value.slice p5 (ll + 1) c5).ownBlock = R.vloose.ownBlock ∨ ∃ x, (Value.slice p5 (ll + 1) c5).ownBlock = some x ∧ w2.heap.size ≤ x ∧ (Value.slice p3 b.length c3).ownBlock ≠ some x := by
    rcases at5 with e | e
    · exact .inl e
    · refine .inr ⟨_, e, by simp; omega, fun e2 => ?_⟩
      have := own_lt o3 _ e2
      simp at this
      omega
  have r6 : Row (w5.setCell ⟨g, 8, none⟩ (.slice p5 (ll + 1) c5)) 0 3 (.slice p5 (ll + 1) c5) (ll + 1) (lcells R.lv ++ [.int .i64 p, .int .i64 n, .slice p3 b.length c3]) := r5.kept k6 fun x hx hm => by
    simp at hm
    subst hm
    rcases hv with e | ⟨y, e, h1, -⟩
    · exact ngl (by rw [← e]; simp [hx])
    · have : y = x := Option.some.inj (e.symm.trans hx)
      omega
  exact ⟨H2.newLoose kF b6 hok rfl rfl rfl rfl hix o5 (by rw [← hll]; exact r6) hv, kF, fun x hx => foot_more (by rcases hv with e | ⟨y, e, h1, -⟩; exact .inl e; exact .inr ⟨y, e, h1⟩) (fun y hy => own_ge o3 y hy) hx⟩
theorem copy_next {d : DS} {k : Nat} {x : Nat × List UInt8} (h : d.loose[k]? = some x) : ({ ({ d.copy with loose := d.loose.take k } : DS) with loose := d.loose.take k ++ [x] } : DS) = { d.copy with loose := d.loose.take (k + 1) } := by
  obtain ⟨hi, rfl⟩ := List.getElem?_eq_some_iff.1 h
  rw [← List.take_append_getElem hi]
/-- an image whose log is an elder row -/
theorem OwnIm.oldLog {w : World} {base b' : Nat} {V : IV} {m : IM} {v : Value} {l : List UInt8} (h : OwnIm w base V m) (hb : b' ≤ base) (ho : w.ownsRow b' 5 1 v l.length (u8s l)) (hlt : ∀ x, v.ownBlock = some x → x < base) : OwnIm w b' { V with log := v } { m with log := l } := by
  obtain ⟨h1, h2, h3⟩ := Fam.iff.1 h.fam
  refine ⟨Fam.iff.2 ⟨by simpa [IV.rows, IM.all] using h1, fun z hz => ?_, ?_⟩, own_mono h.row hb, h.len⟩
  · have hz' : z ∈ (v, l) :: (V.pair :: (V.pv ++ [V.m0, V.m1])).zip (m.pair :: (m.ps ++ [m.m0, m.m1])) := hz
    rcases List.mem_cons.1 hz' with e | e
    · subst e; exact ho
    · exact own_mono (h2 z (List.mem_cons_of_mem _ e)) hb
  · have h3' : (V.log :: (V.pair :: (V.pv ++ [V.m0, V.m1]))).Pairwise (fun u v => ∀ x, u.ownBlock = some x → v.ownBlock ≠ some x) := h3
    show (v :: (V.pair :: (V.pv ++ [V.m0, V.m1]))).Pairwise _
    refine List.pairwise_cons.2 ⟨fun u hu x hx hux => ?_, (List.pairwise_cons.1 h3').2⟩
    obtain ⟨i, hi⟩ := List.getElem?_of_mem (show u ∈ V.rows from List.mem_cons_of_mem _ hu)
    have := (h.fam.lt i u x hi hux).1
    have := hlt x hx
    omega
/-- the same disk, its image's own log any row of none -/
def freshV (V : IV) (vl : Value) : RDat := ⟨V.vp, V.pv, V.pair, V.m0, V.m1, vl, .slice none 0 0, V.log, []⟩
theorem own_nil_shape {w : World} {base : Nat} {v : Value} (h : w.ownsRow base 5 1 v 0 (u8s [])) : ∃ p c, v = .slice p 0 c ∧ c ≤ maxLen ∧ (p = none → c = 0) := by
  obtain ⟨p, c, e, -, hc⟩ := (Bs.ofOwn h).shape
  refine ⟨p, c, e, hc, fun hp => ?_⟩
  rcases h.2 with ⟨e2, -⟩ | ⟨g', cap, cur, e2, -⟩
  · rw [e] at e2; cases e2; rfl
  · rw [e] at e2; cases e2; cases hp
theorem RD.make2 {w : World} {base g : Nat} {V : IV} {vl : Value} {d : DS} (hok : d.Ok) (h : OwnIm w base V (imOf d.np d.rows d.log)) (hl : d.loose = []) (hv : ∃ p c, vl = .slice p 0 c ∧ c ≤ maxLen ∧ (p = none → c = 0)) (hb : Blk w g 113 ((freshV V vl).cells d)) (hg : base ≤ g) : RD w g d (freshV V vl) ∧ ∀ x ∈ (freshV V vl).foot g, base ≤ x := by
  obtain ⟨hf, hpv⟩ := h.ofRows hok.len
  have e1 : (freshV V vl).rows = V.log :: V.tail := by simp [freshV, RDat.rows, RDat.tail, IV.tail]
  have e2 : d.all = d.log :: d.rows := by unfold DS.all; rw [hl]; simp
  refine ⟨⟨hok, hb, by rw [e1, e2]; exact hf.mono (Nat.zero_le _), ?_, hv, by rw [hl]; exact Row.nil w 0 3, by rw [hl]; rfl, fun x hx => by simp [freshV, Value.ownBlock] at hx⟩, fun x hx => ?_⟩
  · rw [← hpv]
    exact own_mono h.row (Nat.zero_le _)
  · unfold RDat.foot at hx
    rcases List.mem_cons.1 hx with e | hx
    · omega
    · rcases List.mem_append.1 hx with hx | hx
      · rcases List.mem_append.1 hx with hx | hx
        · exact own_ge h.row x (by simpa [freshV] using hx)
        · simp [freshV, Value.ownBlock] at hx
      · rw [e1] at hx
        exact (hf.not8 hx).2.1
end Go.Proofs.Ytmipmiaflompmaa

/-
  OWN WORK. The document's disk: Crash.
-/
namespace Go.Proofs.Ytmipmiaflompmaa
open Go.RowKit
set_option linter.unusedVariables false

/-- THE VALUE v IS A SLICE OF THESE INTEGERS IN w. -/
def Is (w : World) (v : Value) (l : List Int) : Prop :=
  ∃ (p : Option Addr) (c : Nat), v = .slice p l.length c ∧ l.length ≤ c ∧ c ≤ maxLen ∧ (p = none → c = 0) ∧ (∀ x ∈ l, IntKind.i64.wrap x = x) ∧ ∀ a, p = some a → ∀ (i : Nat) x, l[i]? = some x → w.cell? (a.add i) = some (.int .i64 x)
theorem Is.keptOwn {w w' : World} {v : Value} {l : List Int} {S : List Nat} (h : Is w v l) (k : Kept S w w') (hS : ∀ x, v.ownBlock = some x → x ∉ S) : Is w' v l := by
  obtain ⟨p, c, rfl, h1, h2, h3, h5, h4⟩ := h
  refine ⟨p, c, rfl, h1, h2, h3, h5, fun a e i x hx => k.cell (h4 a e i x hx) fun hm => ?_⟩
  subst e
  rw [add_block] at hm
  exact hS a.block (by simp [Value.ownBlock]) hm
theorem Is.kept {w w' : World} {v : Value} {l : List Int} (h : Is w v l) (k : Kept [] w w') : Is w' v l := h.keptOwn k (by simp)
theorem Is.wrap {w : World} {v : Value} {l : List Int} (h : Is w v l) {x : Int} (hx : x ∈ l) : IntKind.i64.wrap x = x := by
  obtain ⟨p, c, -, -, -, -, h5, -⟩ := h
  exact h5 x hx
theorem Is.pos {w : World} {v : Value} {l : List Int} (h : Is w v l) (hl : 0 < l.length) :
    ∃ b o c, v = .slice (some ⟨b, o, none⟩) l.length c ∧ b < w.heap.size ∧ ∀ (i : Nat) x, l[i]? = some x → w.cell? ⟨b, o + i, none⟩ = some (.int .i64 x) := by
  obtain ⟨p, c, rfl, h1, h2, h3, h5, h4⟩ := h
  cases p with
  | none => have := h3 rfl; omega
  | some a =>
    have hc := h4 a rfl 0 l[0] (List.getElem?_eq_getElem hl)
    have hs := spot_of_cell hc
    have hs' : a.spot = none := by
      unfold Addr.add at hs
      split at hs <;> simp_all
    have hb := lt_of_cell hc
    rw [add_block] at hb
    refine ⟨a.block, a.off, c, by obtain ⟨b, o, s⟩ := a; simp_all, hb, fun i x hx => ?_⟩
    have := h4 a rfl i x hx
    rw [add_none hs'] at this
    exact this
theorem crash_take {keep : List Int} {rows : List (List UInt8)} {xs : List (Nat × List UInt8)} {i : Nat} {x : Nat × List UInt8} (h : xs[i]? = some x) : crashRows keep (xs.take (i + 1)) 0 rows = crashLay (crashRows keep (xs.take i) 0 rows) x (keepAt keep i) := by
  obtain ⟨hi, rfl⟩ := List.getElem?_eq_some_iff.1 h
  rw [← List.take_append_getElem hi, crashRows_snoc]
  congr 2
  simp; omega
/-- the same image with another log of its own -/
theorem OwnIm.swapLog {w : World} {base : Nat} {V : IV} {m : IM} {v : Value} {l : List UInt8} (h : OwnIm w base V m) (ho : w.ownsRow base 5 1 v l.length (u8s l)) (hap : ∀ x, v.ownBlock = some x → x ∉ blocks (V.pair :: (V.pv ++ [V.m0, V.m1]))) : OwnIm w base { V with log := v } { m with log := l } := by
  obtain ⟨h1, h2, h3⟩ := Fam.iff.1 h.fam
  refine ⟨Fam.iff.2 ⟨by simpa [IV.rows, IM.all] using h1, fun z hz => ?_, ?_⟩, h.row, h.len⟩
  · have hz' : z ∈ (v, l) :: (V.pair :: (V.pv ++ [V.m0, V.m1])).zip (m.pair :: (m.ps ++ [m.m0, m.m1])) := hz
    rcases List.mem_cons.1 hz' with e | e
    · subst e; exact ho
    · exact h2 z (List.mem_cons_of_mem _ e)
  · have h3' : (V.log :: (V.pair :: (V.pv ++ [V.m0, V.m1]))).Pairwise (fun u v => ∀ x, u.ownBlock = some x → v.ownBlock ≠ some x) := h3
    show (v :: (V.pair :: (V.pv ++ [V.m0, V.m1]))).Pairwise _
    refine List.pairwise_cons.2 ⟨fun u hu x hx hux => hap x hx (List.mem_filterMap.2 ⟨u, hu, hux⟩), (List.pairwise_cons.1 h3').2⟩
end Go.Proofs.Ytmipmiaflompmaa

/-
  OWN WORK. A script of calls of a disk that came in.
-/
namespace Go.Proofs.Ytmipmiaflompmaa
open Go.ChangeShapes Go.WideShapes Go.ChangeAt Go.RowKit Go.Deep
set_option linter.unusedVariables false

theorem bsV_open {H : Type} {enc : TypeId × Value → H} {W : World} {t e : TypeId} {fuel : Nat} {v : Value} {x : DataW H × List MemPlace} (ht : Try.prog.underlying t = some (.slice e)) (he : Try.prog.underlying e = some (.int .u8)) (hc : Try.prog.cellsOf e = 1)
    (hf : DataW.trod enc Try.prog W 0 (fun _ => true) true fuel t [v] = some x) : ∃ l : List UInt8, Bs W v l := by
  rcases open_ints ht he hc hf with ⟨hcs, hx⟩ | ⟨a, len, cap, zs, hcs, _, hl, hm, hz, hx, hcell, hwz⟩
  · simp at hcs
    subst hcs
    exact ⟨[], Bs.nil W⟩
  · simp at hcs
    subst hcs
    have hz' : zs.length = cap := by simpa using hz
    exact ⟨bytesOfInts (zs.take len), bs_cells hl hm hz' (fun e => by cases e) (fun a' ha i hi => by cases ha; exact hcell i (by omega)) hwz⟩
theorem isV_open {H : Type} {enc : TypeId × Value → H} {W : World} {t e : TypeId} {fuel : Nat} {v : Value} {x : DataW H × List MemPlace} (ht : Try.prog.underlying t = some (.slice e)) (he : Try.prog.underlying e = some (.int .i64)) (hc : Try.prog.cellsOf e = 1)
    (hf : DataW.trod enc Try.prog W 0 (fun _ => true) true fuel t [v] = some x) : ∃ l : List Int, Is W v l := by
  rcases open_ints ht he hc hf with ⟨hcs, hx⟩ | ⟨a, len, cap, zs, hcs, _, hl, hm, hz, hx, hcell, hwz⟩
  · simp at hcs
    subst hcs
    exact ⟨[], none, 0, rfl, Nat.le_refl _, by simp [maxLen], fun _ => rfl, by simp, fun a e => (by cases e)⟩
  · simp at hcs
    subst hcs
    have hz' : zs.length = cap := by simpa using hz
    have hlen : (zs.take len).length = len := by simp; omega
    refine ⟨zs.take len, some a, cap, by rw [hlen], by rw [hlen]; exact hl, hm, fun e => (by cases e), fun y hy => ?_, fun a' ha i y hy => ?_⟩
    · have hw := hwz y (List.mem_of_mem_take hy)
      have hb : -9223372036854775808 ≤ y ∧ y ≤ 9223372036854775807 := by simpa [Lit.wf, IntKind.min, IntKind.max, IntKind.signed, IntKind.bits] using hw
      exact wrap_i64_of (by omega) (by omega)
    · cases ha
      have hi : i < len := by rw [← hlen]; exact (List.getElem?_eq_some_iff.1 hy).1
      rw [hcell i (by omega)]
      rw [List.getElem?_take, if_pos hi] at hy
      simp [List.getD, hy]
/-- a call of a script: its numbers, its bytes, a crash's choice -/
structure OpR where
  kind : Int
  which : Int
  n : Int
  m : Int
  ub : Value
  b : List UInt8
  cl : Int
  vk : Value
  keep : List Int
structure OpAt (w : World) (a : Addr) (s : OpR) : Prop where
  c0 : w.cell? a = some (.int .i64 s.kind)
  c1 : w.cell? (a.add 1) = some (.int .i64 s.which)
  c2 : w.cell? (a.add 2) = some (.int .i64 s.n)
  c3 : w.cell? (a.add 3) = some (.int .i64 s.m)
  c4 : w.cell? (a.add 4) = some s.ub
  c5 : w.cell? (a.add 5) = some (.int .i64 s.cl)
  c6 : w.cell? (a.add 6) = some s.vk
  b : Bs w s.ub s.b
  k : Is w s.vk s.keep
  n : IntKind.i64.wrap s.n = s.n
/-- THE VALUE v IS A SLICE OF THESE CALLS IN w. -/
def Ops (w : World) (v : Value) (ss : List OpR) : Prop :=
  ∃ (p : Option Addr) (c : Nat), v = .slice p ss.length c ∧ ss.length ≤ c ∧ c ≤ maxLen ∧ (p = none → c = 0) ∧ ∀ a, p = some a → ∀ (i : Nat) s, ss[i]? = some s → OpAt w (a.add (i * 7)) s
theorem OpAt.kept {w w' : World} {a : Addr} {s : OpR} (h : OpAt w a s) (k : Kept [] w w') : OpAt w' a s :=
  ⟨k.cell h.c0 (by simp), k.cell h.c1 (by simp), k.cell h.c2 (by simp), k.cell h.c3 (by simp), k.cell h.c4 (by simp), k.cell h.c5 (by simp), k.cell h.c6 (by simp), h.b.kept k, h.k.kept k, h.n⟩
theorem Ops.kept {w w' : World} {v : Value} {ss : List OpR} (h : Ops w v ss) (k : Kept [] w w') : Ops w' v ss := by
  obtain ⟨p, c, e, h1, h2, h3, h4⟩ := h
  exact ⟨p, c, e, h1, h2, h3, fun a ha i s hs => (h4 a ha i s hs).kept k⟩
theorem six_of {α : Type} {l : List α} (h : l.length = 6) : ∃ a b c d e f, l = [a, b, c, d, e, f] := by
  match l, h with
  | [a, b, c, d, e, f], _ => exact ⟨a, b, c, d, e, f, rfl⟩
theorem seven_of {α : Type} {l : List α} (h : l.length = 7) : ∃ a b c d e f g, l = [a, b, c, d, e, f, g] := by
  match l, h with
  | [a, b, c, d, e, f, g], _ => exact ⟨a, b, c, d, e, f, g, rfl⟩
theorem i64_wf {z : Int} (h : (Lit.int .i64 z).wf = true) : IntKind.i64.wrap z = z := by
  have hb : -9223372036854775808 ≤ z ∧ z ≤ 9223372036854775807 := by simpa [Lit.wf, IntKind.min, IntKind.max, IntKind.signed, IntKind.bits] using h
  exact wrap_i64_of (by omega) (by omega)
theorem ops_open {H : Type} {enc : TypeId × Value → H} {W : World} {t e eb ek : TypeId} {f0 f1 f2 f3 f4 f5 h0 h1 : Field} {ao : Option Addr} {len cap : Nat} {d : DataW H} {p : List MemPlace} (ht : Try.prog.underlying t = some (.slice e)) (he : Try.prog.underlying e = some (.struct #[f0, f1, f2, f3, f4, f5]))
    (ce : Try.prog.cellsOf e = 7) (o0 : f0.offset = 0) (o1 : f1.offset = 1) (o2 : f2.offset = 2) (o3 : f3.offset = 3) (o4 : f4.offset = 4) (o5 : f5.offset = 5)
    (c0 : Try.prog.cellsOf f0.type = 1) (c1 : Try.prog.cellsOf f1.type = 1) (c2 : Try.prog.cellsOf f2.type = 1) (c3 : Try.prog.cellsOf f3.type = 1) (c4 : Try.prog.cellsOf f4.type = 1) (c5 : Try.prog.cellsOf f5.type = 2)
    (t0 : Try.prog.underlying f0.type = some (.int .i64)) (t1 : Try.prog.underlying f1.type = some (.int .i64)) (t2 : Try.prog.underlying f2.type = some (.int .i64)) (t3 : Try.prog.underlying f3.type = some (.int .i64)) (t4 : Try.prog.underlying f4.type = some (.slice eb)) (tb8 : Try.prog.underlying eb = some (.int .u8)) (cb : Try.prog.cellsOf eb = 1)
    (t5 : Try.prog.underlying f5.type = some (.struct #[h0, h1])) (p0 : h0.offset = 0) (p1 : h1.offset = 1) (d0 : Try.prog.cellsOf h0.type = 1) (d1 : Try.prog.cellsOf h1.type = 1) (u0 : Try.prog.underlying h0.type = some (.int .i64)) (u1 : Try.prog.underlying h1.type = some (.slice ek)) (uk : Try.prog.underlying ek = some (.int .i64)) (ck : Try.prog.cellsOf ek = 1)
    (h : DataW.Trod enc Try.prog W 0 (fun _ => true) true t (.slice ao len cap) d p) : ∃ ss : List OpR, ss.length = len ∧ Ops W (.slice ao len cap) ss ∧ (d = .nil ∧ len = 0 ∨ ∃ el sp, d = .slice el sp ∧ el.length = len) := by
  obtain ⟨fuel, hf⟩ := h
  rcases open_slice ht hf with ⟨hcs, hx⟩ | ⟨a, l, c, m, n, D, Pl, hcs, hb, hl, hm, hmm, hx, hel⟩
  · simp [Value.cells] at hcs
    obtain ⟨rfl, rfl, rfl⟩ := hcs
    obtain ⟨rfl, -⟩ := Prod.mk.inj hx
    exact ⟨[], rfl, ⟨none, 0, rfl, Nat.le_refl _, by simp [maxLen], fun _ => rfl, fun a e => (by cases e)⟩, .inl ⟨rfl, rfl⟩⟩
  · simp [Value.cells] at hcs
    obtain ⟨rfl, rfl, rfl⟩ := hcs
    obtain ⟨rfl, -⟩ := Prod.mk.inj hx
    have hmm' : m = cap := by simpa using hmm
    have each : ∀ i, i < m → ∃ q : OpR, OpAt W (a.add (i * 7)) q := by
      intro i hi
      obtain ⟨cs', g1, g2⟩ := hel i hi
      rw [ce] at g1
      obtain ⟨_, hlen, hcell⟩ := World.cells?_some g1
      obtain ⟨xs, k, hk, hxy, _, hxl, hff⟩ := DataW.trod_struct he g2
      obtain ⟨y0, y1, y2, y3, y4, y5, rfl⟩ := six_of (show xs.length = 6 from hxl)
      obtain ⟨v0, v1, v2, v3, v4, v5, v6, rfl⟩ := seven_of hlen
      have q0 := hff 0 f0 rfl
      have q1 := hff 1 f1 rfl
      have q2 := hff 2 f2 rfl
      have q3 := hff 3 f3 rfl
      have q4 := hff 4 f4 rfl
      have q5 := hff 5 f5 rfl
      simp [o0, o1, o2, o3, o4, o5, c0, c1, c2, c3, c4, c5] at q0 q1 q2 q3 q4 q5
      obtain ⟨z0, e0, -, -⟩ := DataW.trod_int t0 q0
      obtain ⟨z1, e1, -, -⟩ := DataW.trod_int t1 q1
      obtain ⟨z2, e2, -, w2⟩ := DataW.trod_int t2 q2
      obtain ⟨z3, e3, -, -⟩ := DataW.trod_int t3 q3
      obtain ⟨lb, hbs⟩ := bsV_open t4 tb8 cb q4
      obtain ⟨r0, r1, n2, -, -, s0, s1⟩ := trod_struct2 t5 q5
      simp [p0, p1, d0, d1] at s0 s1
      obtain ⟨z5, e5, -, -⟩ := DataW.trod_int u0 s0
      obtain ⟨lk, hks⟩ := isV_open u1 uk ck s1
      simp at e0 e1 e2 e3 e5
      subst e0 e1 e2 e3 e5
      have x0 := hcell 0 (by omega)
      have x1 := hcell 1 (by omega)
      have x2 := hcell 2 (by omega)
      have x3 := hcell 3 (by omega)
      have x4 := hcell 4 (by omega)
      have x5 := hcell 5 (by omega)
      have x6 := hcell 6 (by omega)
      refine ⟨⟨z0, z1, z2, z3, v4, lb, z5, v6, lk⟩, ?_, ?_, ?_, ?_, ?_, ?_, ?_, hbs, hks, i64_wf w2⟩
      · have : (a.add (i * 7)).add 0 = a.add (i * 7) := by rw [Go.Proofs.Ytmipmiaflompmaa.add_add]; rfl
        rw [this] at x0
        simpa using x0
      · simpa using x1
      · simpa using x2
      · simpa using x3
      · simpa using x4
      · simpa using x5
      · simpa using x6
    haveI : Inhabited OpR := ⟨⟨0, 0, 0, 0, .bool false, [], 0, .bool false, []⟩⟩
    obtain ⟨q, hq⟩ := choose_lt each
    refine ⟨(List.range len).map q, by simp, ⟨some a, cap, by simp, by simpa using hl, hm, fun e => (by cases e), fun a' e i s hs => ?_⟩, .inr ⟨_, _, rfl, by simp⟩⟩
    cases e
    simp only [List.getElem?_map] at hs
    obtain ⟨j, hj, rfl⟩ := Option.map_eq_some_iff.1 hs
    obtain ⟨hj2, rfl⟩ := List.getElem?_eq_some_iff.1 hj
    have hi : i < len := by simpa using hj2
    simp only [List.getElem_range]
    exact hq i (by omega)
end Go.Proofs.Ytmipmiaflompmaa

/-
  OWN WORK. A shape and an image that came in.
-/
namespace Go.Proofs.Ytmipmiaflompmaa
open Go.ChangeShapes Go.WideShapes Go.ChangeAt Go.RowKit Go.Deep
set_option linter.unusedVariables false

theorem two_of {α : Type} {l : List α} (h : l.length = 2) : ∃ a b, l = [a, b] := by
  match l, h with
  | [a, b], _ => exact ⟨a, b, rfl⟩
theorem three_of {α : Type} {l : List α} (h : l.length = 3) : ∃ a b c, l = [a, b, c] := by
  match l, h with
  | [a, b, c], _ => exact ⟨a, b, c, rfl⟩
theorem four_of {α : Type} {l : List α} (h : l.length = 4) : ∃ a b c d, l = [a, b, c, d] := by
  match l, h with
  | [a, b, c, d], _ => exact ⟨a, b, c, d, rfl⟩
theorem five_of {α : Type} {l : List α} (h : l.length = 5) : ∃ a b c d e, l = [a, b, c, d, e] := by
  match l, h with
  | [a, b, c, d, e], _ => exact ⟨a, b, c, d, e, rfl⟩
theorem shape_open {H : Type} {enc : TypeId × Value → H} {W : World} {t : TypeId} {f0 f1 f2 : Field} {cs : Array Value} {d : DataW H} {p : List MemPlace} (ht : Try.prog.underlying t = some (.struct #[f0, f1, f2])) (hsz : cs.size = 3)
    (o0 : f0.offset = 0) (o1 : f1.offset = 1) (o2 : f2.offset = 2) (c0 : Try.prog.cellsOf f0.type = 1) (c1 : Try.prog.cellsOf f1.type = 1) (c2 : Try.prog.cellsOf f2.type = 1)
    (t0 : Try.prog.underlying f0.type = some (.int .i64)) (t1 : Try.prog.underlying f1.type = some (.int .i64)) (t2 : Try.prog.underlying f2.type = some (.int .i64))
    (h : DataW.Trod enc Try.prog W 0 (fun _ => true) true t (.agg cs) d p) : ∃ a b c : Int, cs = #[.int .i64 a, .int .i64 b, .int .i64 c] := by
  obtain ⟨fuel, hf⟩ := h
  obtain ⟨xs, k, hk, hxy, _, hxl, hff⟩ := DataW.trod_struct ht hf
  obtain ⟨y0, y1, y2, rfl⟩ := three_of (show xs.length = 3 from hxl)
  obtain ⟨v0, v1, v2, hv⟩ := three_of (show cs.toList.length = 3 by simpa using hsz)
  have q0 := hff 0 f0 rfl
  have q1 := hff 1 f1 rfl
  have q2 := hff 2 f2 rfl
  simp [Value.cells, hv, o0, o1, o2, c0, c1, c2] at q0 q1 q2
  obtain ⟨z0, e0, -, -⟩ := DataW.trod_int t0 q0
  obtain ⟨z1, e1, -, -⟩ := DataW.trod_int t1 q1
  obtain ⟨z2, e2, -, -⟩ := DataW.trod_int t2 q2
  simp at e0 e1 e2
  subst e0 e1 e2
  exact ⟨z0, z1, z2, by rw [← Array.toArray_toList (xs := cs), hv]⟩
theorem image_open {H : Type} {enc : TypeId × Value → H} {W : World} {t e q : TypeId} {f0 f1 f2 f3 : Field} {cs : Array Value} {d : DataW H} {p : List MemPlace} (ht : Try.prog.underlying t = some (.struct #[f0, f1, f2, f3])) (hsz : cs.size = 5)
    (o0 : f0.offset = 0) (o1 : f1.offset = 1) (o2 : f2.offset = 2) (o3 : f3.offset = 3) (c0 : Try.prog.cellsOf f0.type = 1) (c1 : Try.prog.cellsOf f1.type = 1) (c2 : Try.prog.cellsOf f2.type = 1) (c3 : Try.prog.cellsOf f3.type = 2)
    (t0 : Try.prog.underlying f0.type = some (.slice e)) (te : Try.prog.underlying e = some (.slice q)) (tq : Try.prog.underlying q = some (.int .u8)) (ce : Try.prog.cellsOf e = 1) (cq : Try.prog.cellsOf q = 1)
    (t1 : Try.prog.underlying f1.type = some (.slice q)) (t2 : Try.prog.underlying f2.type = some (.slice q)) (t3 : Try.prog.underlying f3.type = some (.array 2 e))
    (h : DataW.Trod enc Try.prog W 0 (fun _ => true) true t (.agg cs) d p) : ∃ (V : IV) (m : IM), Value.agg cs = V.agg ∧ SeeIm W V m ∧ ∀ r, (d.weights Try.prog t).all (· ≤ r) = true → V.pv.length * Try.prog.bytesOf e ≤ r := by
  obtain ⟨fuel, hf⟩ := h
  obtain ⟨xs, k, hk, hxy, _, hxl, hff⟩ := DataW.trod_struct ht hf
  obtain ⟨y0, y1, y2, y3, rfl⟩ := four_of (show xs.length = 4 from hxl)
  obtain ⟨v0, v1, v2, v3, v4, hv⟩ := five_of (show cs.toList.length = 5 by simpa using hsz)
  have q0 := hff 0 f0 rfl
  have q1 := hff 1 f1 rfl
  have q2 := hff 2 f2 rfl
  have q3 := hff 3 f3 rfl
  simp [Value.cells, hv, o0, o1, o2, o3, c0, c1, c2, c3] at q0 q1 q2 q3
  obtain ⟨l1, b1⟩ := bsV_open t1 tq cq q1
  obtain ⟨l2, b2⟩ := bsV_open t2 tq cq q2
  obtain ⟨zs, n, -, -, -, hzl, ha⟩ := DataW.trod_array t3 q3
  obtain ⟨z0, z1, rfl⟩ := two_of hzl
  have a0 := ha 0 (by omega)
  have a1 := ha 1 (by omega)
  rw [ce] at a0 a1
  simp at a0 a1
  obtain ⟨l3, b3⟩ := bsV_open te tq cq a0
  obtain ⟨l4, b4⟩ := bsV_open te tq cq a1
  have hcs : cs = #[v0, v1, v2, v3, v4] := by rw [← Array.toArray_toList (xs := cs), hv]
  subst hcs
  rcases open_int_rows t0 te tq ce cq q0 with ⟨hc, -⟩ | ⟨a, len, cap, A, L, C, Z, hc, -, hl, hm, hx0, hr⟩
  · simp at hc
    subst hc
    exact ⟨⟨.slice none 0 0, [], v1, v2, v3, v4⟩, ⟨[], l1, l2, l3, l4⟩, rfl, ⟨⟨none, 0, rfl, Nat.le_refl _, by simp [maxLen], fun a e => (by cases e), fun _ => rfl⟩, rfl, fun i v l hv => (by simp at hv), b1, b2, b3, b4⟩, fun r _ => by simp⟩
  · simp at hc
    subst hc
    have hlr : ∀ r, r < cap → (bytesOfInts ((Z r).take (L r))).length = L r := fun r h => by
      obtain ⟨_, g1, _, g3, _⟩ := hr r h
      rw [bytes_length, List.length_take]; omega
    refine ⟨⟨.slice (some a) len cap, (List.range len).map fun r => .slice (A r) (L r) (C r), v1, v2, v3, v4⟩, ⟨(List.range len).map fun r => bytesOfInts ((Z r).take (L r)), l1, l2, l3, l4⟩, rfl, ⟨⟨some a, cap, by simp, by simpa using hl, hm, fun a' e i v hv => ?_, fun e => (by cases e)⟩, by simp, fun i v l hv hll => ?_, b1, b2, b3, b4⟩, fun r hw => ?_⟩
    · cases e
      simp only [List.getElem?_map] at hv
      obtain ⟨r, hr1, rfl⟩ := Option.map_eq_some_iff.1 hv
      obtain ⟨hr2, rfl⟩ := List.getElem?_eq_some_iff.1 hr1
      have hr3 : i < len := by simpa using hr2
      simp only [List.getElem_range]
      exact (hr i (by omega)).1
    · simp only [List.getElem?_map] at hv hll
      obtain ⟨r, hr1, rfl⟩ := Option.map_eq_some_iff.1 hv
      rw [hr1] at hll
      obtain ⟨hr2, rfl⟩ := List.getElem?_eq_some_iff.1 hr1
      have hr3 : i < len := by simpa using hr2
      simp at hll
      subst hll
      simp only [List.getElem_range]
      obtain ⟨k1, k2, k3, k4, k5, k6, k7⟩ := hr i (by omega)
      exact bs_cells k2 k3 k4 k6 (fun a' ha j hj => (k7 a' ha).2 j hj) k5
    · have hd : d = .agg [y0.1, y1.1, y2.1, y3.1] := by simpa using congrArg Prod.fst hxy
      have hmem : (len + (cap - len)) * Try.prog.bytesOf e ∈ d.weights Try.prog t := by
        rw [hd, hx0]
        simp [DataW.weights, ht, DataW.weightsEach, t0]
      have h9 := List.all_eq_true.1 hw _ hmem
      simp only [decide_eq_true_eq] at h9
      simp only [List.length_map, List.length_range]
      exact Nat.le_trans (Nat.mul_le_mul_right _ (by omega)) h9
end Go.Proofs.Ytmipmiaflompmaa

/-
  OWN WORK. The program's order of places: the pages, the pair, the masters; how much of a write is kept.
-/
namespace Go.Proofs.Ytmipmiaflompmaa
set_option linter.unusedVariables false

/-- the place j of the program's is the place qix of the plain disk -/
def qix (np j : Nat) : Nat := if j < np then j + 1 else if j = np then 0 else j
def pix (np k : Nat) : Nat := if k = 0 then np else if k ≤ np then k - 1 else k
theorem pix_lt {np k : Nat} (h : k < np + 3) : pix np k < np + 3 := by unfold pix; split; omega; split <;> omega
theorem qix_lt {np j : Nat} (h : j < np + 3) : qix np j < np + 3 := by unfold qix; split; omega; split <;> omega
theorem qix_pix {np k : Nat} (h : k < np + 3) : qix np (pix np k) = k := by
  unfold pix
  split
  · unfold qix; rw [if_neg (by omega), if_pos rfl]; omega
  · split
    · unfold qix; rw [if_pos (by omega)]; omega
    · unfold qix; rw [if_neg (by omega), if_neg (by omega)]
theorem pix_inj {np j k : Nat} (hj : j < np + 3) (h : qix np j = k) : pix np k = j := by
  unfold qix at h
  unfold pix
  split at h
  · rw [if_neg (by omega), if_pos (by omega)]; omega
  · split at h
    · rw [if_pos (by omega)]; omega
    · rw [if_neg (by omega), if_neg (by omega)]; omega
/-- a place is a master's just if its number is above the pair's -/
theorem pix_master {np k : Nat} (h : k < np + 3) : decide (np < pix np k) = isMaster np k := by
  unfold isMaster pix
  split
  · rename_i e; subst e; simp
  · split
    · rename_i a b; rw [decide_eq_false (by omega), decide_eq_false (by omega)]
    · rfl
def prows (np : Nat) (rows : List (List UInt8)) : List (List UInt8) := (List.range (np + 3)).map fun j => rows.getD (qix np j) []
theorem prows_length (np : Nat) (rows : List (List UInt8)) : (prows np rows).length = np + 3 := by simp [prows]
theorem prows_get {np j : Nat} (rows : List (List UInt8)) (h : j < np + 3) : (prows np rows)[j]? = some (rows.getD (qix np j) []) := by simp [prows, h]
theorem prows_at {np k : Nat} (rows : List (List UInt8)) (h : k < np + 3) : (prows np rows)[pix np k]? = some (rows.getD k []) := by rw [prows_get rows (pix_lt h), qix_pix h]
theorem prows_layR {np k n : Nat} {rows : List (List UInt8)} {b : List UInt8} (hl : rows.length = np + 3) (hk : k < np + 3) : prows np (layR rows k b n) = (prows np rows).set (pix np k) (over (rows.getD k []) 0 (b.take n)) := by
  apply List.ext_getElem?
  intro j
  by_cases hj : j < np + 3
  · rw [prows_get _ hj, List.getElem?_set]
    unfold layR
    by_cases e : pix np k = j
    · rw [if_pos e, if_pos (by rw [prows_length]; omega)]
      subst e
      rw [qix_pix hk, List.getD_eq_getElem?_getD, List.getElem?_set, if_pos rfl, if_pos (by omega)]
      rfl
    · rw [if_neg e, prows_get _ hj]
      rw [List.getD_eq_getElem?_getD, List.getElem?_set, if_neg (fun c => e (by have := pix_inj hj c.symm; exact this)), ← List.getD_eq_getElem?_getD]
  · rw [List.getElem?_eq_none (by rw [prows_length]; omega), List.getElem?_eq_none (by rw [List.length_set, prows_length]; omega)]
def sizeP (np ns j : Nat) : Nat := if j < np then pgB ns else if j = np then 16 + pgB ns else 40
theorem sizeP_qix (np ns j : Nat) : sizeK np ns (qix np j) = sizeP np ns j := by
  unfold sizeK qix sizeP
  split
  · rw [if_neg (by omega), if_pos (by omega)]
  · split
    · rw [if_pos rfl]
    · rw [if_neg (by omega), if_neg (by omega)]
theorem prows_size {np ns j : Nat} {rows : List (List UInt8)} {l : List UInt8} (hl : rows.length = np + 3) (hs : Sized np ns rows) (h : (prows np rows)[j]? = some l) : l.length = sizeP np ns j := by
  have hj : j < np + 3 := by have := (List.getElem?_eq_some_iff.1 h).1; rwa [prows_length] at this
  rw [prows_get _ hj] at h
  cases h
  rw [← sizeP_qix]
  have hq := qix_lt hj
  refine hs _ _ ?_
  rw [List.getD_eq_getElem?_getD, List.getElem?_eq_getElem (by omega)]
  rfl
theorem sizeP_pos (np ns j : Nat) : 0 < sizeP np ns j := by rw [← sizeP_qix]; exact sizeK_pos _ _ _
theorem sizeP_le (np ns j : Nat) (h : ns ≤ 8) : sizeP np ns j ≤ 168 := by rw [← sizeP_qix]; exact sizeK_le _ _ _ h
/-- an image, out of the program's order -/
theorem imOf_prows {np : Nat} {rows : List (List UInt8)} {log : List UInt8} (hl : rows.length = np + 3) : imOf np rows log = { ps := (prows np rows).take np, pair := (prows np rows).getD np [], log := log, m0 := (prows np rows).getD (np + 1) [], m1 := (prows np rows).getD (np + 2) [] } := by
  have g : ∀ j, j < np + 3 → (prows np rows).getD j [] = rows.getD (qix np j) [] := fun j hj => by rw [List.getD_eq_getElem?_getD, prows_get _ hj]; rfl
  unfold imOf
  rw [g np (by omega), g (np + 1) (by omega), g (np + 2) (by omega)]
  have e0 : qix np np = 0 := by unfold qix; simp
  have e1 : qix np (np + 1) = np + 1 := by unfold qix; rw [if_neg (by omega), if_neg (by omega)]
  have e2 : qix np (np + 2) = np + 2 := by unfold qix; rw [if_neg (by omega), if_neg (by omega)]
  rw [e0, e1, e2]
  congr 1
  apply List.ext_getElem?
  intro j
  rw [List.getElem?_take, List.getElem?_take, List.getElem?_drop]
  by_cases hj : j < np
  · rw [if_pos hj, if_pos hj, prows_get _ (by omega)]
    have : qix np j = 1 + j := by unfold qix; rw [if_pos hj]; omega
    rw [this, List.getD_eq_getElem?_getD, List.getElem?_eq_getElem (by omega)]
    rfl
  · rw [if_neg hj, if_neg hj]
theorem prows_parts {np : Nat} {ps : List (List UInt8)} {pair m0 m1 : List UInt8} (h : ps.length = np) : prows np (pair :: (ps ++ [m0, m1])) = ps ++ [pair, m0, m1] := by
  apply List.ext_getElem?
  intro j
  by_cases hj : j < np + 3
  · rw [prows_get _ hj, List.getD_eq_getElem?_getD]
    unfold qix
    by_cases c : j < np
    · rw [if_pos c, List.getElem?_cons_succ, List.getElem?_append_left (by omega), List.getElem?_append_left (by omega), List.getElem?_eq_getElem (by omega)]
      rfl
    · rw [if_neg c]
      rcases (by omega : j = np ∨ j = np + 1 ∨ j = np + 2) with e | e | e
      · rw [if_pos e, e, List.getElem?_append_right (by omega), h]; simp
      · rw [if_neg (by omega), e, List.getElem?_cons_succ, List.getElem?_append_right (by omega), List.getElem?_append_right (by omega), h]; simp
      · rw [if_neg (by omega), e, show np + 2 = (np + 1) + 1 by omega, List.getElem?_cons_succ, List.getElem?_append_right (by omega), List.getElem?_append_right (by omega), h, show np + 1 + 1 - np = 2 by omega]; simp
  · rw [List.getElem?_eq_none (by rw [prows_length]; omega), List.getElem?_eq_none (by simp; omega)]
/-- how many of a write's n bytes are kept -/
def keepN (k : Int) (n : Nat) : Nat := if k ≤ 0 then 0 else if k = 1 then n else restN (k - 1) (n + 1)
theorem keepN_le (k : Int) (n : Nat) : keepN k n ≤ n := by
  unfold keepN
  split
  · omega
  · split
    · omega
    · exact restN_lt _ _
theorem layR_none {rows : List (List UInt8)} {k : Nat} {b : List UInt8} : layR rows k b 0 = rows := by
  unfold layR
  rw [List.take_zero]
  unfold over
  simp
  apply List.ext_getElem?
  intro j
  rw [List.getElem?_set]
  by_cases e : k = j
  · subst e
    rw [if_pos rfl]
    split
    · rename_i h; rw [List.getElem?_eq_getElem h]; rfl
    · rename_i h; rw [List.getElem?_eq_none (by omega)]
  · rw [if_neg e]
theorem crashLay_keep (rows : List (List UInt8)) (x : Nat × List UInt8) (k : Int) : crashLay rows x k = layR rows x.1 x.2 (keepN k x.2.length) := by
  unfold crashLay keepN
  by_cases h1 : k = 1
  · subst h1
    rw [if_pos rfl, if_neg (by omega), if_pos rfl]
  · rw [if_neg h1]
    by_cases h2 : 2 ≤ k
    · rw [if_pos h2, if_neg (by omega), if_neg h1]
    · rw [if_neg h2, if_pos (by omega), layR_none]
/-- the places of a sync: those from the one number up to the other -/
theorem filter_snoc {α : Type} (p : α → Bool) (xs : List α) (i : Nat) (x : α) (h : xs[i]? = some x) : (xs.take (i + 1)).filter p = (xs.take i).filter p ++ if p x = true then [x] else [] := by
  obtain ⟨hi, he⟩ := List.getElem?_eq_some_iff.1 h
  rw [List.take_add_one, h, List.filter_append]
  cases hp : p x <;> simp [hp]
end Go.Proofs.Ytmipmiaflompmaa

/-
  OWN WORK. The program's disk: its small functions.
-/
namespace Go.Proofs.Ytmipmiaflompmaa
open Go.RowKit
set_option linter.unusedVariables false

theorem prest_any (n : Int) (m : Nat) (w : World) (hm : 0 < m) (hm2 : m ≤ 9223372036854775807) :
    Calls Try.prog 54 #[.int .i64 n, .int .i64 (m : Int)] w fun e w' => e = .returned (.int .i64 (restN n m : Int)) ∧ w' = w := by
  have h0 : ¬ (m : Int) = 0 := by omega
  have hp : (0 : Int) < (m : Int) := by omega
  have b1 := Int.tmod_lt_of_pos n hp
  have b2 := Int.lt_tmod_of_pos n hp
  have w1 : IntKind.i64.wrap (n.tmod (m : Int)) = n.tmod (m : Int) := wrap_i64_of (by omega) (by omega)
  rw [restN_int n m hm]
  by_cases c : n.tmod (m : Int) < 0
  · have w2 : IntKind.i64.wrap (n.tmod (m : Int) + (m : Int)) = n % (m : Int) := by rw [← tmod_neg hp c]; exact wrap_i64_of (by omega) (by omega)
    clear b1 b2 hm2
    go_enter Try.func54, Try.ntmps54
    go_wp2
    go_ret
    exact ⟨rfl, rfl⟩
  · have e := tmod_pos (n := n) hp (by omega)
    rw [← e]
    clear b1 b2 hm2 e
    go_enter Try.func54, Try.ntmps54
    go_wp2
    go_ret
    exact ⟨rfl, rfl⟩
theorem pkept_any (k : Int) (n : Nat) (w : World) (hn : n ≤ 1000) (hk : IntKind.i64.wrap k = k) :
    Calls Try.prog 93 #[.int .i64 k, .int .i64 (n : Int)] w fun e w' => e = .returned (.int .i64 (keepN k n : Int)) ∧ w' = w := by
  by_cases h1 : k ≤ 0
  · rw [show keepN k n = 0 by unfold keepN; rw [if_pos h1]]
    clear hk
    go_enter Try.func93, Try.ntmps93
    go_wp2
    go_ret
    exact ⟨rfl, rfl⟩
  · by_cases h2 : k = 1
    · subst h2
      rw [show keepN 1 n = n by unfold keepN; rw [if_neg (by omega), if_pos rfl]]
      clear hk hn h1
      go_enter Try.func93, Try.ntmps93
      go_wp2
      go_ret
      exact ⟨rfl, rfl⟩
    · rw [show keepN k n = restN (k - 1) (n + 1) by unfold keepN; rw [if_neg h1, if_neg h2]]
      have hr := wrap_i64_range hk
      have w1 : IntKind.i64.wrap (k - 1) = k - 1 := wrap_i64_of (by omega) (by omega)
      have w2 : IntKind.i64.wrap ((n : Int) + 1) = ((n + 1 : Nat) : Int) := by rw [wrap_i64_of (by omega) (by omega)]; omega
      have hc := prest_any (k - 1) (n + 1) w (by omega) (by omega)
      generalize restN (k - 1) (n + 1) = r at *
      clear hr hn hk
      go_enter Try.func93, Try.ntmps93
      go_wp2_with fail
      refine hc.mono ?_
      rintro e w2 ⟨rfl, rfl⟩
      clear hc
      go_wp2
      go_ret
      exact ⟨rfl, rfl⟩
theorem sameLen_any (u v : Value) (m n : Nat) (w : World) (hu : ∃ p c, u = .slice p m c) (hv : ∃ p c, v = .slice p n c) :
    Calls Try.prog 70 #[u, v] w fun e w' => e = .returned (.bool (decide (m = n))) ∧ w' = w := by
  obtain ⟨p, c, rfl⟩ := hu
  obtain ⟨q, d, rfl⟩ := hv
  by_cases h : m = n
  · subst h
    rw [decide_eq_true rfl]
    go_enter Try.func70, Try.ntmps70
    go_wp2
    go_ret
    exact ⟨by simp, rfl⟩
  · rw [decide_eq_false h]
    have h' : ¬ (m : Int) = (n : Int) := by omega
    go_enter Try.func70, Try.ntmps70
    go_wp2
    go_ret
    exact ⟨by simpa using h', rfl⟩
theorem within_any (n a b : Int) (w : World) :
    Calls Try.prog 76 #[.int .i64 n, .int .i64 a, .int .i64 b] w fun e w' => e = .returned (.bool (decide (a ≤ n) && decide (n ≤ b))) ∧ w' = w := by
  by_cases h1 : a ≤ n
  · by_cases h2 : n ≤ b
    · rw [decide_eq_true h1, decide_eq_true h2]
      go_enter Try.func76, Try.ntmps76
      go_wp2
      go_ret
      exact ⟨by simp, rfl⟩
    · rw [decide_eq_true h1, decide_eq_false h2]
      go_enter Try.func76, Try.ntmps76
      go_wp2
      go_ret
      exact ⟨by simp, rfl⟩
  · rw [decide_eq_false h1]
    go_enter Try.func76, Try.ntmps76
    go_wp2
    go_ret
    exact ⟨by simp, rfl⟩
theorem mayBe_any (a b c : Int) (w : World) :
    Calls Try.prog 44 #[.agg #[.int .i64 a, .int .i64 b, .int .i64 c]] w fun e w' => e = .returned (.bool (shapeOk a b c)) ∧ Kept [] w w' := by
  have k := (Kept.refl [] w).alloc (.cells #[.int .i64 a, .int .i64 b, .int .i64 c] 23)
  obtain ⟨x, hx⟩ : ∃ x, x = (decide (1 ≤ a) && decide (a ≤ 16)) := ⟨_, rfl⟩
  obtain ⟨y, hy⟩ : ∃ y, y = (decide (1 ≤ b) && decide (b ≤ 8)) := ⟨_, rfl⟩
  obtain ⟨z, hz⟩ : ∃ z, z = (decide (1024 ≤ c) && decide (c ≤ 65536)) := ⟨_, rfl⟩
  have hs : shapeOk a b c = (x && (y && z)) := by rw [hx, hy, hz]; unfold shapeOk; simp [Bool.and_assoc]
  rw [hs]
  have hc1 := within_any a 1 16 (w.alloc (.cells #[.int .i64 a, .int .i64 b, .int .i64 c] 23))
  have hc2 := within_any b 1 8 (w.alloc (.cells #[.int .i64 a, .int .i64 b, .int .i64 c] 23))
  have hc3 := within_any c 1024 65536 (w.alloc (.cells #[.int .i64 a, .int .i64 b, .int .i64 c] 23))
  rw [← hx] at hc1
  rw [← hy] at hc2
  rw [← hz] at hc3
  clear hx hy hz hs
  go_enter Try.func44, Try.ntmps44
  go_wp2_with fail
  refine hc1.mono ?_
  rintro e w1 ⟨rfl, rfl⟩
  cases x with
  | false =>
    clear hc1 hc2 hc3
    go_wp2
    go_ret
    exact ⟨by simp, k⟩
  | true =>
    go_wp2_with fail
    refine hc2.mono ?_
    rintro e w1 ⟨rfl, rfl⟩
    cases y with
    | false =>
      clear hc1 hc2 hc3
      go_wp2
      go_ret
      exact ⟨by simp, k⟩
    | true =>
      go_wp2_with fail
      refine hc3.mono ?_
      rintro e w1 ⟨rfl, rfl⟩
      clear hc1 hc2 hc3
      go_wp2
      go_ret
      exact ⟨by simp, k⟩
theorem pown_any (v : Value) (l : List UInt8) (w : World) (hv : Bs w v l) (hl : l.length ≤ 140737488355328) :
    Calls Try.prog 60 #[v] w fun e w' => ∃ u, e = .returned u ∧ w'.ownsRow w.heap.size 5 1 u l.length (u8s l) ∧ Kept [] w w' := by
  obtain ⟨p, c, rfl, h1, h2, h3, h4⟩ := id hv
  go_enter Try.func60, Try.ntmps60
  have hB : Bs (w.alloc (.cells #[] 5)) (.slice p l.length c) l := hv.kept ((Kept.refl [] w).alloc _)
  go_wp2_with (at_builtin; refine wpList_append_bs rfl _ _ 33 rfl w.heap.size 5 Try.underlying33 (by kernel_rfl) _ _ _ rfl (World.ownsRow_made w #[] 0 (Nat.le_refl _) (by decide) rfl) _ l rfl hB (by omega) (by simp) ?_; intro v' w1 hown hg hat)
  go_ret
  exact ⟨_, rfl, by simpa using hown, ((Kept.refl [] w).alloc _).grown hg fun k hk => .inr (own_ge (World.ownsRow_made (base := w.heap.size) (e := 5) (size := 1) w #[] 0 (Nat.le_refl _) (by decide) rfl) k hk)⟩
end Go.Proofs.Ytmipmiaflompmaa

/-
  OWN WORK. The program's disk: a loose write is a function that lays its bytes over a place of those that it is handed.
-/
namespace Go.Proofs.Ytmipmiaflompmaa
open Go.RowKit
set_option linter.unusedVariables false

/-- 'copy(out[off:..], b)' runs: out a row of one's own -/
theorem run_copy_part {P : Program} (w : World) (t ty e : TypeId) (base : Nat) (hu : P.underlying t = some (.slice e)) (hsz : (P.info? e).map (·.size) = some 1)
    (v : Value) (n : Nat) (L : List UInt8) (hown : w.ownsRow base e 1 v n (u8s L)) (off : Nat) (dp : Option Addr) (dLen dCap : Nat)
    (hdp : 0 < dLen → ∃ g, v.ownBlock = some g ∧ dp = some ⟨g, off, none⟩) (sv : Value) (r : List UInt8) (hb : Bs w sv r) (hr : r.length ≤ dLen) (hfit : off + dLen ≤ n) :
    ∃ w', (Builtin.copy_ #[t, t] ty #[.slice dp dLen dCap, sv]).run P w = .ok (goInt r.length) w' ∧ w'.ownsRow base e 1 v n (u8s (over L off r)) ∧ w.grownBy w' v.ownBlock := by
  obtain ⟨p, c, rfl, h1, h2, h3, h4⟩ := hb
  by_cases h0 : r.length = 0
  · obtain rfl : r = [] := List.eq_nil_of_length_eq_zero h0
    refine ⟨w, run_copy_none w t t ty e dp p dLen dCap 0 c hu hsz (by simp), by rw [over_nil]; exact hown, World.grownBy.refl _ _⟩
  · obtain ⟨g, hgv, rfl⟩ := hdp (by omega)
    cases p with
    | none => have := h3 rfl; omega
    | some ad =>
      have hn : n = L.length := by have := hown.1; rw [u8s_length] at this; omega
      subst hn
      rcases hown.2 with ⟨rfl, hz⟩ | ⟨g', cap, cur, rfl, hbg, hg, hnc, hcm, hcs, htk⟩
      · simp [Value.ownBlock] at hgv
      · have e1 : g' = g := by simpa [Value.ownBlock] using hgv
        subst e1
        have hrun := run_copy_row (P := P) w t t ty e g' off dLen dCap ad r.length c cur e (u8s r) hu hsz hg (by rw [u8s_length]; simp [Nat.min_def]; omega) (fun j u hj => by obtain ⟨y, hy, rfl⟩ := u8s_at hj; exact h4 ad rfl j y hy) (by rw [u8s_length]; omega) (u8s_one r)
        rw [u8s_length, List.append_assoc] at hrun
        have hgl : g' < w.heap.size := (Array.getElem?_eq_some_iff.1 hg).1
        refine ⟨_, hrun, ⟨by rw [u8s_length, over_length _ _ _ (by omega)]; omega, .inr ⟨g', cap, _, rfl, hbg, setRow_heap w g' cur _ e (0, 0) hg, hnc, hcm, ?_, ?_⟩⟩, ⟨rfl, rfl, rfl, by simp [World.setRow], fun k hk hne => setRow_other w g' k _ (by intro e2; subst e2; exact hne rfl)⟩⟩
        · simp [u8s_length]; omega
        · simp only [Nat.mul_one] at htk ⊢
          have hT : cur.toList.take L.length = u8s L := htk
          have hsz' : cur.toList.length = cap := by simp [hcs]
          apply List.ext_getElem?
          intro j
          have hcur : ∀ j, j < L.length → cur.toList[j]? = (u8s L)[j]? := fun j hj => by rw [← hT, List.getElem?_take, if_pos hj]
          by_cases hj : j < L.length
          · rw [List.getElem?_take, if_pos hj]
            have e3 : (u8s (over L off r))[j]? = if off ≤ j ∧ j < off + r.length then (u8s r)[j - off]? else (u8s L)[j]? := by
              simp only [u8s, List.getElem?_map, over_at L off r (by omega) j]
              split <;> rfl
            rw [e3]
            by_cases c1 : j < off
            · rw [List.getElem?_append_left (by simp; omega), List.getElem?_take, if_pos c1, if_neg (by omega), hcur j hj]
            · rw [List.getElem?_append_right (by simp; omega)]
              have e4 : (cur.toList.take off).length = off := by simp; omega
              rw [e4]
              by_cases c2 : j < off + r.length
              · rw [List.getElem?_append_left (by rw [u8s_length]; omega), if_pos ⟨by omega, c2⟩]
              · rw [List.getElem?_append_right (by rw [u8s_length]; omega), List.getElem?_drop, if_neg (by omega), u8s_length, ← hcur j hj]
                congr 1; omega
          · rw [List.getElem?_eq_none (by simp; omega), List.getElem?_eq_none (by rw [u8s_length, over_length _ _ _ (by omega)]; omega)]
/-- the same at a step of a region that draws its order -/
theorem step_copy_part {P : Program} {w : World} {ops : Array Oper} {o : Oper} {a : Act} {K : Act → World → Prop} {Q : Exit → Act → World → Prop} {E : Prop} (hgd : o.guard = none) (d s : Operand) (t : TypeId)
    (ho : o.op = .call { callee := .builtin .copy, args := #[d, s], argTypes := #[t, t] }) (base : Nat) (e : TypeId) (hu : P.underlying t = some (.slice e)) (hsz : (P.info? e).map (·.size) = some 1)
    (v : Value) (n : Nat) (L : List UInt8) (hown : w.ownsRow base e 1 v n (u8s L)) (off : Nat) (dp : Option Addr) (dLen dCap : Nat) (hd : a.eval d = .slice dp dLen dCap)
    (hdp : 0 < dLen → ∃ g, v.ownBlock = some g ∧ dp = some ⟨g, off, none⟩) (sv : Value) (r : List UInt8) (hx : a.eval s = sv) (hb : Bs w sv r) (hr : r.length ≤ dLen) (hfit : off + dLen ≤ n)
    (h : ∀ w', w'.ownsRow base e 1 v n (u8s (over L off r)) → w.grownBy w' v.ownBlock → K (a.put o.dst (goInt r.length)) w') :
    if Region.wanted o (yielded ops a.tmps) = true then Oper.wp P o a w K Q else E := by
  have hw : Region.wanted o (yielded ops a.tmps) = true := by simp [Region.wanted, hgd]
  rw [if_pos hw]
  obtain ⟨w', hrun, h1, h2⟩ := run_copy_part w t o.type e base hu hsz v n L hown off dp dLen dCap hdp sv r hb hr hfit
  unfold Oper.wp
  simp [execOp, ho, resolve, invoke, builtin, hd, hx, hrun, Result.andThen]
  exact h w' h1 h2
theorem step_copy_nothing {P : Program} {w : World} {ops : Array Oper} {o : Oper} {a : Act} {K : Act → World → Prop} {Q : Exit → Act → World → Prop} {E : Prop} (hgd : o.guard = none) (d s : Operand) (t : TypeId)
    (ho : o.op = .call { callee := .builtin .copy, args := #[d, s], argTypes := #[t, t] }) (e : TypeId) (hu : P.underlying t = some (.slice e)) (hsz : (P.info? e).map (·.size) = some 1)
    (dCap sLen sCap : Nat) (dp sp : Option Addr) (hd : a.eval d = .slice dp 0 dCap) (hx : a.eval s = .slice sp sLen sCap) (h : K (a.put o.dst (goInt 0)) w) :
    if Region.wanted o (yielded ops a.tmps) = true then Oper.wp P o a w K Q else E := by
  have hw : Region.wanted o (yielded ops a.tmps) = true := by simp [Region.wanted, hgd]
  rw [if_pos hw]
  have hrun := run_copy_none (P := P) w t t o.type e dp sp 0 dCap sLen sCap hu hsz (by simp)
  unfold Oper.wp
  simp [execOp, ho, resolve, invoke, builtin, hd, hx, hrun, Result.andThen]
  exact h

theorem own_at8 {w : World} {base e n : Nat} {v : Value} {xs : List Value} (h : w.ownsRow base e 1 v n xs) (hn : 0 < n) : ∃ g c, v = .slice (some ⟨g, 0, none⟩) n c ∧ n ≤ c ∧ c ≤ maxLen := by
  rcases h.2 with ⟨-, e0⟩ | ⟨g, cap, cur, rfl, -, h2, h3, h4, -⟩
  · omega
  · exact ⟨g, cap, rfl, h3, h4⟩
/-- the cells that a loose write has: which place it is of, its bytes -/
structure Cap (w : World) (gp gb : Nat) (j : Nat) (vb : Value) (b : List UInt8) : Prop where
  place : w.cell? ⟨gp, 0, none⟩ = some (.int .i64 (j : Int))
  slice : w.cell? ⟨gb, 0, none⟩ = some vb
  bytes : Bs w vb b
def theWrite (gp gb : Nat) : Value := .func (.func 92) #[] #[.pointer (some ⟨gp, 0, none⟩), .pointer (some ⟨gb, 0, none⟩)]
set_option maxHeartbeats 1600000 in
theorem write1_lays (gp gb j : Nat) (vb : Value) (b : List UInt8) (gP n cP base : Nat) (v : Value) (l : List UInt8) (keep : Int) (w : World) (hc : Cap w gp gb j vb b) (hj : j < n) (hn : n ≤ 1000) (hv : w.cell? ⟨gP, j, none⟩ = some v)
    (ho : w.ownsRow base 5 1 v l.length (u8s l)) (hl : b.length = l.length) (hpos : 0 < l.length) (hb : b.length ≤ 1000) (hk : IntKind.i64.wrap keep = keep) (hfar : ∀ x, v.ownBlock = some x → x ≠ gp ∧ x ≠ gP ∧ x ≠ gb) :
    Calls Try.prog 92 #[.slice (some ⟨gP, 0, none⟩) n cP, .int .i64 keep, .pointer (some ⟨gp, 0, none⟩), .pointer (some ⟨gb, 0, none⟩)] w fun e w' => e = .returned (.bool true) ∧ w'.ownsRow base 5 1 v l.length (u8s (over l 0 (b.take (keepN keep b.length)))) ∧ Kept v.ownBlock.toList w w' := by
  obtain ⟨h1, h2, h3⟩ := hc
  obtain ⟨p, c, rfl, h4, h5, -⟩ := id h3
  obtain ⟨g, cv, rfl, -⟩ := own_at8 ho hpos
  obtain ⟨f1, f2, f3⟩ := hfar g rfl
  have hkc := fun w' => pkept_any keep b.length w' hb hk
  have hle := keepN_le keep b.length
  generalize keepN keep b.length = m at *
  have hj0 : (0 : Int) ≤ (j : Int) := by omega
  have hjn : (j : Int) < (n : Int) := by omega
  have hm0 : (0 : Int) ≤ (m : Int) := by omega
  have hmc : (m : Int) ≤ (c : Int) := by omega
  obtain ⟨-, hcut, -, hcb, -⟩ := h3.cuts (P := Try.prog) 33 5 Try.underlying33 (by kernel_rfl) m hle
  have hneq : ∀ (w : World) (a : Option Addr) (n c : Nat), (binOp .neq 33 (.slice a n c) (.slice none 0 0)).run Try.prog w = .ok (.bool (!a.isNone)) w := fun w a n c => run_neq_slice_nil w _ _ a n c Try.underlying33
  have ho' := own_of_kept ho (Kept.refl [] w).drew (by simp)
  have hcb' := hcb.kept (Kept.refl [] w).drew
  have HO : Hid (w.drew.ownsRow base 5 1 (.slice (some ⟨g, 0, none⟩) l.length cv) l.length (u8s l)) := ho'
  have HL : Hid (b.length = l.length ∧ m ≤ b.length) := ⟨hl, hle⟩
  clear hk hb hn h5 h4 hfar ho h3 hcb hl hpos hle ho' hj
  go_enter Try.func92, Try.ntmps92
  go_upto_region 1 with fail
  go_region_held3 (fun w' => w'.cell? ⟨gp, 0, none⟩ = some (.int .i64 (j : Int)) ∧ w'.cell? ⟨gb, 0, none⟩ = some (.slice p b.length c) ∧ w'.cell? ⟨gP, j, none⟩ = some (.slice (some ⟨g, 0, none⟩) l.length cv))
    (first | (exact ⟨h1, h2, hv⟩) | (exact ⟨k6.cell h1 (by simpa using Ne.symm f1), k6.cell h2 (by simpa using Ne.symm f3), k6.cell hv (by simpa using Ne.symm f2)⟩) | go_keep)
    (first
      | (go_at_call 93; refine (hkc _).mono ?_; rintro e w5 ⟨rfl, rfl⟩)
      | (refine step_copy_part (by rfl) (.tmp 10) (.tmp 16) 33 (by rfl) base 5 Try.underlying33 (by kernel_rfl) (.slice (some ⟨g, 0, none⟩) l.length cv) l.length l HO.out 0 (some ⟨g, 0, none⟩) l.length cv (by rfl) (fun _ => ⟨g, rfl, rfl⟩) (.slice p m c) (b.take m) (by rfl) hcb' (by have := HL.out.1; have := HL.out.2; rw [List.length_take]; omega) (by omega) ?_; intro w6 o6 g6; have k6 : Kept [g] w w6 := (Kept.refl [g] w).drew.trans (Kept.ofGrown (S := [g]) g6 (by intro k e _; simp [Value.ownBlock] at e; simp [e])) (fun x hx => .inl hx))
      | fail)
  have q1 := k6.cell h1 (by simpa using Ne.symm f1)
  have q3 := k6.cell hv (by simpa using Ne.symm f2)
  clear h1 h2 hv hkc hcut hcb' HO
  go_wp2
  go_ret
  exact ⟨by simp, o6, k6⟩
set_option maxHeartbeats 1600000 in
theorem write1_none (gp gb j : Nat) (vb : Value) (b : List UInt8) (gP n cP : Nat) (keep : Int) (w : World) (hc : Cap w gp gb j vb b) (hj : j < n) (hv : w.cell? ⟨gP, j, none⟩ = some (.slice none 0 0)) (hb : b.length ≤ 1000) (hk : IntKind.i64.wrap keep = keep) :
    Calls Try.prog 92 #[.slice (some ⟨gP, 0, none⟩) n cP, .int .i64 keep, .pointer (some ⟨gp, 0, none⟩), .pointer (some ⟨gb, 0, none⟩)] w fun e w' => e = .returned (.bool false) ∧ Kept [] w w' := by
  obtain ⟨h1, h2, h3⟩ := hc
  obtain ⟨p, c, rfl, h4, h5, -⟩ := id h3
  have hkc := fun w' => pkept_any keep b.length w' hb hk
  have hle := keepN_le keep b.length
  generalize keepN keep b.length = m at *
  have hj0 : (0 : Int) ≤ (j : Int) := by omega
  have hjn : (j : Int) < (n : Int) := by omega
  have hm0 : (0 : Int) ≤ (m : Int) := by omega
  have hmc : (m : Int) ≤ (c : Int) := by omega
  obtain ⟨-, hcut, -, hcb, -⟩ := h3.cuts (P := Try.prog) 33 5 Try.underlying33 (by kernel_rfl) m hle
  have hneq : ∀ (w : World) (a : Option Addr) (n c : Nat), (binOp .neq 33 (.slice a n c) (.slice none 0 0)).run Try.prog w = .ok (.bool (!a.isNone)) w := fun w a n c => run_neq_slice_nil w _ _ a n c Try.underlying33
  have kd : Kept [] w w.drew := (Kept.refl [] w).drew
  clear hk hb h5 h4 h3 hcb hle hj
  go_enter Try.func92, Try.ntmps92
  go_upto_region 1 with fail
  go_region_held3 (fun w' => w'.cell? ⟨gp, 0, none⟩ = some (.int .i64 (j : Int)) ∧ w'.cell? ⟨gb, 0, none⟩ = some (.slice p b.length c) ∧ w'.cell? ⟨gP, j, none⟩ = some (.slice none 0 0))
    (first | (exact ⟨h1, h2, hv⟩) | go_keep)
    (first
      | (go_at_call 93; refine (hkc _).mono ?_; rintro e w5 ⟨rfl, rfl⟩)
      | (refine step_copy_nothing (by rfl) (.tmp 10) (.tmp 16) 33 (by rfl) 5 Try.underlying33 (by kernel_rfl) 0 m c none p (by rfl) (by rfl) ?_)
      | fail)
  clear hkc hcut
  go_wp2
  go_ret
  exact ⟨by simp, kd⟩
theorem writeOf_any (j : Nat) (vb : Value) (b : List UInt8) (w : World) (hb : Bs w vb b) :
    Calls Try.prog 89 #[.int .i64 (j : Int), vb] w fun e w' => e = .returned (theWrite w.heap.size (w.heap.size + 1)) ∧ Cap w' w.heap.size (w.heap.size + 1) j vb b ∧ Kept [] w w' ∧ w'.heap.size = w.heap.size + 2 := by
  obtain ⟨p, c, rfl, -⟩ := id hb
  have hmf : ∀ (fn : Fn) (first cap : Array Value) (w : World), (Instr.makeFunc fn first cap).run Try.prog w = .ok (.func fn first cap) w := fun _ _ _ _ => rfl
  obtain ⟨w2, hw2⟩ : ∃ w2, w2 = (w.alloc (.cells #[.int .i64 (j : Int)] 3)).alloc (.cells #[.slice p b.length c] 33) := ⟨_, rfl⟩
  have k2 : Kept [] w w2 := by rw [hw2]; exact ((Kept.refl [] w).alloc _).alloc _
  have b1 : Blk w2 w.heap.size 3 [.int .i64 (j : Int)] := by rw [hw2]; exact (Blk.new w _ _).kept ((Kept.refl [] _).alloc _) (by simp)
  have b2 : Blk w2 (w.heap.size + 1) 33 [.slice p b.length c] := by
    rw [hw2]
    have := Blk.new (w.alloc (.cells #[.int .i64 (j : Int)] 3)) 33 [.slice p b.length c]
    rwa [World.size_alloc] at this
  have s2 : w2.heap.size = w.heap.size + 2 := by rw [hw2, World.size_alloc, World.size_alloc]
  have fin : Cap w2 w.heap.size (w.heap.size + 1) j (.slice p b.length c) b := ⟨b1.cell (j := 0) rfl, b2.cell (j := 0) rfl, hb.kept k2⟩
  have FIN : Hid (Cap w2 w.heap.size (w.heap.size + 1) j (.slice p b.length c) b ∧ Kept [] w w2 ∧ w2.heap.size = w.heap.size + 2) := ⟨fin, k2, s2⟩
  have HW : Hid (w2 = (w.alloc (.cells #[.int .i64 (j : Int)] 3)).alloc (.cells #[.slice p b.length c] 33)) := hw2
  clear hb b1 b2 fin k2 s2 hw2
  go_enter Try.func89, Try.ntmps89
  go_wp2
  go_ret
  rw [← HW.out]
  exact ⟨rfl, FIN.out⟩
end Go.Proofs.Ytmipmiaflompmaa

/-
  OWN WORK. The program's disk: places of one's own; copied.
-/
namespace Go.Proofs.Ytmipmiaflompmaa
open Go.RowKit
set_option linter.unusedVariables false

/-- 'make([][]byte, n)' -/
theorem run_make_sl {P : Program} (w : World) (t e : TypeId) (hu : P.underlying t = some (.slice e)) (hinf : (P.info? e).map (fun i => (i.zero, i.size, i.bytes)) = some (some (.slice none 0 0), 1, 24))
    (n : Nat) (hc : n ≤ 1000) :
    (Instr.makeSlice t (.int .i64 (n : Int)) (.int .i64 (n : Int))).run P w = .ok (.slice (some ⟨w.heap.size, 0, none⟩) n n) (w.alloc (.cells (madeCells #[.slice none 0 0] n) e)) := by
  obtain ⟨i, hi, hz, hsz, hby⟩ := info_parts hinf
  have h := run_make (P := P) w t e i (.slice none 0 0) hu hi hz .i64 .i64 (n : Int) (n : Int) (by omega) (by omega) (by rw [hby]; omega) (by omega)
  rw [h, hsz]
  simp [Value.cells]
def nils (n : Nat) : List Value := List.replicate n (.slice none 0 0)
theorem nils_length (n : Nat) : (nils n).length = n := by simp [nils]
theorem own_made_sl (w : World) (e base n : Nat) (hb : base ≤ w.heap.size) (hc : n ≤ maxLen) :
    (w.alloc (.cells (madeCells #[.slice none 0 0] n) e)).ownsRow base e 1 (.slice (some ⟨w.heap.size, 0, none⟩) n n) n (nils n) := by
  refine ⟨by simp [nils], .inr ⟨w.heap.size, n, _, rfl, hb, heap_alloc_new w _, Nat.le_refl _, hc, by simp [size_madeCells], ?_⟩⟩
  rw [toList_madeCells_one]
  simp [nils]
theorem own_set1 {w : World} {base e b n cap : Nat} {xs : List Value} (ow : w.ownsRow base e 1 (.slice (some ⟨b, 0, none⟩) n cap) n xs) (k : Nat) (hk : k < n) (u : Value) :
    (w.setCell ⟨b, k, none⟩ u).ownsRow base e 1 (.slice (some ⟨b, 0, none⟩) n cap) n (xs.set k u) ∧ Kept [b] w (w.setCell ⟨b, k, none⟩ u) := by
  refine ⟨⟨by rw [List.length_set]; exact ow.1, ?_⟩, (Kept.refl [b] w).setCell (.inl (by simp)) u⟩
  rcases ow.2 with ⟨e1, -⟩ | ⟨g, cap', cur, e1, h2, h3, h4, h5, h6, h7⟩
  · cases e1
  · cases e1
    refine .inr ⟨b, cap, cur.setIfInBounds k u, rfl, h2, ?_, h4, h5, by simpa using h6, ?_⟩
    · simp [World.setCell, Array.getElem?_modify, h3]
    · rw [← h7, Array.toList_setIfInBounds, List.take_set]
theorem own_cell {w : World} {base e b n cap : Nat} {xs : List Value} (ow : w.ownsRow base e 1 (.slice (some ⟨b, 0, none⟩) n cap) n xs) {j : Nat} {u : Value} (hj : xs[j]? = some u) : w.cell? ⟨b, j, none⟩ = some u ∧ w.frozen? ⟨b, j, none⟩ = false := by
  rcases ow.2 with ⟨e1, -⟩ | ⟨g, cap', cur, e1, h2, h3, h4, h5, h6, h7⟩
  · cases e1
  · cases e1
    refine ⟨?_, by simp [World.frozen?, h3]⟩
    rw [← h7, List.getElem?_take] at hj
    split at hj
    · simp [World.cell?, h3]
      simpa using hj
    · cases hj
/-- places of one's own: a row of rows of bytes -/
structure Pls (w : World) (base : Nat) (v : Value) (n : Nat) (pv : List Value) (ls : List (List UInt8)) : Prop where
  row : w.ownsRow base 33 1 v n pv
  fam : Fam w base pv ls
theorem set_snoc {α : Type} (xs : List α) (z y : α) (k n : Nat) (hk : k < n) (hx : xs.length = k) : (xs ++ List.replicate (n - k) z).set k y = (xs ++ [y]) ++ List.replicate (n - (k + 1)) z := by
  rw [List.set_append_right _ _ (by omega), hx, Nat.sub_self, show n - k = (n - (k + 1)) + 1 by omega, List.replicate_succ, List.set_cons_zero]
  simp
set_option maxHeartbeats 1600000 in
theorem pcopied_any (v : Value) (b0 n : Nat) (pv : List Value) (ls : List (List UInt8)) (w : World) (hrow : w.ownsRow b0 33 1 v n pv) (hl : ls.length = n) (hbs : ∀ (i : Nat) u l, pv[i]? = some u → ls[i]? = some l → Bs w u l) (hll : ∀ l ∈ ls, l.length ≤ 140737488355328) (hn : n ≤ 1000) (hn0 : 0 < n) :
    Calls Try.prog 52 #[v] w fun e w' => ∃ v' pv', e = .returned v' ∧ Pls w' w.heap.size v' n pv' ls ∧ Kept [] w w' := by
  have hmk := run_make_sl (P := Try.prog) w 86 33 Try.underlying86 (by kernel_rfl) n hn
  obtain ⟨gP, cP, rfl, -, -⟩ := own_at8 hrow hn0
  have hpl : pv.length = n := by have := hrow.1; omega
  have hown0 := own_made_sl w 33 w.heap.size n (Nat.le_refl _) (by unfold maxLen; omega)
  have hk0 : Kept [] w (w.alloc (.cells (madeCells #[.slice none 0 0] n) 33)) := (Kept.refl [] w).alloc _
  have hf0 : Fam (w.alloc (.cells (madeCells #[.slice none 0 0] n) 33)) w.heap.size [] [] := Fam.nil _ _
  have h63 : (n : Int) < 9223372036854775807 := by omega
  clear hn
  go_enter Try.func52, Try.ntmps52
  go_wp2
  generalize w.alloc (.cells (madeCells #[.slice none 0 0] n) 33) = w1 at *
  go_loopw [11] (fun i wr => ∃ (k : Nat) (qs : List Value), k ≤ n ∧ i = .int .i64 k ∧ qs.length = k ∧ wr.ownsRow w.heap.size 33 1 (.slice (some ⟨w.heap.size, 0, none⟩) n n) n (qs ++ nils (n - k)) ∧ Fam wr w.heap.size qs (ls.take k) ∧ Kept [] w wr) (fun i _ => n - (intOf i).toNat)
  case atStart => exact ⟨0, [], Nat.zero_le _, rfl, rfl, by simpa using hown0, by simpa using hf0, hk0⟩
  case round =>
    obtain ⟨k, qs, hk, rfl, hq, hown, hfam, hkept⟩ := hrel
    by_cases hlt : k < n
    · obtain ⟨u, hu⟩ : ∃ u, pv[k]? = some u := ⟨_, List.getElem?_eq_getElem (by omega)⟩
      obtain ⟨l, hll2⟩ : ∃ l, ls[k]? = some l := ⟨_, List.getElem?_eq_getElem (by omega)⟩
      have hc := hkept.cell (own_cell hrow hu).1 (by simp)
      have hb := (hbs k u l hu hll2).kept hkept
      have hge := own_ge hown w.heap.size rfl
      have hlw := own_lt hown w.heap.size rfl
      have hcall := pown_any u l wr hb (hll l (List.mem_of_getElem? hll2))
      obtain ⟨pu, cu, rfl, -⟩ := id hb
      have hnot : Not8 wr w.heap.size := own_not8 hown (by decide) _ rfl
      have hz : (qs ++ nils (n - k))[k]? = some (.slice none 0 0) := by rw [List.getElem?_append_right (by omega), hq, Nat.sub_self]; unfold nils; rw [List.getElem?_replicate]; rw [if_pos (by omega)]
      have hk' : (k : Int) < (n : Int) := by omega
      have hk0' : (0 : Int) ≤ (k : Int) := by omega
      clear hmk hbs hll hown0 hk0 hf0
      go_wp2_with fail
      refine hcall.mono ?_
      rintro e w3 ⟨u3, rfl, o3, k3⟩
      obtain ⟨p3, c3, rfl⟩ := own_shape2 o3
      have hown3 := own_of_kept hown k3 (by simp)
      obtain ⟨x1, x2⟩ := own_cell hown3 hz
      obtain ⟨o4, k4⟩ := own_set1 hown3 k hlt (.slice p3 l.length c3)
      have e4 : (qs ++ nils (n - k)).set k (.slice p3 l.length c3) = (qs ++ [.slice p3 l.length c3]) ++ nils (n - (k + 1)) := set_snoc qs _ _ k n hlt hq
      rw [e4] at o4
      have k34 : Kept [w.heap.size] wr (w3.setCell ⟨w.heap.size, k, none⟩ (.slice p3 l.length c3)) := (k3.mono (by simp)).trans k4 (fun x hx => .inl hx)
      have o34 := own_of_kept o3 k4 (fun x hx hm => by simp at hm; subst hm; have := own_ge o3 _ hx; omega)
      have f4 := Fam.snoc hfam (Nat.le_of_lt hlw) k34 (fun x hx => by simp at hx; subst hx; exact .inl hnot) o34
      have e5 : ls.take k ++ [l] = ls.take (k + 1) := by rw [List.take_add_one, hll2]; rfl
      rw [e5] at f4
      have k5 := hkept.trans k34 (fun x hx => by simp at hx; subst hx; exact .inr (Nat.le_refl _))
      have FIN : Hid ((w3.setCell ⟨w.heap.size, k, none⟩ (.slice p3 l.length c3)).ownsRow w.heap.size 33 1 (.slice (some ⟨w.heap.size, 0, none⟩) n n) n ((qs ++ [.slice p3 l.length c3]) ++ nils (n - (k + 1))) ∧ Fam (w3.setCell ⟨w.heap.size, k, none⟩ (.slice p3 l.length c3)) w.heap.size (qs ++ [.slice p3 l.length c3]) (ls.take (k + 1)) ∧ Kept [] w (w3.setCell ⟨w.heap.size, k, none⟩ (.slice p3 l.length c3))) := ⟨o4, f4, k5⟩
      clear hcall hown hown3 o3 o34 o4 f4 k5 k34 k4 hb hfam e4 e5 hz
      go_wp2
      go_roundw
      case rel => exact ⟨k + 1, qs ++ [.slice p3 l.length c3], by omega, by go_num, by simp [hq], FIN.out.1, FIN.out.2.1, FIN.out.2.2⟩
      case measure => simp [intOf]; omega
    · obtain rfl : k = n := by omega
      have e1 : qs ++ nils (k - k) = qs := by simp [nils]
      have e2 : ls.take k = ls := List.take_of_length_le (by omega)
      rw [e1] at hown
      rw [e2] at hfam
      clear hmk hbs hll hown0 hk0 hf0 hrow
      go_wp2
      go_ret
      exact ⟨_, _, rfl, ⟨hown, hfam⟩, hkept⟩
end Go.Proofs.Ytmipmiaflompmaa

/-
  OWN WORK. A region that draws its order and ends with a store into a cell that it read: the reads may be taken first, and the store need keep nothing.
-/
namespace Go.Proofs.Ytmipmiaflompmaa
open Go.RowKit
set_option linter.unusedVariables false

section
variable {P : Program} {ops : Array Oper} {Q : Exit → Act → World → Prop} {md : Region.Mode} {S : World → Prop} {z : Nat}

/-- whatever order is picked: S holds behind every operation but number z -/
def wpAnyZ (P : Program) (md : Region.Mode) (ops : Array Oper) (Q : Exit → Act → World → Prop) (S : World → Prop) (z : Nat) : Nat → Array Bool → Act → World → Prop
  | 0, listed, a, w => Region.ready md ops listed = [] ∧ Q .normal a w
  | n + 1, listed, a, w =>
    (Region.ready md ops listed = [] → Q .normal a w) ∧
      ∀ i ∈ Region.ready md ops listed, wpOp P ops Q i (fun a' w' => (i ≠ z → S w') ∧ wpAnyZ P md ops Q S z n (listed.setIfInBounds i true) a' w') a w
theorem wpAnyZ_any : ∀ (n : Nat) (listed : Array Bool) (a : Act) (w : World), wpAnyZ P md ops Q S z n listed a w → wpAny P md ops Q n listed a w
  | 0, _, _, _, h => h
  | n + 1, _, _, _, h => ⟨h.1, fun i hi => wpOp_mono (fun a' w' h' => wpAnyZ_any n _ a' w' h'.2) (h.2 i hi)⟩
/-- number z waits for number i -/
def waits (md : Region.Mode) (ops : Array Oper) (z i : Nat) : Bool := match ops[z]? with
  | some o => o.after.any fun e => Region.binds md e && e.on == i
  | none => true
theorem waits_ready {i : Nat} {listed : Array Bool} (h : waits md ops z i = true) (hi : listed.getD i false = false) : z ∉ Region.ready md ops listed := fun hm => by
  obtain ⟨-, o, ho, hall⟩ := mem_ready.1 hm
  unfold waits at h
  rw [ho] at h
  obtain ⟨k, hk, he⟩ := Array.any_eq_true.1 h
  simp at he
  have := hall (o.after[k]) (Array.getElem_mem hk) he.1
  rw [he.2, hi] at this
  cases this
theorem wpAnyZ_first {i : Nat} {oi : Oper} {v : Value} (hi : ops[i]? = some oi) (hsel : ∀ (j : Nat) (o : Oper) cs b, ops[j]? = some o → o.op ≠ .select cs b)
    (hQ : ∀ c a w, Q (.panic c) (a.put oi.dst v) w → Q (.panic c) a w) (hz : waits md ops z i = true) :
    ∀ (n : Nat) (listed : Array Bool) (a : Act) (w : World),
      (∀ j oj, ops[j]? = some oj → j ≠ i → listed.getD j true = false → (∀ e ∈ oj.after, Region.binds md e = true → e.on ≠ i) → oi.apart ops oj = true) →
      i ∈ Region.ready md ops listed → YieldsIf P ops S oi v a → S w →
      wpAnyZ P md ops Q S z n (listed.setIfInBounds i true) (a.put oi.dst v) w → wpAnyZ P md ops Q S z (n + 1) listed a w := by
  intro n
  induction n with
  | zero =>
    intro listed a w _ hr hy hS H
    refine ⟨fun h => (by rw [h] at hr; cases hr), fun j hj => ?_⟩
    by_cases e : j = i
    · subst e; exact hy.wpOp hi hS ⟨fun _ => hS, H⟩
    · have := ready_mono hj e
      rw [H.1] at this
      cases this
  | succ n ih =>
    intro listed a w hfree hr hy hS H
    have hun := (mem_ready.1 hr).1
    have hunf : listed.getD i false = false := by
      rcases Nat.lt_or_ge i listed.size with c | c
      · simp [c] at hun ⊢; exact hun
      · simp [c]
    refine ⟨fun h => (by rw [h] at hr; cases hr), fun j hj => ?_⟩
    by_cases e : j = i
    · subst e; exact hy.wpOp hi hS ⟨fun _ => hS, H⟩
    · have hjz : j ≠ z := fun c => waits_ready hz hunf (c ▸ hj)
      obtain ⟨hju, oj, hoj, hall⟩ := mem_ready.1 hj
      have hno : ∀ e ∈ oj.after, Region.binds md e = true → e.on ≠ i := fun e he hb c => by
        have := hall e he hb
        rw [c, hunf] at this
        cases this
      have h2 := wpOp_putIf hoj (hfree j oj hoj e hju hno) (fun cs b => hsel i oi cs b hi) (fun cs b => hsel j oj cs b hoj) hQ hy (H.2 j (ready_mono hj e))
      have hfree2 : ∀ k ok, ops[k]? = some ok → k ≠ i → (listed.setIfInBounds j true).getD k true = false → (∀ e ∈ ok.after, Region.binds md e = true → e.on ≠ i) → oi.apart ops ok = true := fun k ok hk hki hkj hnk => by
        by_cases c : j = k
        · subst c; exact hfree j ok hk hki hju hnk
        · exact hfree k ok hk hki (by rwa [getD_set_ne true c] at hkj) hnk
      refine wpOp_mono (fun a' w' h3 => ⟨h3.2.1, ih (listed.setIfInBounds j true) a' w' hfree2 (ready_mono hr (Ne.symm e)) h3.1 (h3.2.1 hjz) ?_⟩) h2
      rw [Array.setIfInBounds_comm _ _ e]
      exact h3.2.2
/-- take number i first -/
theorem wpAnyZ_take (i : Nat) {oi : Oper} {v : Value} {n : Nat} {listed : Array Bool} {a : Act} {w : World} (hi : ops[i]? = some oi)
    (hs : Region.noSelect ops = true) (hz : waits md ops z i = true) (hf : Region.free md ops listed i = true) (hr : (Region.ready md ops listed).contains i = true)
    (hQ : ∀ c a w, Q (.panic c) (a.put oi.dst v) w → Q (.panic c) a w) (hw : Region.wanted oi (yielded ops a.tmps) = true) (hy : ∀ w, S w → (execOp a.eval oi).run P w = .ok (.value v) w) (hS : S w)
    (h : wpAnyZ P md ops Q S z n (listed.setIfInBounds i true) (a.put oi.dst v) w) : wpAnyZ P md ops Q S z (n + 1) listed a w :=
  wpAnyZ_first hi (Region.noSelect_spec hs) hQ hz n listed a w (Region.free_spec hi hf) (by simpa using hr) (.inl ⟨hw, hy⟩) hS h
/-- only number i may come up -/
theorem wpAnyZ_one (i : Nat) {oi : Oper} {n : Nat} {listed : Array Bool} {a : Act} {w : World} (hi : ops[i]? = some oi) (hr : Region.ready md ops listed = [i])
    (h : ∀ K : Act → World → Prop, (∀ a' w', (i ≠ z → S w') → wpAnyZ P md ops Q S z n (listed.setIfInBounds i true) a' w' → K a' w') → if Region.wanted oi (yielded ops a.tmps) = true then Oper.wp P oi a w K Q else K (a.put oi.dst undef) w) : wpAnyZ P md ops Q S z (n + 1) listed a w := by
  refine ⟨fun c => absurd (hr.symm.trans c) (by simp), fun j hj => ?_⟩
  rw [hr] at hj
  simp at hj
  subst hj
  exact wpOp_step hi fun K hK => h K fun a' w' h1 h2 => hK a' w' ⟨h1, h2⟩
theorem wpAnyZ_done {listed : Array Bool} {a : Act} {w : World} (hr : Region.ready md ops listed = []) (h : Q .normal a w) : ∀ n, wpAnyZ P md ops Q S z n listed a w
  | 0 => ⟨hr, h⟩
  | _ + 1 => ⟨fun _ => h, by rw [hr]; simp⟩
theorem wp_region_late (S : World → Prop) (z : Nat) {id : Nat} {a : Act} {w : World} (hm : P.follows .mixedOrders = true)
    (h : wpAnyZ P .any ops Q S z ops.size (Array.replicate ops.size false) a w.drew) : (Code.region id ops true).wp P Q a w :=
  wp_region_any hm (wpAnyZ_any _ _ _ _ h)
end
end Go.Proofs.Ytmipmiaflompmaa

/-
  OWN WORK. The document's disk: Copy.
-/
namespace Go.Proofs.Ytmipmiaflompmaa
open Go.RowKit
set_option linter.unusedVariables false
set_option linter.unusedSimpArgs false

theorem imOf_log (np : Nat) (rows : List (List UInt8)) (l : List UInt8) : ({ imOf np rows [] with log := l } : IM) = imOf np rows l := rfl
set_option maxHeartbeats 3200000 in
theorem copy_any (g : Nat) (d : DS) (R : RDat) (w : World) (h : RD w g d R) (hcap : d.loose.length * 40 ≤ 140737488355328) :
    Calls Try.prog 33 #[.pointer (some ⟨g, 0, none⟩)] w fun e w' => ∃ g' R', e = .returned (.pointer (some ⟨g', 0, none⟩)) ∧ RD w' g' d.copy R' ∧ (∀ x ∈ R'.foot g', w.heap.size ≤ x) ∧ Kept [] w w' := by
  have hsm := imOf_small h.ok h.ok.row [] (by simp)
  have him := fun (w' : World) (kk : Kept [] w w') => images_any R.iv _ w' (h.kept kk (by simp)).see hsm.1 hsm.2
  obtain ⟨pl, cl, el, hbs⟩ := h.shapes
  have hll := h.ok.log
  have hlm := h.ok.lm
  rw [el] at hbs
  have hcp := copied_from _ _ hbs (by omega)
  have hb := h.blk
  have c0 := hb.cell (j := 0) rfl
  have c1 := hb.cell (j := 1) rfl
  have c2 := hb.cell (j := 2) rfl
  have c3 := hb.cell (j := 3) rfl
  have c4 := hb.cell (j := 4) rfl
  have c5 := hb.cell (j := 5) rfl
  have c6 := hb.cell (j := 6) rfl
  have c7 := hb.cell (j := 7) rfl
  have c9 := hb.cell (j := 9) rfl
  have c10 := hb.cell (j := 10) rfl
  rw [el] at c9
  obtain ⟨pp, cp, ep⟩ := own_shape2 h.row
  obtain ⟨p1, q1, e1⟩ := own_shape2 h.pairOwn
  obtain ⟨p3, q3, e3⟩ := own_shape2 h.m0Own
  obtain ⟨p4, q4, e4⟩ := own_shape2 h.m1Own
  obtain ⟨p2, q2, e2, -⟩ := h.vl
  unfold IV.agg RDat.iv at him
  simp only at him
  rw [ep, e1, e2, e3, e4] at him
  rw [ep] at c3
  rw [e1] at c4
  rw [e2] at c5
  rw [e3] at c6
  rw [e4] at c7
  generalize (d.rows.getD 0 []).length = n1 at him c4
  generalize (d.rows.getD (d.np + 1) []).length = n3 at him c6
  generalize (d.rows.getD (d.np + 2) []).length = n4 at him c7
  have HRD : Hid (RD w g d R) := h
  have HC : Hid (d.loose.length * 40 ≤ 140737488355328) := hcap
  clear hb ep e1 e2 e3 e4 hsm el hbs hll hlm hcap h
  go_enter Try.func33, Try.ntmps33
  go_upto_region 1 with fail
  go_cut [3] (fun s wx => ∃ (B : Nat) (V : IV) (vl : Value), s = .pointer (some ⟨B, 0, none⟩) ∧ RD wx B { d.copy with loose := [] } (freshV V vl) ∧ (∀ x ∈ (freshV V vl).foot B, w.heap.size ≤ x) ∧ Kept [] w wx)
  case first =>
    go_region_held3 (fun w' => w'.cell? ⟨g, 0, none⟩ = some (.int .i64 (d.np : Int)) ∧ w'.cell? ⟨g, 1, none⟩ = some (.int .i64 (d.ns : Int)) ∧ w'.cell? ⟨g, 2, none⟩ = some (.int .i64 (d.lm : Int)) ∧ w'.cell? ⟨g, 3, none⟩ = some (.slice pp d.np cp) ∧ w'.cell? ⟨g, 4, none⟩ = some (.slice p1 n1 q1) ∧ w'.cell? ⟨g, 5, none⟩ = some (.slice p2 0 q2) ∧ w'.cell? ⟨g, 6, none⟩ = some (.slice p3 n3 q3) ∧ w'.cell? ⟨g, 7, none⟩ = some (.slice p4 n4 q4) ∧ w'.cell? ⟨g, 9, none⟩ = some (.slice pl d.log.length cl) ∧ w'.cell? ⟨g, 10, none⟩ = some (.int .i64 (d.lasted : Int)))
      (first
        | (with_reducible exact ⟨c0, c1, c2, c3, c4, c5, c6, c7, c9, c10⟩)
        | (with_reducible exact ⟨kA.cell c0 (by simp), kA.cell c1 (by simp), kA.cell c2 (by simp), kA.cell c3 (by simp), kA.cell c4 (by simp), kA.cell c5 (by simp), kA.cell c6 (by simp), kA.cell c7 (by simp), kA.cell c9 (by simp), kA.cell c10 (by simp)⟩)
        | (with_reducible exact ⟨kB.cell c0 (by simp), kB.cell c1 (by simp), kB.cell c2 (by simp), kB.cell c3 (by simp), kB.cell c4 (by simp), kB.cell c5 (by simp), kB.cell c6 (by simp), kB.cell c7 (by simp), kB.cell c9 (by simp), kB.cell c10 (by simp)⟩)
        | (with_reducible exact ⟨(kA.alloc _).cell c0 (by simp), (kA.alloc _).cell c1 (by simp), (kA.alloc _).cell c2 (by simp), (kA.alloc _).cell c3 (by simp), (kA.alloc _).cell c4 (by simp), (kA.alloc _).cell c5 (by simp), (kA.alloc _).cell c6 (by simp), (kA.alloc _).cell c7 (by simp), (kA.alloc _).cell c9 (by simp), (kA.alloc _).cell c10 (by simp)⟩)
        | (with_reducible exact ⟨(kB.alloc _).cell c0 (by simp), (kB.alloc _).cell c1 (by simp), (kB.alloc _).cell c2 (by simp), (kB.alloc _).cell c3 (by simp), (kB.alloc _).cell c4 (by simp), (kB.alloc _).cell c5 (by simp), (kB.alloc _).cell c6 (by simp), (kB.alloc _).cell c7 (by simp), (kB.alloc _).cell c9 (by simp), (kB.alloc _).cell c10 (by simp)⟩)
        | go_keep)
      (first
        | (go_at_call 71; refine (him _ (by first | (with_reducible exact Kept.refl _ _) | (with_reducible exact (Kept.refl _ _).drew) | (with_reducible exact kB) | (with_reducible exact kB.drew))).mono ?_; clear him; rintro e wA ⟨V, rfl, hV, kA0⟩
           try (have kA : Kept [] w wA := ⟨kA0.os, kA0.tape, kA0.output, kA0.size, kA0.block⟩)
           try (have kA : Kept [] w wA := kB.then kA0)
           obtain ⟨vp, qv, pair, log, m0, m1⟩ := V
           obtain ⟨u0, v0, u1, v1, u2, v2, u3, v3, u4, v4, x0, x1, x2, x3, x4⟩ := hV.shapes
           simp only at x0 x1 x2 x3 x4
           subst x0 x1 x2 x3 x4
           try unfold IV.agg
           try dsimp only)
        | (go_at_call 72; refine (hcp _ (by first | (with_reducible exact Kept.refl _ _) | (with_reducible exact (Kept.refl _ _).drew) | (with_reducible exact kA) | (with_reducible exact kA.drew))).mono ?_; clear hcp; rintro e wB ⟨pB, cB, rfl, oB, kB, kB0⟩)
        | fail)
    have hV : OwnIm wA w.heap.size ⟨.slice u0 qv.length v0, qv, .slice u1 (imOf d.np d.rows []).pair.length v1, .slice u2 (imOf d.np d.rows []).log.length v2, .slice u3 (imOf d.np d.rows []).m0.length v3, .slice u4 (imOf d.np d.rows []).m1.length v4⟩ (imOf d.np d.rows []) := hV
    have hW := hV.newLog kA.size kB0 (by simp) (by simp) oB
    have hvl := own_nil_shape (hV.fam.own 0 (.slice u2 (imOf d.np d.rows []).log.length v2) [] rfl rfl)
    have kD := (Kept.refl [] wB).alloc (.cells #[.int .i64 (d.np : Int), .int .i64 (d.ns : Int), .int .i64 (d.lm : Int), .slice u0 qv.length v0, .slice u1 (imOf d.np d.rows []).pair.length v1, .slice u2 (imOf d.np d.rows []).log.length v2, .slice u3 (imOf d.np d.rows []).m0.length v3, .slice u4 (imOf d.np d.rows []).m1.length v4, .slice none 0 0, .slice pB d.log.length cB, .int .i64 (d.lasted : Int), .int .i64 0, .int .i64 0, .bool false] 113)
    have bD := Blk.new wB 113 [.int .i64 (d.np : Int), .int .i64 (d.ns : Int), .int .i64 (d.lm : Int), .slice u0 qv.length v0, .slice u1 (imOf d.np d.rows []).pair.length v1, .slice u2 (imOf d.np d.rows []).log.length v2, .slice u3 (imOf d.np d.rows []).m0.length v3, .slice u4 (imOf d.np d.rows []).m1.length v4, .slice none 0 0, .slice pB d.log.length cB, .int .i64 (d.lasted : Int), .int .i64 0, .int .i64 0, .bool false]
    obtain ⟨f1, f2⟩ := RD.make2 (d := { d.copy with loose := [] }) (g := wB.heap.size) (HRD.out.ok.front 0) (hW.kept0 kD) rfl hvl bD kB.size
    have kZ := kB.then kD
    clear hV hW bD kD hvl oB c0 c1 c2 c3 c4 c5 c6 c7 c9 c10 kA kB kB0 kA0
    go_step
    go_step
    go_meet
    exact ⟨_, _, _, rfl, f1, f2, kZ⟩
  case rest =>
    clear him hcp c0 c1 c2 c3 c4 c5 c6 c7 c9 c10
    obtain ⟨B, V, vl, rfl, rdc, hfoot, kc⟩ := hcut
    have ST : Hid (RD wc B { d.copy with loose := [] } (freshV V vl) ∧ (∀ x ∈ (freshV V vl).foot B, w.heap.size ≤ x) ∧ Kept [] w wc) := ⟨rdc, hfoot, kc⟩
    clear rdc hfoot kc
    go_wp2_with fail
    go_loopw [4] (fun i wr => ∃ (k : Nat) (R' : RDat), k ≤ d.loose.length ∧ i = .int .i64 k ∧ RD wr B { d.copy with loose := d.loose.take k } R' ∧ (∀ x ∈ R'.foot B, w.heap.size ≤ x) ∧ Kept [] w wr) (fun i _ => d.loose.length - (intOf i).toNat)
    case atStart => exact ⟨0, _, Nat.zero_le _, rfl, ST.out.1, ST.out.2.1, ST.out.2.2⟩
    case round =>
      clear ST
      obtain ⟨k, R', hk, rfl, rd', hfoot, kr⟩ := hrel
      have hrd := HRD.out.kept kr (by simp)
      have c8 := hrd.blk.cell (j := 8) rfl
      obtain ⟨pz0, cz0, ez0, hz1, hz2⟩ := hrd.loose.shape
      rw [ez0] at c8
      by_cases hlt : k < d.loose.length
      · obtain ⟨lbk, cc, pl, nu, bp, bc, ix, b, e1, d0, d1, d2, hx, hy, hix, hob, hk2⟩ := hrd.looseAt2 hlt
        rw [ez0] at e1
        cases e1
        have hlt' : (k : Int) < (d.loose.length : Int) := by omega
        have wk : IntKind.i64.wrap ((k : Int) + 1) = (k : Int) + 1 := wrap_i64_of (by omega) (by unfold maxLen at hz2; omega)
        obtain ⟨wa, hwa⟩ : ∃ wa, wa = wr.alloc (.cells #[.int .i64 pl, .int .i64 nu, .slice bp b.length bc] 116) := ⟨_, rfl⟩
        have ka : Kept [] wr wa := by rw [hwa]; exact (Kept.refl [] wr).alloc _
        have bx : Blk wa wr.heap.size 116 [.int .i64 pl, .int .i64 nu, .slice bp b.length bc] := by rw [hwa]; exact Blk.new wr _ _
        have i0 := bx.cell (j := 0) rfl
        have i1 := bx.cell (j := 1) rfl
        have i2 := bx.cell (j := 2) rfl
        have H2 : Hid (RD wa B { d.copy with loose := d.loose.take k } R') := rd'.kept ka (by simp)
        have b8 := H2.out.blk.cell (j := 8) rfl
        obtain ⟨pz, cz, ez, -, -⟩ := H2.out.loose.shape
        have hlen : ({ d.copy with loose := d.loose.take k } : DS).loose.length = k := by show (d.loose.take k).length = k; simp; omega
        rw [hlen] at ez
        rw [ez] at b8
        have EZ : Hid (R'.vloose = .slice pz k cz) := ez
        have HLL : Hid (k = ({ d.copy with loose := d.loose.take k } : DS).loose.length) := hlen.symm
        have hns := HRD.out.ok.ns
        have hcc := copied_from _ _ ((Bs.ofOwn hob).kept ka) (by have := sizeK_le d.np d.ns ix hns.2; omega)
        obtain ⟨inf, hin1, hin2, hin3, hin4⟩ := info_parts3 (show (Try.prog.info? 116).map (fun i => (i.zero, i.size, i.bytes)) = some (some (.agg #[.int .i64 0, .int .i64 0, .slice none 0 0]), 3, 40) by kernel_rfl)
        have HI : Hid (Try.prog.info? 116 = some inf ∧ inf.zero = some (.agg #[.int .i64 0, .int .i64 0, .slice none 0 0]) ∧ inf.size = 3 ∧ inf.bytes = 40) := ⟨hin1, hin2, hin3, hin4⟩
        have HRW : Hid (Row wa 0 3 (.slice pz k cz) k (lcells R'.lv)) := (show Row wa 0 3 (.slice pz k cz) k (lcells R'.lv) by have := H2.out.loose; rw [ez, hlen] at this; exact this)
        have ngl : B ∉ (Value.slice pz k cz).ownBlock.toList := fun hm => (H2.out.apart B (by rw [ez]; simpa using hm)).1 rfl
        have ngw : wr.heap.size ∉ (Value.slice pz k cz).ownBlock.toList := fun hm => by
          have := (rd'.loose.lt wr.heap.size (by rw [ez]; simpa using hm)).2
          omega
        have HIX : Hid (idxOf d.np pl nu = some ix ∧ b.length = sizeK d.np d.ns ix ∧ d.loose[k]? = some (ix, b)) := ⟨hix, hk2, hx⟩
        have HK : Hid (k + 1 ≤ d.loose.length) := (show k + 1 ≤ d.loose.length by omega)
        have KR : Hid (Kept [] w wr ∧ Kept [] wr wa) := ⟨kr, ka⟩
        have HF : Hid (∀ x ∈ R'.foot B, w.heap.size ≤ x) := hfoot
        have HWA : Hid (wa = wr.alloc (.cells #[.int .i64 pl, .int .i64 nu, .slice bp b.length bc] 116)) := hwa
        clear hin1 hin2 hin3 hin4 hwa bx rd' hfoot kr hrd ez0 hz1 hz2 hx hy hix hob hk2 ka ez hlen hns
        go_upto_region 6 with fail
        rw [← HWA.out]
        refine wp_region_late (fun w' => w'.cell? ⟨B, 8, none⟩ = some (.slice pz k cz) ∧ w'.cell? ⟨wr.heap.size, 0, none⟩ = some (.int .i64 pl) ∧ w'.cell? ⟨wr.heap.size, 1, none⟩ = some (.int .i64 nu) ∧ w'.cell? ⟨wr.heap.size, 2, none⟩ = some (.slice bp b.length bc)) 17 (by kernel_rfl) ?_
        have hS : (wa.drew.cell? ⟨B, 8, none⟩ = some (.slice pz k cz) ∧ wa.drew.cell? ⟨wr.heap.size, 0, none⟩ = some (.int .i64 pl) ∧ wa.drew.cell? ⟨wr.heap.size, 1, none⟩ = some (.int .i64 nu) ∧ wa.drew.cell? ⟨wr.heap.size, 2, none⟩ = some (.slice bp b.length bc)) := ⟨b8, i0, i1, i2⟩
        refine wpAnyZ_take 0 (v := ?v0) rfl (by kernel_rfl) (by kernel_rfl) (by kernel_rfl) (by kernel_rfl) (fun _ _ _ h => h) (by rfl) ?hy0 hS ?rest0
        case hy0 => (intro wx hSx; (try dsimp only at hSx); go_simp; (try with_reducible rfl))
        (try simp only [Act.put, List.setIfInBounds_toArray, List.set_cons_zero, List.set_cons_succ])
        refine wpAnyZ_take 1 (v := ?v1) rfl (by kernel_rfl) (by kernel_rfl) (by kernel_rfl) (by kernel_rfl) (fun _ _ _ h => h) (by rfl) ?hy1 hS ?rest1
        case hy1 => (intro wx hSx; (try dsimp only at hSx); go_simp; (try with_reducible rfl))
        (try simp only [Act.put, List.setIfInBounds_toArray, List.set_cons_zero, List.set_cons_succ])
        refine wpAnyZ_take 2 (v := ?v2) rfl (by kernel_rfl) (by kernel_rfl) (by kernel_rfl) (by kernel_rfl) (fun _ _ _ h => h) (by rfl) ?hy2 hS ?rest2
        case hy2 => (intro wx hSx; (try dsimp only at hSx); go_simp; (try with_reducible rfl))
        (try simp only [Act.put, List.setIfInBounds_toArray, List.set_cons_zero, List.set_cons_succ])
        refine wpAnyZ_take 3 (v := ?v3) rfl (by kernel_rfl) (by kernel_rfl) (by kernel_rfl) (by kernel_rfl) (fun _ _ _ h => h) (by rfl) ?hy3 hS ?rest3
        case hy3 => (intro wx hSx; (try dsimp only at hSx); go_simp; (try with_reducible rfl))
        (try simp only [Act.put, List.setIfInBounds_toArray, List.set_cons_zero, List.set_cons_succ])
        refine wpAnyZ_take 4 (v := ?v4) rfl (by kernel_rfl) (by kernel_rfl) (by kernel_rfl) (by kernel_rfl) (fun _ _ _ h => h) (by rfl) ?hy4 hS ?rest4
        case hy4 => (intro wx hSx; (try dsimp only at hSx); go_simp; (try with_reducible rfl))
        (try simp only [Act.put, List.setIfInBounds_toArray, List.set_cons_zero, List.set_cons_succ])
        refine wpAnyZ_take 5 (v := ?v5) rfl (by kernel_rfl) (by kernel_rfl) (by kernel_rfl) (by kernel_rfl) (fun _ _ _ h => h) (by rfl) ?hy5 hS ?rest5
        case hy5 => (intro wx hSx; (try dsimp only at hSx); go_simp; (try with_reducible rfl))
        (try simp only [Act.put, List.setIfInBounds_toArray, List.set_cons_zero, List.set_cons_succ])
        refine wpAnyZ_take 6 (v := ?v6) rfl (by kernel_rfl) (by kernel_rfl) (by kernel_rfl) (by kernel_rfl) (fun _ _ _ h => h) (by rfl) ?hy6 hS ?rest6
        case hy6 => (intro wx hSx; (try dsimp only at hSx); go_simp; (try with_reducible rfl))
        (try simp only [Act.put, List.setIfInBounds_toArray, List.set_cons_zero, List.set_cons_succ])
        refine wpAnyZ_take 7 (v := ?v7) rfl (by kernel_rfl) (by kernel_rfl) (by kernel_rfl) (by kernel_rfl) (fun _ _ _ h => h) (by rfl) ?hy7 hS ?rest7
        case hy7 => (intro wx hSx; (try dsimp only at hSx); go_simp; (try with_reducible rfl))
        (try simp only [Act.put, List.setIfInBounds_toArray, List.set_cons_zero, List.set_cons_succ])
        refine wpAnyZ_take 8 (v := ?v8) rfl (by kernel_rfl) (by kernel_rfl) (by kernel_rfl) (by kernel_rfl) (fun _ _ _ h => h) (by rfl) ?hy8 hS ?rest8
        case hy8 => (intro wx hSx; (try dsimp only at hSx); go_simp; (try with_reducible rfl))
        (try simp only [Act.put, List.setIfInBounds_toArray, List.set_cons_zero, List.set_cons_succ])
        refine wpAnyZ_take 9 (v := ?v9) rfl (by kernel_rfl) (by kernel_rfl) (by kernel_rfl) (by kernel_rfl) (fun _ _ _ h => h) (by rfl) ?hy9 hS ?rest9
        case hy9 => (intro wx hSx; (try dsimp only at hSx); go_simp; (try with_reducible rfl))
        (try simp only [Act.put, List.setIfInBounds_toArray, List.set_cons_zero, List.set_cons_succ])
        refine wpAnyZ_take 10 (v := ?v10) rfl (by kernel_rfl) (by kernel_rfl) (by kernel_rfl) (by kernel_rfl) (fun _ _ _ h => h) (by rfl) ?hy10 hS ?rest10
        case hy10 => (intro wx hSx; (try dsimp only at hSx); go_simp; (try with_reducible rfl))
        (try simp only [Act.put, List.setIfInBounds_toArray, List.set_cons_zero, List.set_cons_succ])
        refine wpAnyZ_one 11 rfl (by kernel_rfl) (fun K hK => ?_)
        go_simp
        refine (hcc _ (by exact (Kept.refl [] wa).drew)).mono ?_
        rintro e w3 ⟨p3, c3, rfl, o3, kA, k3⟩
        dsimp only
        have hS3 : (w3.cell? ⟨B, 8, none⟩ = some (.slice pz k cz) ∧ w3.cell? ⟨wr.heap.size, 0, none⟩ = some (.int .i64 pl) ∧ w3.cell? ⟨wr.heap.size, 1, none⟩ = some (.int .i64 nu) ∧ w3.cell? ⟨wr.heap.size, 2, none⟩ = some (.slice bp b.length bc)) := ⟨kA.cell b8 (by simp), kA.cell i0 (by simp), kA.cell i1 (by simp), kA.cell i2 (by simp)⟩
        refine hK _ _ (fun _ => hS3) ?_
        clear hK K hS
        refine wpAnyZ_take 12 (v := ?v12) rfl (by kernel_rfl) (by kernel_rfl) (by kernel_rfl) (by kernel_rfl) (fun _ _ _ h => h) (by rfl) ?hy12 hS3 ?rest12
        case hy12 => (intro wx hSx; (try dsimp only at hSx); go_simp; (try with_reducible rfl))
        (try simp only [Act.put, List.setIfInBounds_toArray, List.set_cons_zero, List.set_cons_succ])
        refine wpAnyZ_one 13 rfl (by kernel_rfl) (fun K hK => ?_)
        have k4 := (Kept.refl [] w3).alloc (.cells #[.int .i64 pl, .int .i64 nu, .slice p3 b.length c3] 116)
        have hS4 : ((w3.alloc (.cells #[.int .i64 pl, .int .i64 nu, .slice p3 b.length c3] 116)).cell? ⟨B, 8, none⟩ = some (.slice pz k cz) ∧ (w3.alloc (.cells #[.int .i64 pl, .int .i64 nu, .slice p3 b.length c3] 116)).cell? ⟨wr.heap.size, 0, none⟩ = some (.int .i64 pl) ∧ (w3.alloc (.cells #[.int .i64 pl, .int .i64 nu, .slice p3 b.length c3] 116)).cell? ⟨wr.heap.size, 1, none⟩ = some (.int .i64 nu) ∧ (w3.alloc (.cells #[.int .i64 pl, .int .i64 nu, .slice p3 b.length c3] 116)).cell? ⟨wr.heap.size, 2, none⟩ = some (.slice bp b.length bc)) := ⟨k4.cell hS3.1 (by simp), k4.cell hS3.2.1 (by simp), k4.cell hS3.2.2.1 (by simp), k4.cell hS3.2.2.2 (by simp)⟩
        go_simp
        refine hK _ _ (fun _ => hS4) ?_
        clear hK K
        refine wpAnyZ_one 14 rfl (by kernel_rfl) (fun K hK => ?_)
        refine step_append_row (by rfl) (.tmp 46) (.tmp 55) 111 (by rfl) 0 116 inf (.agg #[.int .i64 0, .int .i64 0, .slice none 0 0]) 3 40 Try.underlying111 HI.out.1 HI.out.2.1 HI.out.2.2.1 HI.out.2.2.2 rfl _ _ _ (by rfl) (by exact (HRW.out.kept kA (by simp)).kept ((Kept.refl [] w3).alloc _) (by simp)) _ 1 [.int .i64 pl, .int .i64 nu, .slice p3 b.length c3] (by rfl) (by exact src_write w3 _ _ Try.underlying111 pl nu p3 b.length c3) (by have := HC.out; have := HK.out; omega) (by have := HC.out; have := HK.out; unfold maxLen; omega) (by have := HC.out; have := HK.out; omega) (Nat.zero_le _) ?_
        intro v5 w5 r5 k5 at5
        obtain ⟨p5, c5, rfl, -, -⟩ := r5.shape
        have kE : Kept (Value.slice pz k cz).ownBlock.toList wa w5 := ((kA.alloc (.cells #[.int .i64 pl, .int .i64 nu, .slice p3 b.length c3] 116)).mono (by simp)).trans k5 (by intro x hx; exact .inl hx)
        have b5 := H2.out.blk.kept kE ngl
        have e0 := kE.cell b8 ngl
        have y0 := b5.free 8
        have hS5 : (w5.cell? ⟨B, 8, none⟩ = some (.slice pz k cz) ∧ w5.cell? ⟨wr.heap.size, 0, none⟩ = some (.int .i64 pl) ∧ w5.cell? ⟨wr.heap.size, 1, none⟩ = some (.int .i64 nu) ∧ w5.cell? ⟨wr.heap.size, 2, none⟩ = some (.slice bp b.length bc)) := ⟨e0, kE.cell i0 ngw, kE.cell i1 ngw, kE.cell i2 ngw⟩
        refine hK _ _ (fun _ => hS5) ?_
        clear hK K
        (try simp only [Act.put, List.setIfInBounds_toArray, List.set_cons_zero, List.set_cons_succ])
        refine wpAnyZ_one 15 rfl (by kernel_rfl) (fun K hK => ?_)
        go_simp
        refine hK _ _ (fun _ => hS5) ?_
        clear hK K
        refine wpAnyZ_one 16 rfl (by kernel_rfl) (fun K hK => ?_)
        go_simp
        refine hK _ _ (fun _ => hS5) ?_
        clear hK K
        refine wpAnyZ_one 17 rfl (by kernel_rfl) (fun K hK => ?_)
        go_simp
        refine hK _ _ (fun h => absurd rfl h) ?_
        clear hK K
        refine wpAnyZ_done (by kernel_rfl) ?_ _
        have o3 : w3.ownsRow wa.heap.size 5 1 (.slice p3 b.length c3) b.length (u8s b) := o3
        obtain ⟨f1, f2, f3⟩ := looseEnd H2.out EZ.out HLL.out HIX.out.1 HIX.out.2.1 o3 kA r5 k5 at5
        have F1 : Hid (RD (w5.setCell ⟨B, 8, none⟩ (.slice p5 (k + 1) c5)) B { d.copy with loose := d.loose.take (k + 1) } (R'.more (.slice p5 (k + 1) c5) pl nu (.slice p3 b.length c3))) := (by rw [← copy_next HIX.out.2.2]; exact f1)
        have F2 : Hid (Kept [] w (w5.setCell ⟨B, 8, none⟩ (.slice p5 (k + 1) c5))) := (KR.out.1.then KR.out.2).trans f2 (fun x hx => .inr (HF.out x (by rcases List.mem_cons.1 hx with e | e; (simp [RDat.foot, e]); (unfold RDat.foot; exact List.mem_cons_of_mem _ (List.mem_append_left _ (List.mem_append_right _ e))))))
        have F3 : Hid (∀ x ∈ (R'.more (.slice p5 (k + 1) c5) pl nu (.slice p3 b.length c3)).foot B, w.heap.size ≤ x) := (fun x hx => by have := (KR.out.1.then KR.out.2).size; rcases f3 x hx with c | c; exact HF.out x c; omega)
        clear f1 f2 f3 hcc c8 b8 d0 d1 d2 i0 i1 i2 b5 e0 y0 kE r5 k5 at5 o3 hS3 hS4 hS5 k4 kA k3
        go_wp2
        go_roundw
        case rel => exact ⟨k + 1, _, HK.out, by go_num, F1.out, F3.out, F2.out⟩
        case measure => simp [intOf]; omega
      · obtain rfl : k = d.loose.length := by omega
        rw [List.take_length] at rd'
        have RDX : Hid (RD wr B d.copy R') := rd'
        clear rd' hz1 hz2 ez0 hrd
        go_wp2
        go_ret
        exact ⟨_, _, rfl, RDX.out, hfoot, kr⟩
end Go.Proofs.Ytmipmiaflompmaa

/-
  OWN WORK. The document's disk: Crash, the walk.
-/
namespace Go.Proofs.Ytmipmiaflompmaa
open Go.RowKit
set_option linter.unusedVariables false

theorem imOf_log2 (np : Nat) (rows : List (List UInt8)) (a l : List UInt8) : ({ imOf np rows a with log := l } : IM) = imOf np rows l := rfl
set_option maxHeartbeats 3200000 in
theorem crash_any (g : Nat) (d : DS) (R : RDat) (c : Int) (vk : Value) (keep : List Int) (w : World) (h : RD w g d R) (hk : Is w vk keep) :
    Calls Try.prog 64 #[.pointer (some ⟨g, 0, none⟩), .agg #[.int .i64 c, vk]] w fun e w' => ∃ g' R', e = .returned (.pointer (some ⟨g', 0, none⟩)) ∧ RD w' g' (d.crash c keep) R' ∧ (∀ x ∈ R'.foot g', w.heap.size ≤ x) ∧ Kept [] w w' := by
  obtain ⟨pk, ck, rfl, hk1, hk2, hk3, -, hk4⟩ := id hk
  have HKP : Hid (Is w (.slice pk keep.length ck) keep) := hk
  obtain ⟨w0, hw0⟩ : ∃ w0, w0 = w.alloc (.cells #[.int .i64 c, .slice pk keep.length ck] 39) := ⟨_, rfl⟩
  have k0 : Kept [] w w0 := by rw [hw0]; exact (Kept.refl [] w).alloc _
  have s0 : w0.heap.size = w.heap.size + 1 := by rw [hw0]; simp
  have bC : Blk w0 w.heap.size 39 [.int .i64 c, .slice pk keep.length ck] := by rw [hw0]; exact Blk.new w _ _
  have h0 := h.kept k0 (by simp)
  have hla := lasts_any g d R w0 h0
  rw [hw0] at hla
  have HW0 : Hid (w0 = w.alloc (.cells #[.int .i64 c, .slice pk keep.length ck] 39)) := hw0
  have H0 : Hid (RD w0 g d R) := h0
  have HK0 : Hid (Kept [] w w0 ∧ w0.heap.size = w.heap.size + 1 ∧ Blk w0 w.heap.size 39 [.int .i64 c, .slice pk keep.length ck]) := ⟨k0, s0, bC⟩
  have HOK : Hid d.Ok := h.ok
  have HLT : Hid (∀ x ∈ R.foot g, x < w.heap.size) := fun x hx => h.lt hx
  clear h h0 hw0 k0 s0 bC hk hk1 hk2 hk3 hk4
  go_enter Try.func64, Try.ntmps64
  go_wp2_with fail
  refine hla.mono ?_
  clear hla
  rintro e w2 ⟨V, rfl, hV0, k2⟩
  rw [← HW0.out] at k2
  have S02 : Hid (w0.heap.size ≤ w2.heap.size) := k2.size
  have hV : OwnIm w2 w0.heap.size V d.lasts := by rw [HW0.out]; exact hV0
  clear hV0
  have H2 : Hid (RD w2 g d R) := H0.out.kept k2 (by simp)
  obtain ⟨vp, pv, pair, log, m0, m1⟩ := V
  obtain ⟨u0, v0, u1, v1, u2, v2, u3, v3, u4, v4, x0, x1, x2, x3, x4⟩ := hV.shapes
  simp only at x0 x1 x2 x3 x4
  subst x0 x1 x2 x3 x4
  obtain ⟨lp, hlp⟩ : ∃ n, n = d.lasts.pair.length := ⟨_, rfl⟩
  obtain ⟨la, hla⟩ : ∃ n, n = d.lasts.m0.length := ⟨_, rfl⟩
  obtain ⟨lb, hlb⟩ : ∃ n, n = d.lasts.m1.length := ⟨_, rfl⟩
  obtain ⟨lg, hlg⟩ : ∃ n, n = d.lasts.log.length := ⟨_, rfl⟩
  rw [← hlp, ← hla, ← hlb, ← hlg] at hV
  unfold IV.agg
  dsimp only
  rw [← hlp, ← hla, ← hlb, ← hlg]
  have HV : Hid (OwnIm w2 w0.heap.size ⟨.slice u0 pv.length v0, pv, .slice u1 lp v1, .slice u2 lg v2, .slice u3 la v3, .slice u4 lb v4⟩ d.lasts) := hV
  obtain ⟨w3, hw3⟩ : ∃ w3, w3 = w2.alloc (.cells #[.slice u0 pv.length v0, .slice u1 lp v1, .slice u2 lg v2, .slice u3 la v3, .slice u4 lb v4] 43) := ⟨_, rfl⟩
  obtain ⟨w4, hw4⟩ : ∃ w4, w4 = w3.alloc (.cells #[.int .i64 (d.np : Int), .int .i64 (d.ns : Int), .int .i64 (d.lm : Int), .slice none 0 0, .slice none 0 0, .slice none 0 0, .slice none 0 0, .slice none 0 0, .slice none 0 0, .slice none 0 0, .int .i64 0, .int .i64 0, .int .i64 0, .bool false] 113) := ⟨_, rfl⟩
  have k3 : Kept [] w2 w3 := by rw [hw3]; exact (Kept.refl [] w2).alloc _
  have k4 : Kept [] w3 w4 := by rw [hw4]; exact (Kept.refl [] w3).alloc _
  have b3 : Blk w3 w2.heap.size 43 [.slice u0 pv.length v0, .slice u1 lp v1, .slice u2 lg v2, .slice u3 la v3, .slice u4 lb v4] := by rw [hw3]; exact Blk.new w2 _ _
  have s3 : w3.heap.size = w2.heap.size + 1 := by rw [hw3]; simp
  have b4 : Blk w4 (w2.heap.size + 1) 113 [.int .i64 (d.np : Int), .int .i64 (d.ns : Int), .int .i64 (d.lm : Int), .slice none 0 0, .slice none 0 0, .slice none 0 0, .slice none 0 0, .slice none 0 0, .slice none 0 0, .slice none 0 0, .int .i64 0, .int .i64 0, .int .i64 0, .bool false] := by rw [hw4, ← s3]; exact Blk.new w3 _ _
  have hrd3 := H2.out.kept k3 (by simp)
  have hrd := hrd3.kept k4 (by simp)
  have c0 := hrd3.blk.cell (j := 0) rfl
  have c1 := hrd3.blk.cell (j := 1) rfl
  have c2 := hrd3.blk.cell (j := 2) rfl
  have c9 := hrd.blk.cell (j := 9) rfl
  have c10 := hrd.blk.cell (j := 10) rfl
  have bC := ((HK0.out.2.2.kept k2 (by simp)).kept k3 (by simp)).kept k4 (by simp)
  have q0 := bC.cell (j := 0) rfl
  have n10 := b4.cell (j := 10) rfl
  have y10 := b4.free 10
  obtain ⟨pl, cl, el, hbs⟩ := hrd.shapes
  rw [el] at c9 hbs
  have hll := HOK.out.log
  have hlt := HOK.out.lasted
  have hlm := HOK.out.lm
  obtain ⟨q, hq⟩ : ∃ q, q = d.log.length - d.lasted := ⟨_, rfl⟩
  have e1 : IntKind.i64.wrap ((d.log.length : Int) - (d.lasted : Int)) = (q : Int) := by rw [show ((d.log.length : Int) - (d.lasted : Int)) = (q : Int) by omega]; exact wrap_i64_of (by omega) (by omega)
  have e2 : IntKind.i64.wrap ((q : Int) + 1) = (q : Int) + 1 := wrap_i64_of (by omega) (by omega)
  have hre := fun w' => rest_any c (q + 1) w' (by omega) (by omega)
  simp only [show (((q + 1 : Nat) : Int)) = (q : Int) + 1 by omega] at hre
  have hr1 := restN_lt c q
  obtain ⟨L, hL⟩ : ∃ L, L = crashLog d c := ⟨_, rfl⟩
  have eL : L = d.lasted + restN c (q + 1) := by rw [hL, hq]; rfl
  obtain ⟨rr, hrr⟩ : ∃ rr, rr = restN c (q + 1) := ⟨_, rfl⟩
  rw [← hrr] at hre hr1 eL
  have e3 : IntKind.i64.wrap ((d.lasted : Int) + (rr : Int)) = (L : Int) := by rw [show (d.lasted : Int) + (rr : Int) = (L : Int) by omega]; exact wrap_i64_of (by omega) (by omega)
  have HL : Hid (L ≤ d.log.length ∧ L = crashLog d c ∧ d.log.length ≤ 65536) := ⟨by omega, hL, by omega⟩
  have HW3 : Hid (w3 = w2.alloc (.cells #[.slice u0 pv.length v0, .slice u1 lp v1, .slice u2 lg v2, .slice u3 la v3, .slice u4 lb v4] 43)) := hw3
  have HW4 : Hid (w4 = w3.alloc (.cells #[.int .i64 (d.np : Int), .int .i64 (d.ns : Int), .int .i64 (d.lm : Int), .slice none 0 0, .slice none 0 0, .slice none 0 0, .slice none 0 0, .slice none 0 0, .slice none 0 0, .slice none 0 0, .int .i64 0, .int .i64 0, .int .i64 0, .bool false] 113)) := hw4
  have HB4 : Hid (Blk w4 (w2.heap.size + 1) 113 [.int .i64 (d.np : Int), .int .i64 (d.ns : Int), .int .i64 (d.lm : Int), .slice none 0 0, .slice none 0 0, .slice none 0 0, .slice none 0 0, .slice none 0 0, .slice none 0 0, .slice none 0 0, .int .i64 0, .int .i64 0, .int .i64 0, .bool false]) := b4
  have HB3 : Hid (Blk w4 w2.heap.size 43 [.slice u0 pv.length v0, .slice u1 lp v1, .slice u2 lg v2, .slice u3 la v3, .slice u4 lb v4]) := b3.kept k4 (by simp)
  have HBC : Hid (Blk w4 w.heap.size 39 [.int .i64 c, .slice pk keep.length ck]) := bC
  have HRD : Hid (RD w4 g d R) := hrd
  have HKK : Hid (Kept [] w w2 ∧ Kept [] w2 w3 ∧ Kept [] w3 w4) := ⟨HK0.out.1.then k2, k3, k4⟩
  have S3 : Hid (w3.heap.size = w2.heap.size + 1) := s3
  have ngB : ¬ g = w2.heap.size + 1 := by have := hrd3.blk.lt; omega
  have ncB : ¬ w.heap.size = w2.heap.size + 1 := by have := (HK0.out.1.then k2).size; have := S3.out; have := HK0.out.2.1; omega
  rw [hw3] at c0 c1 c2
  clear s3 k2 hV hlp hla hlb hlg hw3 hw4 k3 k4 b3 b4 hrd3 hrd bC el hll hlt hlm hq hL eL hrr hr1
  go_wp2_with fail
  rw [← HW3.out, ← HW4.out]
  obtain ⟨b5, k5⟩ := HB4.out.set 10 (.int .i64 (L : Int))
  have z9 := k5.cell c9 (by simpa using ngB)
  have z10 := k5.cell c10 (by simpa using ngB)
  have zq := k5.cell q0 (by simpa using ncB)
  go_region_held3 (fun w' => w'.cell? ⟨g, 9, none⟩ = some (.slice pl d.log.length cl) ∧ w'.cell? ⟨g, 10, none⟩ = some (.int .i64 (d.lasted : Int)) ∧ w'.cell? ⟨w.heap.size, 0, none⟩ = some (.int .i64 c))
    (first
      | (with_reducible exact ⟨c9, c10, q0⟩)
      | (exact ⟨z9, z10, zq⟩)
      | go_keep)
    (first
      | (go_at_call 81; refine (hre _).mono ?_; rintro e w5 ⟨rfl, rfl⟩)
      | fail)
  obtain ⟨w5, hw5⟩ : ∃ w5, w5 = (w4.setCell ⟨w2.heap.size + 1, 10, none⟩ (.int .i64 (L : Int))).drew := ⟨_, rfl⟩
  have k5' : Kept [w2.heap.size + 1] w4 w5 := by rw [hw5]; exact k5.drew
  have b5' : Blk w5 (w2.heap.size + 1) 113 [.int .i64 (d.np : Int), .int .i64 (d.ns : Int), .int .i64 (d.lm : Int), .slice none 0 0, .slice none 0 0, .slice none 0 0, .slice none 0 0, .slice none 0 0, .slice none 0 0, .slice none 0 0, .int .i64 (L : Int), .int .i64 0, .int .i64 0, .bool false] := by rw [hw5]; exact b5
  have hfar : ∀ x ∈ [w2.heap.size + 1], x ∉ R.foot g := fun x hx hm => by
    have := H2.out.lt hm
    simp at hx
    omega
  have hrd5 := HRD.out.kept k5' hfar
  have hbs5 : Bs w5 (.slice pl d.log.length cl) d.log := by
    have := hrd5.shapes
    obtain ⟨p', c', e', hb'⟩ := this
    have z := hrd5.blk.cell (j := 9) rfl
    rw [show w5.cell? ⟨g, 9, none⟩ = some (.slice pl d.log.length cl) by rw [hw5]; exact z9] at z
    simp at z
    rw [z]
    exact hb'
  obtain ⟨p2, hcut, -, hb2, -⟩ := hbs5.cuts (P := Try.prog) 33 5 Try.underlying33 (by kernel_rfl) L HL.out.1
  have hcp := copied_from _ _ hb2 (by simp; have := HL.out; omega)
  have hlen : (d.log.take L).length = L := by have := HL.out.1; simp; omega
  rw [hlen] at hcp
  have t9 := k5'.cell c9 (by simpa using ngB)
  have n10 := b5'.cell (j := 10) rfl
  have n9 := b5'.cell (j := 9) rfl
  have y9 := b5'.free 9
  have HW5 : Hid (w5 = (w4.setCell ⟨w2.heap.size + 1, 10, none⟩ (.int .i64 (L : Int))).drew) := hw5
  have HRD5 : Hid (RD w5 g d R) := hrd5
  have HB5 : Hid (Blk w5 (w2.heap.size + 1) 113 [.int .i64 (d.np : Int), .int .i64 (d.ns : Int), .int .i64 (d.lm : Int), .slice none 0 0, .slice none 0 0, .slice none 0 0, .slice none 0 0, .slice none 0 0, .slice none 0 0, .slice none 0 0, .int .i64 (L : Int), .int .i64 0, .int .i64 0, .bool false]) := b5'
  have K5 : Hid (Kept [w2.heap.size + 1] w4 w5) := k5'
  clear b5 k5 z9 z10 zq c9 c10 q0 y10 e1 e2 e3 hre hbs hw5 hrd5 hbs5 hb2 b5' k5' hlen hfar
  rw [← HW5.out]
  go_wp2_with fail
  go_region_held3 (fun w' => w'.cell? ⟨g, 9, none⟩ = some (.slice pl d.log.length cl) ∧ w'.cell? ⟨w2.heap.size + 1, 10, none⟩ = some (.int .i64 (L : Int)))
    (first
      | (with_reducible exact ⟨t9, n10⟩)
      | (with_reducible exact ⟨f9, f10⟩)
      | (exact ⟨z9, z10⟩)
      | go_keep)
    (first
      | (go_at_call 72; refine (hcp _ (by first | (with_reducible exact Kept.refl _ _) | (with_reducible exact (Kept.refl _ _).drew))).mono ?_; clear hcp; rintro e w6 ⟨pB, cB, rfl, oB, kB, kB0⟩
         have f9 := kB.cell t9 (by simp)
         have f10 := kB.cell n10 (by simp)
         have b6 := HB5.out.kept kB (by simp)
         have m9 := b6.cell (j := 9) rfl
         have o9 := b6.free 9
         obtain ⟨b7, k7⟩ := b6.set 9 (.slice pB L cB)
         have z9 := k7.cell f9 (by simpa using ngB)
         have z10 := b7.cell (j := 10) rfl)
      | fail)
  obtain ⟨w7, hw7⟩ : ∃ w7, w7 = w6.setCell ⟨w2.heap.size + 1, 9, none⟩ (.slice pB L cB) := ⟨_, rfl⟩
  have k67 : Kept [w2.heap.size + 1] w6 w7 := by rw [hw7]; exact k7
  have k57 : Kept [w2.heap.size + 1] w5 w7 := (kB.mono (by simp)).trans k67 (by intro x hx; exact .inl hx)
  have k47 : Kept [w2.heap.size + 1] w4 w7 := K5.out.trans k57 (by intro x hx; exact .inl hx)
  have k27 : Kept [] w2 w7 := (HKK.out.2.1.then HKK.out.2.2).trans k47 (by intro x hx; simp at hx; exact .inr (by omega))
  have A1 : Hid (RD w7 g d R) := H2.out.kept k27 (by simp)
  have A2 : Hid (Blk w7 (w2.heap.size + 1) 113 [.int .i64 (d.np : Int), .int .i64 (d.ns : Int), .int .i64 (d.lm : Int), .slice none 0 0, .slice none 0 0, .slice none 0 0, .slice none 0 0, .slice none 0 0, .slice none 0 0, .slice pB L cB, .int .i64 (L : Int), .int .i64 0, .int .i64 0, .bool false]) := (by rw [hw7]; exact b7)
  have A3 : Hid (Blk w7 w2.heap.size 43 [.slice u0 pv.length v0, .slice u1 lp v1, .slice u2 lg v2, .slice u3 la v3, .slice u4 lb v4]) := HB3.out.kept k47 (by simp)
  have A4 : Hid (Blk w7 w.heap.size 39 [.int .i64 c, .slice pk keep.length ck]) := HBC.out.kept k47 (by simpa using ncB)
  have A5 : Hid (OwnIm w7 w0.heap.size ⟨.slice u0 pv.length v0, pv, .slice u1 lp v1, .slice u2 lg v2, .slice u3 la v3, .slice u4 lb v4⟩ d.lasts) := HV.out.kept0 k27
  have hw5s : w2.heap.size + 1 < w5.heap.size := HB5.out.lt
  have A6 : Hid (w7.ownsRow w5.heap.size 5 1 (.slice pB L cB) L (u8s (d.log.take L)) ∧ w2.heap.size + 1 < w5.heap.size) := ⟨own_of_kept oB k67 (fun x hx hm => by have h5 : w5.heap.size ≤ x := own_ge oB x hx; simp at hm; omega), hw5s⟩
  have A7 : Hid (Kept [] w w7) := HKK.out.1.then k27
  have A8 : Hid (Is w7 (.slice pk keep.length ck) keep) := HKP.out.kept (HKK.out.1.then k27)
  obtain ⟨bl, hbl⟩ : ∃ bl, bl = blocks (Value.slice u2 lg v2 :: IV.tail ⟨.slice u0 pv.length v0, pv, .slice u1 lp v1, .slice u2 lg v2, .slice u3 la v3, .slice u4 lb v4⟩) := ⟨_, rfl⟩
  have HBL : Hid (∀ x, x ∈ bl → w.heap.size + 1 ≤ x ∧ x < w2.heap.size) := (show ∀ x, x ∈ bl → w.heap.size + 1 ≤ x ∧ x < w2.heap.size from fun x hx => by
    rw [hbl] at hx
    obtain ⟨q, vv, hq, hqx⟩ := blocks_mem hx
    have := HV.out.fam.lt q vv x hq hqx
    have := HK0.out.2.1
    omega)
  have HBLE : Hid (bl = blocks (Value.slice u2 lg v2 :: IV.tail ⟨.slice u0 pv.length v0, pv, .slice u1 lp v1, .slice u2 lg v2, .slice u3 la v3, .slice u4 lb v4⟩)) := hbl
  have S0 : Hid (w0.heap.size = w.heap.size + 1 ∧ w0.heap.size ≤ w2.heap.size) := ⟨HK0.out.2.1, S02.out⟩
  have HW7 : Hid (w7 = w6.setCell ⟨w2.heap.size + 1, 9, none⟩ (.slice pB L cB)) := hw7
  rw [← HW7.out]
  clear hw7 k67 k57 k47 k27 hbl hw5s oB kB kB0 f9 f10 b6 m9 o9 b7 k7 z9 z10 t9 n10 n9 y9 hcut HB5 HRD5 K5 HRD HBC HB3 HB4 HW5 HW4 HW3 H2 H0 HV HKK
  go_wp2_with fail
  go_loopw [7] (fun i wr => ∃ k : Nat, k ≤ d.loose.length ∧ i = .int .i64 k ∧ OwnIm wr w0.heap.size ⟨.slice u0 pv.length v0, pv, .slice u1 lp v1, .slice u2 lg v2, .slice u3 la v3, .slice u4 lb v4⟩ (imOf d.np (crashRows keep (d.loose.take k) 0 d.rows) (d.log.take d.lasted)) ∧ Kept bl w7 wr) (fun i _ => d.loose.length - (intOf i).toNat)
  case atStart => exact ⟨0, Nat.zero_le _, rfl, A5.out, Kept.refl _ _⟩
  case round =>
    obtain ⟨k, hk, rfl, hV, kr⟩ := hrel
    have nf : ∀ x ∈ bl, x ∉ R.foot g := fun x hx hm => by have := HBL.out x hx; have := HLT.out x hm; omega
    have nC : w.heap.size ∉ bl := fun hm => by have := HBL.out _ hm; omega
    have nM : w2.heap.size ∉ bl := fun hm => by have := HBL.out _ hm; omega
    have nB : w2.heap.size + 1 ∉ bl := fun hm => by have := HBL.out _ hm; omega
    have hrd := A1.out.kept kr nf
    have c8 := hrd.blk.cell (j := 8) rfl
    obtain ⟨pz, cz, ez, hz1, hz2⟩ := hrd.loose.shape
    rw [ez] at c8
    have bC := A4.out.kept kr nC
    have bM := A3.out.kept kr nM
    have bD := A2.out.kept kr nB
    have C1 := bC.cell (j := 1) rfl
    by_cases hlt : k < d.loose.length
    · obtain ⟨lbk, cc, pl, nu, bp, bc, ix, b, e1, d0, d1, d2, hx, hy, hix, hob, hk2⟩ := hrd.looseAt2 hlt
      rw [ez] at e1
      cases e1
      have hlt' : (k : Int) < (d.loose.length : Int) := by omega
      have wk : IntKind.i64.wrap ((k : Int) + 1) = (k : Int) + 1 := wrap_i64_of (by omega) (by unfold maxLen at hz2; omega)
      have hnext := crash_take (keep := keep) (rows := d.rows) hx
      by_cases hkl : keep.length = 0
      · have ek : keepAt keep k = 0 := by
          unfold keepAt
          have : keep = [] := List.length_eq_zero_iff.1 hkl
          subst this
          rfl
        rw [ek] at hnext
        have hnext' : crashRows keep (d.loose.take (k + 1)) 0 d.rows = crashRows keep (d.loose.take k) 0 d.rows := hnext
        have HN : Hid (OwnIm wr w0.heap.size ⟨.slice u0 pv.length v0, pv, .slice u1 lp v1, .slice u2 lg v2, .slice u3 la v3, .slice u4 lb v4⟩ (imOf d.np (crashRows keep (d.loose.take (k + 1)) 0 d.rows) (d.log.take d.lasted))) := (by rw [hnext']; exact hV)
        rw [hkl] at C1
        clear hnext hnext' hV hrd bC bM bD hob hz1 hz2 ez ek nf nC nM nB
        go_wp2
        go_roundw
        case rel => exact ⟨k + 1, by omega, by go_num, HN.out.kept0 ((Kept.refl [] wr).alloc _), kr.then ((Kept.refl [] wr).alloc _)⟩
        case measure => simp [intOf]; omega
      · obtain ⟨kb, ko, kc, eK, hkb, hkc⟩ := HKP.out.pos (by omega)
        cases eK
        have hkl' : (0 : Int) < (keep.length : Int) := by omega
        have hkl0 : ¬ (keep.length : Int) = 0 := by omega
        have hmod : k % keep.length < keep.length := Nat.mod_lt _ (by omega)
        obtain ⟨kk, hkk⟩ : ∃ x, keep[k % keep.length]? = some x := ⟨_, List.getElem?_eq_getElem hmod⟩
        have hwk := wrap_i64_range (HKP.out.wrap (List.mem_of_getElem? hkk))
        have ek : keepAt keep k = kk := by unfold keepAt; simp [List.getD, hkk]
        have kc0 := kr.cell (A7.out.cell (hkc _ _ hkk) (by simp)) (fun hm => by have := HBL.out _ hm; simp at this; omega)
        rw [ek] at hnext
        obtain ⟨j, hj⟩ : ∃ j, j = k % keep.length := ⟨_, rfl⟩
        rw [← hj] at hmod hkk kc0
        have hmod' : (j : Int) < (keep.length : Int) := by omega
        have hjk : j ≤ k := by rw [hj]; exact Nat.mod_le _ _
        have r1 : (k : Int) % (keep.length : Int) = (j : Int) := by rw [hj]; rfl
        have r2 : (k : Int).tmod (keep.length : Int) = (j : Int) := by rw [Int.tmod_eq_emod_of_nonneg (by omega), r1]
        have r3 : IntKind.i64.wrap (j : Int) = (j : Int) := wrap_i64_of (by omega) (by unfold maxLen at hz2; omega)
        clear hjk
        obtain ⟨i0, i1, i2, i3, i4⟩ := bM.five.1
        have hsz : Sized d.np d.ns (crashRows keep (d.loose.take k) 0 d.rows) ∧ (crashRows keep (d.loose.take k) 0 d.rows).length = d.rows.length := crashRows_sized keep _ 0 _ HOK.out.row fun x hx => (HOK.out.loose x (List.mem_of_mem_take hx)).2
        have hr := hsz.2.trans HOK.out.len
        have hbl : b.length = ((crashRows keep (d.loose.take k) 0 d.rows).getD ix []).length := by rw [hsz.1 ix _ (getD_some (by have := idxOf_lt hix; omega))]; exact hk2
        have hl := fun (n : Nat) (w' : World) (hn : n ≤ b.length) (kk : Kept [] wr w') => lay_im ⟨.slice u0 pv.length v0, pv, .slice u1 lp v1, .slice u2 lg v2, .slice u3 la v3, .slice u4 lb v4⟩ d.np w0.heap.size (crashRows keep (d.loose.take k) 0 d.rows) (d.log.take d.lasted) b (.slice bp b.length bc) pl nu ix n w' (hV.kept0 kk) hr hix ((Bs.ofOwn hob).kept kk) hbl hn (fun x hx e => by
          rw [← HBLE.out] at hx
          have h1 := HBL.out x hx
          have h2 : x ∈ R.foot g := by
            unfold RDat.foot
            refine List.mem_cons_of_mem _ (List.mem_append_right _ (List.mem_filterMap.2 ⟨.slice bp b.length bc, ?_, e⟩))
            unfold RDat.rows RDat.tail
            exact List.mem_cons_of_mem _ (List.mem_append_right _ (List.mem_map.2 ⟨_, List.mem_of_getElem? hy, rfl⟩))
          have := HLT.out x h2
          omega)
        rw [← HBLE.out] at hl
        unfold IV.agg at hl
        simp only at hl
        have HR : Hid (∀ m wx, Kept bl w7 wx → OwnIm wx w0.heap.size ⟨.slice u0 pv.length v0, pv, .slice u1 lp v1, .slice u2 lg v2, .slice u3 la v3, .slice u4 lb v4⟩ (imOf d.np m (d.log.take d.lasted)) → m = crashLay (crashRows keep (d.loose.take k) 0 d.rows) (ix, b) kk → OwnIm wx w0.heap.size ⟨.slice u0 pv.length v0, pv, .slice u1 lp v1, .slice u2 lg v2, .slice u3 la v3, .slice u4 lb v4⟩ (imOf d.np (crashRows keep (d.loose.take (k + 1)) 0 d.rows) (d.log.take d.lasted)) ∧ Kept bl w7 wx) := (fun m wx hkx hm e => by rw [hnext, ← e]; exact ⟨hm, hkx⟩)
        have HVV : Hid (OwnIm wr w0.heap.size ⟨.slice u0 pv.length v0, pv, .slice u1 lp v1, .slice u2 lg v2, .slice u3 la v3, .slice u4 lb v4⟩ (imOf d.np (crashRows keep (d.loose.take k) 0 d.rows) (d.log.take d.lasted))) := hV
        have HBN : Hid (b.length ≤ 168) := (show b.length ≤ 168 by rw [hk2]; exact sizeK_le _ _ _ HOK.out.ns.2)
        have HM : Hid (wr.heap.size ∉ bl) := (show wr.heap.size ∉ bl from fun hm => by have := HBL.out _ hm; have := bM.lt; omega)
        clear hnext hV hrd bC bM bD hob hz1 hz2 ez ek nf nC nB hsz hr hbl hk2 hkc hkk hj hy hx hix
        go_wp2
        go_region_held3 (fun w' => w'.cell? ⟨w.heap.size, 1, none⟩ = some (.slice (some ⟨kb, ko, none⟩) keep.length ck) ∧ w'.cell? ⟨kb, ko + j, none⟩ = some (.int .i64 kk)) (first | (with_reducible exact ⟨C1, kc0⟩) | go_keep) (fail)
        have ka : Kept [] wr (wr.alloc (.cells #[.int .i64 pl, .int .i64 nu, .slice bp b.length bc] 116)) := (Kept.refl [] wr).alloc _
        have ba : Blk (wr.alloc (.cells #[.int .i64 pl, .int .i64 nu, .slice bp b.length bc] 116)) wr.heap.size 116 [.int .i64 pl, .int .i64 nu, .slice bp b.length bc] := Blk.new wr _ _
        have a0 := ba.cell (j := 0) rfl
        have a1 := ba.cell (j := 1) rfl
        have a2 := ba.cell (j := 2) rfl
        have j0 := ka.cell i0 (by simp)
        have j1 := ka.cell i1 (by simp)
        have j2 := ka.cell i2 (by simp)
        have j3 := ka.cell i3 (by simp)
        have j4 := ka.cell i4 (by simp)
        by_cases h1 : kk = 1
        · subst h1
          go_wp2_with fail
          refine (hl b.length _ (Nat.le_refl _) (by exact ka.drew)).mono ?_
          rintro e w8 ⟨⟨vv, rfl⟩, hV8, kL⟩
          have kN : Kept bl w7 w8 := (kr.then ka.drew).trans kL (by intro x hx; exact .inl hx)
          have hfin := HR.out _ w8 kN hV8 rfl
          clear hl a0 a1 a2 j0 j1 j2 j3 j4 hV8 kL
          go_wp2
          go_roundw
          case rel => exact ⟨k + 1, by omega, by go_num, hfin.1, hfin.2⟩
          case measure => simp [intOf]; omega
        · by_cases h2 : 2 ≤ kk
          · have h2' : ¬ kk = 1 := h1
            have e5 : IntKind.i64.wrap (kk - 1) = kk - 1 := wrap_i64_of (by omega) (by omega)
            have e6 : IntKind.i64.wrap ((b.length : Int) + 1) = (b.length : Int) + 1 := wrap_i64_of (by omega) (by have := HBN.out; omega)
            have hre := fun w' => rest_any (kk - 1) (b.length + 1) w' (by omega) (by have := HBN.out; omega)
            simp only [show (((b.length + 1 : Nat) : Int)) = (b.length : Int) + 1 by omega] at hre
            have hr1 := restN_lt (kk - 1) b.length
            have HE : Hid (∀ rows, layR rows ix b (restN (kk - 1) (b.length + 1)) = crashLay rows (ix, b) kk) := (fun rows => by unfold crashLay; rw [if_neg h1, if_pos h2])
            have hl2 := fun w' kkk => hl (restN (kk - 1) (b.length + 1)) w' hr1 kkk
            generalize restN (kk - 1) (b.length + 1) = rr at *
            clear hl hr1 hwk
            go_wp2
            go_region_held3 (fun w' => (w'.cell? ⟨w2.heap.size, 0, none⟩ = some (.slice u0 pv.length v0) ∧ w'.cell? ⟨w2.heap.size, 1, none⟩ = some (.slice u1 lp v1) ∧ w'.cell? ⟨w2.heap.size, 2, none⟩ = some (.slice u2 lg v2) ∧ w'.cell? ⟨w2.heap.size, 3, none⟩ = some (.slice u3 la v3) ∧ w'.cell? ⟨w2.heap.size, 4, none⟩ = some (.slice u4 lb v4)) ∧
                w'.cell? ⟨wr.heap.size, 0, none⟩ = some (.int .i64 pl) ∧ w'.cell? ⟨wr.heap.size, 1, none⟩ = some (.int .i64 nu) ∧ w'.cell? ⟨wr.heap.size, 2, none⟩ = some (.slice bp b.length bc))
              (first
                | (exact ⟨⟨j0, j1, j2, j3, j4⟩, a0, a1, a2⟩)
                | (exact ⟨⟨kL.cell j0 nM, kL.cell j1 nM, kL.cell j2 nM, kL.cell j3 nM, kL.cell j4 nM⟩, kL.cell a0 HM.out, kL.cell a1 HM.out, kL.cell a2 HM.out⟩)
                | go_keep)
              (first
                | (go_at_call 81; refine (hre _).mono ?_; rintro e w5 ⟨rfl, rfl⟩)
                | (go_at_call 73; refine (hl2 _ (by first | (with_reducible exact ka) | (with_reducible exact ka.drew) | (with_reducible exact ka.drew.drew))).mono ?_; rintro e w8 ⟨⟨vv, rfl⟩, hV8, kL⟩)
                | fail)
            have kN : Kept bl w7 w8 := (kr.then ka).trans ⟨kL.os, kL.tape, kL.output, kL.size, kL.block⟩ (by intro x hx; exact .inl hx)
            have hfin := HR.out _ w8 kN hV8 (HE.out _)
            clear hl2 a0 a1 a2 j0 j1 j2 j3 j4 hV8 kL
            go_wp2
            go_roundw
            case rel => exact ⟨k + 1, by omega, by go_num, hfin.1, hfin.2⟩
            case measure => simp [intOf]; omega
          · have hfin := HR.out _ (wr.alloc (.cells #[.int .i64 pl, .int .i64 nu, .slice bp b.length bc] 116)).drew (kr.then ka.drew) (HVV.out.kept0 ka.drew) (by unfold crashLay; rw [if_neg h1, if_neg h2])
            clear hl a0 a1 a2 j0 j1 j2 j3 j4
            go_wp2
            go_roundw
            case rel => exact ⟨k + 1, by omega, by go_num, hfin.1, hfin.2⟩
            case measure => simp [intOf]; omega
    · obtain rfl : k = d.loose.length := by omega
      rw [List.take_length] at hV
      have hne : w2.heap.size + 1 ∉ [w2.heap.size] := by simp
      obtain ⟨bM2, kM2⟩ := bM.set 2 (.slice none 0 0)
      have bD2 := bD.kept kM2 hne
      have t2 := bM.cell (j := 2) rfl
      have f2 := bM.free 2
      obtain ⟨⟨i0, i1, i2, i3, i4⟩, -⟩ := Blk.five (show Blk _ w2.heap.size 43 [.slice u0 pv.length v0, .slice u1 lp v1, .slice none 0 0, .slice u3 la v3, .slice u4 lb v4] from bM2)
      have n3 := bD2.cell (j := 3) rfl
      have n4 := bD2.cell (j := 4) rfl
      have n5 := bD2.cell (j := 5) rfl
      have n6 := bD2.cell (j := 6) rfl
      have n7 := bD2.cell (j := 7) rfl
      have y3 := bD2.free 3
      have y4 := bD2.free 4
      have y5 := bD2.free 5
      have y6 := bD2.free 6
      have y7 := bD2.free 7
      obtain ⟨x3, l3⟩ := bD2.set 3 (.slice u0 pv.length v0)
      obtain ⟨x4, l4⟩ := x3.set 4 (.slice u1 lp v1)
      obtain ⟨x5, l5⟩ := x4.set 5 (.slice none 0 0)
      obtain ⟨x6, l6⟩ := x5.set 6 (.slice u3 la v3)
      obtain ⟨x7, l7⟩ := x6.set 7 (.slice u4 lb v4)
      have lall : Kept [w2.heap.size, w2.heap.size + 1] wr _ := (kM2.mono (T := [w2.heap.size, w2.heap.size + 1]) (by simp)).trans ((((l3.trans l4 (by simp)).trans l5 (by simp)).trans l6 (by simp)).trans l7 (by simp)) (by simp)
      have o6 := own_mono (own_of_kept A6.out.1 kr (fun x hx hm => by have := own_ge A6.out.1 x hx; have := HBL.out x hm; have := A6.out.2; omega)) (show w0.heap.size ≤ w5.heap.size by have := S0.out; have := A6.out.2; omega)
      have hll : (d.log.take L).length = L := by have := HL.out.1; simp; omega
      have hsw := hV.swapLog (v := .slice pB L cB) (l := d.log.take L) (by rw [hll]; exact o6) (fun x hx hm => by
        have h1 := own_ge A6.out.1 x hx
        obtain ⟨q, vv, hq, hqx⟩ := blocks_mem hm
        have h2 : x ∈ bl := by rw [HBLE.out]; exact mem_blocks (k := q + 1) hq hqx
        have := HBL.out x h2
        have := A6.out.2
        omega)
      have nM8 := bM.not8 (by decide)
      have nD8 := bD.not8 (by decide)
      have hfin : OwnIm _ w0.heap.size ⟨.slice u0 pv.length v0, pv, .slice u1 lp v1, .slice pB L cB, .slice u3 la v3, .slice u4 lb v4⟩ (imOf d.np (crashRows keep d.loose 0 d.rows) (d.log.take L)) := ⟨hsw.fam.kept lall (by intro x hx; simp at hx; rcases hx with rfl | rfl; exact .inl nM8; exact .inl nD8), own_of_kept hsw.row lall (fun x hx hm => by simp at hm; rcases hm with rfl | rfl; exact bM.far hsw.row (by decide) _ hx rfl; exact bD.far hsw.row (by decide) _ hx rfl), hsw.len⟩
      obtain ⟨g1, g2⟩ := RD.make2 (d := d.crash c keep) (g := w2.heap.size + 1) (vl := .slice none 0 0) (HOK.out.crash c keep) (by rw [HL.out.2.1] at hfin; exact hfin) rfl ⟨none, 0, rfl, by unfold maxLen; omega, fun _ => rfl⟩ (by rw [HL.out.2.1] at x7; exact x7) (by have := S0.out; omega)
      have G1 : Hid (RD _ (w2.heap.size + 1) (d.crash c keep) (freshV _ (.slice none 0 0))) := g1
      have kZ : Kept [] w _ := (A7.out.trans kr (fun x hx => .inr (by have := HBL.out x hx; omega))).trans lall (by intro x hx; have := S0.out; simp at hx; exact .inr (by omega))
      clear hfin hsw g1
      go_wp2
      go_ret
      exact ⟨_, _, rfl, G1.out, fun x hx => by have := g2 x hx; have := S0.out; omega, kZ⟩
end Go.Proofs.Ytmipmiaflompmaa

/-
  OWN WORK. The document's disk, by its pointer and the blocks that are its own: one form for all calls.
-/
namespace Go.Proofs.Ytmipmiaflompmaa
open Go.RowKit
set_option linter.unusedVariables false

/-- the blocks F turn, and F' is what is owned then -/
def Next (w w' : World) (F F' : List Nat) : Prop := Kept F w w' ∧ ∀ x ∈ F', x ∈ F ∨ w.heap.size ≤ x
theorem Next.of {w w' : World} {S F F' : List Nat} (k : Kept S w w') (hS : ∀ x ∈ S, x ∈ F) (h : ∀ x ∈ F', x ∈ F ∨ w.heap.size ≤ x) : Next w w' F F' := ⟨k.mono hS, h⟩
/-- a pointer that is no nil -/
def IsPtr (v : Value) : Prop := ∃ g, v = .pointer (some ⟨g, 0, none⟩)
/-- a disk of the document's at v tells d; F: its blocks -/
def QD (w : World) (v : Value) (d : DS) (F : List Nat) : Prop := ∃ g R, v = .pointer (some ⟨g, 0, none⟩) ∧ RD w g d R ∧ F = R.foot g
theorem QD.ptr {w : World} {v : Value} {d : DS} {F : List Nat} (h : QD w v d F) : IsPtr v := by
  obtain ⟨g, R, rfl, -, -⟩ := h
  exact ⟨g, rfl⟩
theorem QD.ok {w : World} {v : Value} {d : DS} {F : List Nat} (h : QD w v d F) : d.Ok := by
  obtain ⟨g, R, -, h, -⟩ := h
  exact h.ok
theorem QD.lt {w : World} {v : Value} {d : DS} {F : List Nat} (h : QD w v d F) : ∀ x ∈ F, x < w.heap.size := by
  obtain ⟨g, R, -, h, rfl⟩ := h
  exact fun x hx => h.lt hx
theorem QD.kept {w w' : World} {v : Value} {d : DS} {F S : List Nat} (h : QD w v d F) (k : Kept S w w') (hS : ∀ x ∈ S, x ∉ F) : QD w' v d F := by
  obtain ⟨g, R, e, h, rfl⟩ := h
  exact ⟨g, R, e, h.kept k hS, rfl⟩
theorem foot_self {R : RDat} {g : Nat} : g ∈ R.foot g := by simp [RDat.foot]
theorem foot_loose {R : RDat} {g x : Nat} (h : x ∈ g :: R.vloose.ownBlock.toList) : x ∈ R.foot g := by
  unfold RDat.foot
  rcases List.mem_cons.1 h with e | e
  · simp [e]
  · exact List.mem_cons_of_mem _ (List.mem_append_left _ (List.mem_append_right _ e))
theorem qHalts (v : Value) (d : DS) (F : List Nat) (n : Int) (w : World) (h : QD w v d F) (hn : IntKind.i64.wrap n = n) :
    Calls Try.prog 63 #[v, .int .i64 n] w fun e w' => (∃ r, e = .returned r) ∧ QD w' v (d.halts n) F ∧ Next w w' F F := by
  obtain ⟨g, R, rfl, h, rfl⟩ := h
  refine (halts_any g d R n w h hn).mono ?_
  rintro e w' ⟨h1, h2, h3⟩
  exact ⟨h1, ⟨g, R, rfl, h2, rfl⟩, Next.of h3 (by intro x hx; simp at hx; subst hx; exact foot_self) (fun x hx => .inl hx)⟩
theorem qSyncLog (v : Value) (d : DS) (F : List Nat) (w : World) (h : QD w v d F) :
    Calls Try.prog 85 #[v] w fun e w' => ∃ F', e = .returned (.int .i64 (aliveE d)) ∧ QD w' v d.syncLog F' ∧ Next w w' F F' := by
  obtain ⟨g, R, rfl, h, rfl⟩ := h
  refine (syncLog_any g d R w h).mono ?_
  rintro e w' ⟨h1, h2, h3⟩
  exact ⟨_, h1, ⟨g, R, rfl, h2, rfl⟩, Next.of h3 (by intro x hx; simp at hx; subst hx; exact foot_self) (fun x hx => .inl hx)⟩
theorem qCut (v : Value) (d : DS) (F : List Nat) (n : Int) (w : World) (h : QD w v d F) :
    Calls Try.prog 86 #[v, .int .i64 n] w fun e w' => ∃ F', e = .returned (.int .i64 (cutE d n)) ∧ QD w' v (d.cut n) F' ∧ Next w w' F F' := by
  obtain ⟨g, R, rfl, h, rfl⟩ := h
  refine (cut_any g d R n w h).mono ?_
  rintro e w' ⟨R', h1, h2, h3, h4⟩
  exact ⟨_, h1, ⟨g, R', rfl, h2, rfl⟩, Next.of h3 (by intro x hx; simp at hx; subst hx; exact foot_self) h4⟩
theorem qAppend (v : Value) (d : DS) (F : List Nat) (u : Value) (b : List UInt8) (w : World) (h : QD w v d F) (hu : Bs w u b) (hne : b ≠ [] → ∀ x, u.ownBlock = some x → x ∉ F) :
    Calls Try.prog 84 #[v, u] w fun e w' => ∃ F', e = .returned (.int .i64 (appendE d b)) ∧ QD w' v (d.append b) F' ∧ Next w w' F F' := by
  obtain ⟨g, R, rfl, h, rfl⟩ := h
  refine (append_any g d R u b w h hu (fun h0 e => hne h0 g e foot_self)).mono ?_
  rintro e w' ⟨R', h1, h2, h3, h4⟩
  exact ⟨_, h1, ⟨g, R', rfl, h2, rfl⟩, Next.of h3 (by intro x hx; simp at hx; subst hx; exact foot_self) h4⟩
theorem qWrite (v : Value) (d : DS) (F : List Nat) (p n : Int) (u : Value) (b : List UInt8) (w : World) (h : QD w v d F) (hu : Bs w u b) (hne : b ≠ [] → ∀ x, u.ownBlock = some x → x ∉ F) (hcap : (d.loose.length + 1) * 40 ≤ 140737488355328) :
    Calls Try.prog 82 #[v, .int .i64 p, .int .i64 n, u] w fun e w' => ∃ F', e = .returned (.int .i64 (writeE d (idxOf d.np p n) b)) ∧ QD w' v (d.write (idxOf d.np p n) b) F' ∧ Next w w' F F' := by
  obtain ⟨g, R, rfl, h, rfl⟩ := h
  refine (write_any g d R p n u b w h hu (fun h0 e => hne h0 g e foot_self) hcap).mono ?_
  rintro e w' ⟨R', h1, h2, h3, h4⟩
  exact ⟨_, h1, ⟨g, R', rfl, h2, rfl⟩, Next.of h3 (fun x hx => foot_loose hx) h4⟩
theorem qSync (v : Value) (d : DS) (F : List Nat) (m : Bool) (w : World) (h : QD w v d F) (hcap : d.loose.length * 40 ≤ 140737488355328) :
    Calls Try.prog 83 #[v, .bool m] w fun e w' => ∃ F', e = .returned (.int .i64 (aliveE d)) ∧ QD w' v (d.sync m) F' ∧ Next w w' F F' := by
  obtain ⟨g, R, rfl, h, rfl⟩ := h
  refine (sync_any g d R m w h hcap).mono ?_
  rintro e w' ⟨R', h1, h2, h3, h4⟩
  exact ⟨_, h1, ⟨g, R', rfl, h2, rfl⟩, h3, h4⟩
theorem qRead (v : Value) (d : DS) (F : List Nat) (p n : Int) (w : World) (h : QD w v d F) :
    Calls Try.prog 87 #[v, .int .i64 p, .int .i64 n] w fun e w' => ∃ c F', e = .returned (.tuple #[c, .int .i64 (readE d (idxOf d.np p n))]) ∧ w'.ownsRow w.heap.size 5 1 c (readL d (idxOf d.np p n)).length (u8s (readL d (idxOf d.np p n))) ∧ (∀ x, c.ownBlock = some x → x ∉ F') ∧ QD w' v d.act F' ∧ Next w w' F F' := by
  obtain ⟨g, R, rfl, h, rfl⟩ := h
  refine (read_any g d R p n w h).mono ?_
  rintro e w' ⟨c, h1, h2, h3, h4⟩
  exact ⟨c, _, h1, h2, fun x hx hm => by have h8 := own_ge h2 x hx; have h9 := h.lt hm; omega, ⟨g, R, rfl, h3, rfl⟩, Next.of h4 (by intro x hx; simp at hx; subst hx; exact foot_self) (fun x hx => .inl hx)⟩
theorem qReadLog (v : Value) (d : DS) (F : List Nat) (f n : Int) (w : World) (h : QD w v d F) :
    Calls Try.prog 88 #[v, .int .i64 f, .int .i64 n] w fun e w' => ∃ c F', e = .returned (.tuple #[c, .int .i64 (readLogE d f n)]) ∧ w'.ownsRow w.heap.size 5 1 c (readLogL d f n).length (u8s (readLogL d f n)) ∧ (∀ x, c.ownBlock = some x → x ∉ F') ∧ QD w' v d.act F' ∧ Next w w' F F' := by
  obtain ⟨g, R, rfl, h, rfl⟩ := h
  refine (readLog_any g d R f n w h).mono ?_
  rintro e w' ⟨c, h1, h2, h3, h4⟩
  exact ⟨c, _, h1, h2, fun x hx hm => by have h8 := own_ge h2 x hx; have h9 := h.lt hm; omega, ⟨g, R, rfl, h3, rfl⟩, Next.of h4 (by intro x hx; simp at hx; subst hx; exact foot_self) (fun x hx => .inl hx)⟩
theorem qImage (v : Value) (d : DS) (F : List Nat) (w : World) (h : QD w v d F) :
    Calls Try.prog 34 #[v] w fun e w' => ∃ V, e = .returned V.agg ∧ OwnIm w' w.heap.size V d.image ∧ Kept [] w w' := by
  obtain ⟨g, R, rfl, h, rfl⟩ := h
  exact image_any g d R w h
theorem qLasts (v : Value) (d : DS) (F : List Nat) (w : World) (h : QD w v d F) :
    Calls Try.prog 35 #[v] w fun e w' => ∃ V, e = .returned V.agg ∧ OwnIm w' w.heap.size V d.lasts ∧ Kept [] w w' := by
  obtain ⟨g, R, rfl, h, rfl⟩ := h
  exact lasts_any g d R w h
/-- a disk made anew -/
def Born (D : World → Value → DS → List Nat → Prop) (w w' : World) (v : Value) (d : DS) : Prop := ∃ F, D w' v d F ∧ (∀ x ∈ F, w.heap.size ≤ x) ∧ Kept [] w w'
theorem qCrash (v : Value) (d : DS) (F : List Nat) (c : Int) (vk : Value) (keep : List Int) (w : World) (h : QD w v d F) (hk : Is w vk keep) :
    Calls Try.prog 64 #[v, .agg #[.int .i64 c, vk]] w fun e w' => ∃ u, e = .returned u ∧ Born QD w w' u (d.crash c keep) := by
  obtain ⟨g, R, rfl, h, rfl⟩ := h
  refine (crash_any g d R c vk keep w h hk).mono ?_
  rintro e w' ⟨g', R', h1, h2, h3, h4⟩
  exact ⟨_, h1, _, ⟨g', R', rfl, h2, rfl⟩, h3, h4⟩
theorem qCopy (v : Value) (d : DS) (F : List Nat) (w : World) (h : QD w v d F) (hcap : d.loose.length * 40 ≤ 140737488355328) :
    Calls Try.prog 33 #[v] w fun e w' => ∃ u, e = .returned u ∧ Born QD w w' u d.copy := by
  obtain ⟨g, R, rfl, h, rfl⟩ := h
  refine (copy_any g d R w h hcap).mono ?_
  rintro e w' ⟨g', R', h1, h2, h3, h4⟩
  exact ⟨_, h1, _, ⟨g', R', rfl, h2, rfl⟩, h3, h4⟩
/-- what New and Load answer -/
def newE (a b c : Int) : Int := if shapeOk a b c = true then 0 else 60
def newD (a b c : Int) : DS := DS.blank a.toNat b.toNat c.toNat
def loadE (a b c : Int) (m : IM) : Int := if shapeOk a b c = true then (if imOk a.toNat b.toNat c.toNat m = true then 0 else 62) else 60
def loadD (a b c : Int) (m : IM) : DS := DS.load a.toNat b.toNat c.toNat m
/-- a disk made anew, or none -/
def Made (D : World → Value → DS → List Nat → Prop) (w w' : World) (v : Value) (d : DS) (e : Int) : Prop := (e = 0 ∧ Born D w w' v d) ∨ (e ≠ 0 ∧ v = .pointer none ∧ Kept [] w w')
theorem qNew (a b c : Int) (w : World) :
    Calls Try.prog 56 #[.agg #[.int .i64 a, .int .i64 b, .int .i64 c]] w fun e w' => ∃ u, e = .returned (.tuple #[u, .int .i64 (newE a b c)]) ∧ Made QD w w' u (newD a b c) (newE a b c) := by
  cases h : shapeOk a b c with
  | false =>
    refine (new_bad a b c w h).mono ?_
    rintro e w' ⟨h1, h2⟩
    have : newE a b c = 60 := by unfold newE; rw [h]; rfl
    exact ⟨_, by rw [this]; exact h1, .inr ⟨by rw [this]; omega, rfl, h2⟩⟩
  | true =>
    have hE : newE a b c = 0 := by unfold newE; rw [h]; rfl
    obtain ⟨np, ns, lm, rfl, rfl, rfl, h1, h2, h3⟩ := shapeOk_nat h
    refine (new_ok np ns lm w h1 h2 h3).mono ?_
    rintro e w' ⟨g, R, q1, q2, q3, q4⟩
    exact ⟨_, by rw [hE]; exact q1, .inl ⟨hE, _, ⟨g, R, rfl, q2, rfl⟩, q3, q4⟩⟩
theorem qLoad (a b c : Int) (V : IV) (m : IM) (w : World) (hV : SeeIm w V m) :
    Calls Try.prog 57 #[.agg #[.int .i64 a, .int .i64 b, .int .i64 c], V.agg] w fun e w' => ∃ u, e = .returned (.tuple #[u, .int .i64 (loadE a b c m)]) ∧ Made QD w w' u (loadD a b c m) (loadE a b c m) := by
  cases h : shapeOk a b c with
  | false =>
    refine (load_bad a b c V m w hV h).mono ?_
    rintro e w' ⟨h1, h2⟩
    have : loadE a b c m = 60 := by unfold loadE; rw [h]; rfl
    exact ⟨_, by rw [this]; exact h1, .inr ⟨by rw [this]; omega, rfl, h2⟩⟩
  | true =>
    obtain ⟨np, ns, lm, rfl, rfl, rfl, h1, h2, h3⟩ := shapeOk_nat h
    have hE : loadE (np : Int) (ns : Int) (lm : Int) m = if imOk np ns lm m = true then 0 else 62 := by
      unfold loadE
      rw [if_pos h]
      rfl
    refine (load_ok np ns lm V m w hV h1 h2 h3).mono ?_
    rintro e w' ⟨kk, q⟩
    cases hi : imOk np ns lm m with
    | false =>
      rw [hi] at hE q
      have hE : loadE (np : Int) (ns : Int) (lm : Int) m = 62 := hE
      exact ⟨_, by rw [hE]; exact q, .inr ⟨by rw [hE]; omega, rfl, kk⟩⟩
    | true =>
      rw [hi] at hE q
      have hE : loadE (np : Int) (ns : Int) (lm : Int) m = 0 := hE
      obtain ⟨g, R, q1, q2, q3⟩ := q
      exact ⟨_, by rw [hE]; exact q1, .inl ⟨hE, _, ⟨g, R, rfl, q2, rfl⟩, q3, kk⟩⟩
end Go.Proofs.Ytmipmiaflompmaa

/-
  OWN WORK. The program's disk in memory: what lasts, what is read, the loose writes (functions whose own cells never change); act, places.
-/
namespace Go.Proofs.Ytmipmiaflompmaa
open Go.RowKit
set_option linter.unusedVariables false

structure PDat where
  vl : Value
  pl : List Value
  vr : Value
  pr : List Value
  vf : Value
  fs : List Value
  vlog : Value
  left : Int
  Z : List Nat
def PDat.cells (R : PDat) (d : DS) : List Value := [.int .i64 (d.np : Int), .int .i64 (d.ns : Int), .int .i64 (d.lm : Int), R.vl, R.vr, R.vf, R.vlog, .int .i64 (d.lasted : Int), .int .i64 d.acts, .int .i64 R.left, .bool d.dead]
def PDat.rows (R : PDat) : List Value := R.vlog :: (R.pl ++ R.pr)
def DS.pall (d : DS) : List (List UInt8) := d.log :: (prows d.np d.rows ++ prows d.np d.seen)
def PDat.foot (R : PDat) (g : Nat) : List Nat := g :: (R.vl.ownBlock.toList ++ R.vr.ownBlock.toList ++ R.vf.ownBlock.toList ++ blocks R.rows)
/-- f lays the bytes b over the place k; its own cells lie in Z -/
def Lo (np : Nat) (Z : List Nat) (w : World) (f : Value) (k : Nat) (b : List UInt8) : Prop :=
  ∃ gp gb vb, f = theWrite gp gb ∧ Cap w gp gb (pix np k) vb b ∧ gp ∈ Z ∧ gb ∈ Z ∧ ∀ x, vb.ownBlock = some x → x ∈ Z
theorem Cap.kept {w w' : World} {gp gb j : Nat} {vb : Value} {b : List UInt8} {S : List Nat} (h : Cap w gp gb j vb b) (k : Kept S w w') (h1 : gp ∉ S) (h2 : gb ∉ S) (h3 : ∀ x, vb.ownBlock = some x → x ∉ S) : Cap w' gp gb j vb b :=
  ⟨k.cell h.place h1, k.cell h.slice h2, h.bytes.keptOwn k h3⟩
theorem Lo.kept {np : Nat} {Z S : List Nat} {w w' : World} {f : Value} {k : Nat} {b : List UInt8} (h : Lo np Z w f k b) (kp : Kept S w w') (hS : ∀ x ∈ S, x ∉ Z) : Lo np Z w' f k b := by
  obtain ⟨gp, gb, vb, h1, h2, h3, h4, h5⟩ := h
  exact ⟨gp, gb, vb, h1, h2.kept kp (fun hm => hS _ hm h3) (fun hm => hS _ hm h4) (fun x hx hm => hS _ hm (h5 x hx)), h3, h4, h5⟩
theorem Lo.mono {np : Nat} {Z Z' : List Nat} {w : World} {f : Value} {k : Nat} {b : List UInt8} (h : Lo np Z w f k b) (hZ : ∀ x ∈ Z, x ∈ Z') : Lo np Z' w f k b := by
  obtain ⟨gp, gb, vb, h1, h2, h3, h4, h5⟩ := h
  exact ⟨gp, gb, vb, h1, h2, hZ _ h3, hZ _ h4, fun x hx => hZ _ (h5 x hx)⟩
structure PR (w : World) (g : Nat) (d : DS) (R : PDat) : Prop where
  ok : d.Ok
  blk : Blk w g 92 (R.cells d)
  fam : Fam w 0 R.rows d.pall
  rowL : w.ownsRow 0 33 1 R.vl (d.np + 3) R.pl
  rowR : w.ownsRow 0 33 1 R.vr (d.np + 3) R.pr
  rowF : w.ownsRow 0 95 1 R.vf d.loose.length R.fs
  loose : ∀ (i : Nat) f x, R.fs[i]? = some f → d.loose[i]? = some x → Lo d.np R.Z w f x.1 x.2
  apart : ∀ x, R.vl.ownBlock = some x → R.vr.ownBlock ≠ some x
  left : d.dead = false → d.stop = if 1 ≤ R.left then R.left else 0
  leftw : IntKind.i64.wrap R.left = R.left
  frz : ∀ x ∈ R.Z, x ∉ R.foot g ∧ x < w.heap.size
theorem PR.lt {w : World} {g : Nat} {d : DS} {R : PDat} (h : PR w g d R) {x : Nat} (hx : x ∈ R.foot g) : x < w.heap.size := by
  unfold PDat.foot at hx
  rcases List.mem_cons.1 hx with e | hx
  · subst e; exact h.blk.lt
  · rcases List.mem_append.1 hx with hx | hx
    · rcases List.mem_append.1 hx with hx | hx
      · rcases List.mem_append.1 hx with hx | hx
        · exact own_lt h.rowL x (by simpa using hx)
        · exact own_lt h.rowR x (by simpa using hx)
      · exact own_lt h.rowF x (by simpa using hx)
    · exact (h.fam.not8 hx).2.2
theorem PDat.self {R : PDat} {g : Nat} : g ∈ R.foot g := by simp [PDat.foot]
theorem PDat.inL {R : PDat} {g x : Nat} (h : R.vl.ownBlock = some x) : x ∈ R.foot g := by simp [PDat.foot, h]
theorem PDat.inR {R : PDat} {g x : Nat} (h : R.vr.ownBlock = some x) : x ∈ R.foot g := by simp [PDat.foot, h]
theorem PDat.inF {R : PDat} {g x : Nat} (h : R.vf.ownBlock = some x) : x ∈ R.foot g := by simp [PDat.foot, h]
theorem PDat.inB {R : PDat} {g x : Nat} (h : x ∈ blocks R.rows) : x ∈ R.foot g := by simp [PDat.foot, h]
theorem Fam.keptAll {w w' : World} {base : Nat} {vs : List Value} {ls : List (List UInt8)} {S : List Nat} (h : Fam w base vs ls) (k : Kept S w w') (hS : ∀ x ∈ S, x ∉ blocks vs) : Fam w' base vs ls :=
  ⟨h.len, fun i v l hv hl => own_of_kept (h.own i v l hv hl) k fun x hx hm => hS x hm (mem_blocks hv hx), h.apart⟩
/-- nothing of it is touched -/
theorem PR.kept {w w' : World} {g : Nat} {d : DS} {R : PDat} {S : List Nat} (h : PR w g d R) (k : Kept S w w') (hS : ∀ x ∈ S, x ∉ R.foot g) (hZ : ∀ x ∈ S, x ∉ R.Z) : PR w' g d R :=
  ⟨h.ok, h.blk.kept k (fun hm => hS _ hm PDat.self), h.fam.keptAll k (fun x hx hm => hS x hx (PDat.inB hm)), own_of_kept h.rowL k (fun x hx hm => hS x hm (PDat.inL hx)), own_of_kept h.rowR k (fun x hx hm => hS x hm (PDat.inR hx)), own_of_kept h.rowF k (fun x hx hm => hS x hm (PDat.inF hx)),
    fun i f x hf hx => (h.loose i f x hf hx).kept k hZ, h.apart, h.left, h.leftw, fun x hx => ⟨(h.frz x hx).1, Nat.lt_of_lt_of_le (h.frz x hx).2 k.size⟩⟩
/-- its own block is no row's -/
theorem PR.far {w : World} {g : Nat} {d : DS} {R : PDat} (h : PR w g d R) : R.vl.ownBlock ≠ some g ∧ R.vr.ownBlock ≠ some g ∧ R.vf.ownBlock ≠ some g ∧ g ∉ blocks R.rows ∧ g ∉ R.Z :=
  ⟨fun e => h.blk.far h.rowL (by decide) g e rfl, fun e => h.blk.far h.rowR (by decide) g e rfl, fun e => h.blk.far h.rowF (by decide) g e rfl, fun hm => (h.fam.not8 hm).1 (h.blk.not8 (by decide)), fun hm => (h.frz g hm).1 PDat.self⟩
/-- its own block is written, and nothing else -/
theorem PR.turn {w w' : World} {g : Nat} {d d' : DS} {R R' : PDat} (h : PR w g d R) (k : Kept [g] w w') (hb : Blk w' g 92 (R'.cells d')) (hok : d'.Ok) (e1 : d'.np = d.np) (e2 : d'.rows = d.rows) (e3 : d'.loose = d.loose) (e4 : d'.log = d.log) (eR : R' = { R with left := R'.left }) (hl : d'.dead = false → d'.stop = if 1 ≤ R'.left then R'.left else 0) (hw : IntKind.i64.wrap R'.left = R'.left) : PR w' g d' R' := by
  obtain ⟨f1, f2, f3, f4, f5⟩ := h.far
  have hs : ∀ {x : Nat}, x ∈ [g] → x = g := by simp
  have hall : d'.pall = d.pall := by unfold DS.pall DS.seen; rw [e1, e2, e3, e4]
  obtain ⟨vl, pl, vr, pr, vf, fs, vlog, left, Z⟩ := R
  obtain ⟨vl', pl', vr', pr', vf', fs', vlog', left', Z'⟩ := R'
  simp only [PDat.mk.injEq] at eR
  obtain ⟨rfl, rfl, rfl, rfl, rfl, rfl, rfl, -, rfl⟩ := eR
  refine ⟨hok, hb, ?_, ?_, ?_, ?_, ?_, h.apart, hl, hw, fun x hx => ⟨(h.frz x hx).1, Nat.lt_of_lt_of_le (h.frz x hx).2 k.size⟩⟩
  · rw [hall]
    exact h.fam.keptAll k (fun x hx hm => f4 (by rw [← hs hx]; exact hm))
  · rw [e1]; exact own_of_kept h.rowL k (fun x hx hm => f1 (by rw [← hs hm]; exact hx))
  · rw [e1]; exact own_of_kept h.rowR k (fun x hx hm => f2 (by rw [← hs hm]; exact hx))
  · rw [e3]; exact own_of_kept h.rowF k (fun x hx hm => f3 (by rw [← hs hm]; exact hx))
  · rw [e1, e3]
    exact fun i f x hf hx => (h.loose i f x hf hx).kept k (fun y hy hm => f5 (by rw [← hs hy]; exact hm))
def PDat.act (R : PDat) (d : DS) : PDat := if d.dead = true ∨ R.left = 1 then R else { R with left := if 1 < R.left then R.left - 1 else R.left }
theorem PDat.act_eq (R : PDat) (d : DS) : ∃ l, R.act d = { R with left := l } := by
  unfold PDat.act
  split
  · exact ⟨R.left, rfl⟩
  · exact ⟨_, rfl⟩
theorem PDat.act_foot (R : PDat) (d : DS) (g : Nat) : (R.act d).foot g = R.foot g := by obtain ⟨l, e⟩ := R.act_eq d; rw [e]; rfl
theorem PDat.act_Z (R : PDat) (d : DS) : (R.act d).Z = R.Z := by obtain ⟨l, e⟩ := R.act_eq d; rw [e]
theorem pact_any (g : Nat) (d : DS) (R : PDat) (w : World) (h : PR w g d R) :
    Calls Try.prog 67 #[.pointer (some ⟨g, 0, none⟩)] w fun e w' => e = .returned (.int .i64 (aliveE d)) ∧ (∃ l, PR w' g d.act { R with left := l }) ∧ Kept [g] w w' := by
  have hb := h.blk
  have c8 := hb.cell (j := 8) rfl
  have c9 := hb.cell (j := 9) rfl
  have c10 := hb.cell (j := 10) rfl
  have f8 := hb.free 8
  have f9 := hb.free 9
  have f10 := hb.free 10
  have hok := h.ok.act
  have hlw := h.leftw
  by_cases h1 : d.dead = true
  · have ea : aliveE d = 1 := by simp [aliveE, DS.alive, h1]
    have ed : d.act = d := by unfold DS.act; rw [if_pos h1]
    rw [ea, ed]
    rw [h1] at c10
    by_cases h2 : R.left = 1
    · obtain ⟨b2, k2⟩ := hb.set 10 (.bool true)
      have fin : PR _ g d R := h.turn k2 (by have e : (R.cells d).set 10 (.bool true) = R.cells d := by unfold PDat.cells; rw [h1]; rfl
                                             rw [← e]; exact b2) h.ok rfl rfl rfl rfl rfl h.left hlw
      have H : Hid (PR _ g d R) := fin
      have y10 := b2.cell (j := 10) (v := .bool true) rfl
      rw [h2] at c9
      clear h hb hok fin b2
      go_enter Try.func67, Try.ntmps67
      go_wp2
      go_ret
      exact ⟨rfl, ⟨R.left, H.out⟩, k2⟩
    · have H : Hid (PR w g d R) := h
      clear h hb hok
      generalize R.left = L at *
      go_enter Try.func67, Try.ntmps67
      go_wp2
      go_ret
      exact ⟨rfl, ⟨R.left, H.out⟩, Kept.refl _ _⟩
  · have h1' : d.dead = false := by simpa using h1
    rw [h1'] at c10
    have hl := h.left h1'
    by_cases h2 : R.left = 1
    · have hst : d.stop = 1 := by rw [hl, h2]; rfl
      have ea : aliveE d = 1 := by simp [aliveE, DS.alive, h1', hst]
      have ed : d.act = { d with dead := true } := by unfold DS.act; rw [if_neg h1, if_pos hst]
      rw [ea]
      obtain ⟨b2, k2⟩ := hb.set 10 (.bool true)
      have fin : PR _ g d.act R := h.turn k2 (by rw [ed]; exact b2) hok (by rw [d.act_np]) (by rw [d.act_rows]) (by rw [d.act_loose]) (by rw [d.act_log]) rfl (by rw [ed]; intro c; cases c) hlw
      have H : Hid (PR _ g d.act R) := fin
      have y10 := b2.cell (j := 10) (v := .bool true) rfl
      rw [h2] at c9
      clear h hb hok ed fin h1 h1' b2 hl hst
      go_enter Try.func67, Try.ntmps67
      go_wp2
      go_ret
      exact ⟨rfl, ⟨R.left, H.out⟩, k2⟩
    · have hst : d.stop ≠ 1 := by rw [hl]; split <;> omega
      have ea : aliveE d = 0 := by simp [aliveE, DS.alive, h1', hst]
      rw [ea]
      obtain ⟨A, hA⟩ : ∃ A, IntKind.i64.wrap (d.acts + 1) = A := ⟨_, rfl⟩
      by_cases h3 : 1 < R.left
      · have hst2 : d.stop = R.left := by rw [hl, if_pos (by omega)]
        have ed : d.act = { d with stop := R.left - 1, acts := A } := by unfold DS.act; rw [if_neg h1, if_neg hst, if_pos (by omega), hA, hst2]
        have wr := wrap_i64_range hlw
        have ew : IntKind.i64.wrap (R.left - 1) = R.left - 1 := wrap_i64_of (by omega) (by omega)
        obtain ⟨b2, k2⟩ := hb.set 9 (.int .i64 (R.left - 1))
        obtain ⟨b3, k3⟩ := b2.set 8 (.int .i64 A)
        have k4 := k2.trans k3 (by simp)
        have fin : PR _ g d.act { R with left := R.left - 1 } := h.turn k4 (by rw [ed]; exact b3) hok (by rw [d.act_np]) (by rw [d.act_rows]) (by rw [d.act_loose]) (by rw [d.act_log]) rfl (by rw [ed]; intro _; show R.left - 1 = if 1 ≤ R.left - 1 then R.left - 1 else 0; rw [if_pos (by omega)]) ew
        have H : Hid (PR _ g d.act { R with left := R.left - 1 }) := fin
        have y8 := b2.cell (j := 8) (v := .int .i64 d.acts) rfl
        have y8' := b2.free 8
        clear h hb hok ed fin h1 h1' b2 b3 wr hl hst hst2 hlw
        generalize R.left = L at *
        go_enter Try.func67, Try.ntmps67
        go_wp2
        go_ret
        exact ⟨rfl, ⟨_, H.out⟩, k4⟩
      · have hst2 : d.stop = 0 := by rw [hl, if_neg (by omega)]
        have ed : d.act = { d with acts := A } := by unfold DS.act; rw [if_neg h1, if_neg hst, if_neg (by omega), hA]
        obtain ⟨b3, k3⟩ := hb.set 8 (.int .i64 A)
        have fin : PR _ g d.act R := h.turn k3 (by rw [ed]; exact b3) hok (by rw [d.act_np]) (by rw [d.act_rows]) (by rw [d.act_loose]) (by rw [d.act_log]) rfl (by rw [ed]; exact fun _ => hl) hlw
        have H : Hid (PR _ g d.act R) := fin
        clear h hb hok ed fin h1 h1' b3 hl hst hst2 hlw
        generalize hLL : R.left = L at *
        go_enter Try.func67, Try.ntmps67
        go_wp2
        go_ret
        exact ⟨rfl, ⟨R.left, H.out⟩, k3⟩
end Go.Proofs.Ytmipmiaflompmaa

/-
  OWN WORK. The program's disk: places, reads, what it tells of itself.
-/
namespace Go.Proofs.Ytmipmiaflompmaa
open Go.RowKit
set_option linter.unusedVariables false

/-- a disk of the program's at v tells d; F: its blocks; Z: the cells that its loose writes have (they never change) -/
def PD (Z : List Nat) (w : World) (v : Value) (d : DS) (F : List Nat) : Prop := ∃ g R, v = .pointer (some ⟨g, 0, none⟩) ∧ PR w g d R ∧ F = R.foot g ∧ Z = R.Z
theorem PD.ptr {Z : List Nat} {w : World} {v : Value} {d : DS} {F : List Nat} (h : PD Z w v d F) : IsPtr v := by
  obtain ⟨g, R, rfl, -⟩ := h
  exact ⟨g, rfl⟩
theorem PD.ok {Z : List Nat} {w : World} {v : Value} {d : DS} {F : List Nat} (h : PD Z w v d F) : d.Ok := by
  obtain ⟨g, R, -, h, -⟩ := h
  exact h.ok
theorem PD.lt {Z : List Nat} {w : World} {v : Value} {d : DS} {F : List Nat} (h : PD Z w v d F) : ∀ x ∈ F, x < w.heap.size := by
  obtain ⟨g, R, -, h, rfl, -⟩ := h
  exact fun x hx => h.lt hx
theorem PD.frz {Z : List Nat} {w : World} {v : Value} {d : DS} {F : List Nat} (h : PD Z w v d F) : ∀ x ∈ Z, x ∉ F ∧ x < w.heap.size := by
  obtain ⟨g, R, -, h, rfl, rfl⟩ := h
  exact fun x hx => h.frz x hx
theorem PD.kept {Z : List Nat} {w w' : World} {v : Value} {d : DS} {F S : List Nat} (h : PD Z w v d F) (k : Kept S w w') (hS : ∀ x ∈ S, x ∉ F) (hZ : ∀ x ∈ S, x ∉ Z := by simp) : PD Z w' v d F := by
  obtain ⟨g, R, e, h, rfl, rfl⟩ := h
  exact ⟨g, R, e, h.kept k hS hZ, rfl, rfl⟩
theorem PR.atR {w : World} {g : Nat} {d : DS} {R : PDat} (h : PR w g d R) {k : Nat} (hk : k < d.np + 3) :
    ∃ gr cr u, R.vr = .slice (some ⟨gr, 0, none⟩) (d.np + 3) cr ∧ R.pr[pix d.np k]? = some u ∧ w.cell? ⟨gr, pix d.np k, none⟩ = some u ∧ w.ownsRow 0 5 1 u (d.seen.getD k []).length (u8s (d.seen.getD k [])) ∧ (d.seen.getD k []).length = sizeK d.np d.ns k := by
  obtain ⟨gr, cr, e, -, -⟩ := own_at8 h.rowR (by omega)
  have hpl : R.pr.length = d.np + 3 := by have := h.rowR.1; omega
  have hll : R.pl.length = d.np + 3 := by have := h.rowL.1; omega
  have hp := pix_lt hk
  obtain ⟨u, hu⟩ : ∃ u, R.pr[pix d.np k]? = some u := ⟨_, List.getElem?_eq_getElem (by omega)⟩
  have hrow := h.rowR
  rw [e] at hrow
  refine ⟨gr, cr, u, e, hu, (own_cell hrow hu).1, ?_, ?_⟩
  · refine h.fam.own (1 + (d.np + 3) + pix d.np k) u _ ?_ ?_
    · unfold PDat.rows
      rw [show 1 + (d.np + 3) + pix d.np k = ((d.np + 3) + pix d.np k) + 1 by omega, List.getElem?_cons_succ, List.getElem?_append_right (by omega), hll]
      rw [show d.np + 3 + pix d.np k - (d.np + 3) = pix d.np k by omega]; exact hu
    · unfold DS.pall
      rw [show 1 + (d.np + 3) + pix d.np k = ((d.np + 3) + pix d.np k) + 1 by omega, List.getElem?_cons_succ, List.getElem?_append_right (by rw [prows_length]; omega), prows_length]
      rw [show d.np + 3 + pix d.np k - (d.np + 3) = pix d.np k by omega]; exact prows_at _ hk
  · exact h.ok.seen k _ (by rw [List.getD_eq_getElem?_getD, List.getElem?_eq_getElem (by rw [h.ok.seenLen]; exact hk)]; rfl)
theorem PR.atL {w : World} {g : Nat} {d : DS} {R : PDat} (h : PR w g d R) {k : Nat} (hk : k < d.np + 3) :
    ∃ gr cr u, R.vl = .slice (some ⟨gr, 0, none⟩) (d.np + 3) cr ∧ R.pl[pix d.np k]? = some u ∧ w.cell? ⟨gr, pix d.np k, none⟩ = some u ∧ w.ownsRow 0 5 1 u (d.rows.getD k []).length (u8s (d.rows.getD k [])) ∧ (d.rows.getD k []).length = sizeK d.np d.ns k := by
  obtain ⟨gr, cr, e, -, -⟩ := own_at8 h.rowL (by omega)
  have hll : R.pl.length = d.np + 3 := by have := h.rowL.1; omega
  have hp := pix_lt hk
  obtain ⟨u, hu⟩ : ∃ u, R.pl[pix d.np k]? = some u := ⟨_, List.getElem?_eq_getElem (by omega)⟩
  have hrow := h.rowL
  rw [e] at hrow
  refine ⟨gr, cr, u, e, hu, (own_cell hrow hu).1, ?_, ?_⟩
  · refine h.fam.own (pix d.np k + 1) u _ ?_ ?_
    · unfold PDat.rows
      rw [List.getElem?_cons_succ, List.getElem?_append_left (by omega)]; exact hu
    · unfold DS.pall
      rw [List.getElem?_cons_succ, List.getElem?_append_left (by rw [prows_length]; omega)]; exact prows_at _ hk
  · exact h.ok.row k _ (by rw [List.getD_eq_getElem?_getD, List.getElem?_eq_getElem (by rw [h.ok.len]; exact hk)]; rfl)
def plc (np : Nat) (ix : Option Nat) : Int := match ix with
  | none => -1
  | some k => (pix np k : Int)
theorem plc_some (np k : Nat) : plc np (some k) = (pix np k : Int) := rfl
theorem pagePlace_any (g : Nat) (d : DS) (R : PDat) (n : Int) (w : World) (h : PR w g d R) :
    Calls Try.prog 74 #[.pointer (some ⟨g, 0, none⟩), .int .i64 n] w fun e w' => e = .returned (.int .i64 (plc d.np (pageIx d.np n))) ∧ w' = w := by
  have c0 := h.blk.cell (j := 0) rfl
  clear h
  by_cases h1 : n < 0
  · rw [show pageIx d.np n = none by unfold pageIx; rw [if_neg (by omega)], show plc d.np none = -1 from rfl]
    go_enter Try.func74, Try.ntmps74
    go_wp2
    go_ret
    exact ⟨rfl, rfl⟩
  · by_cases h2 : (d.np : Int) ≤ n
    · rw [show pageIx d.np n = none by unfold pageIx; rw [if_neg (by omega)], show plc d.np none = -1 from rfl]
      go_enter Try.func74, Try.ntmps74
      go_wp2
      go_ret
      exact ⟨rfl, rfl⟩
    · rw [show pageIx d.np n = some (1 + n.toNat) by unfold pageIx; rw [if_pos (by omega)], show plc d.np (some (1 + n.toNat)) = n by rw [plc_some]; unfold pix; rw [if_neg (by omega), if_pos (by omega)]; omega]
      go_enter Try.func74, Try.ntmps74
      go_wp2
      go_ret
      exact ⟨rfl, rfl⟩
theorem pairPlace_any (g : Nat) (d : DS) (R : PDat) (w : World) (h : PR w g d R) :
    Calls Try.prog 51 #[.pointer (some ⟨g, 0, none⟩)] w fun e w' => e = .returned (.int .i64 (d.np : Int)) ∧ w' = w := by
  have c0 := h.blk.cell (j := 0) rfl
  clear h
  go_enter Try.func51, Try.ntmps51
  go_wp2
  go_ret
  exact ⟨rfl, rfl⟩
theorem plc_pair (np : Nat) : plc np (some 0) = (np : Int) := by rw [plc_some]; unfold pix; rw [if_pos rfl]
theorem masterPlace_any (g : Nat) (d : DS) (R : PDat) (n : Int) (w : World) (h : PR w g d R) :
    Calls Try.prog 62 #[.pointer (some ⟨g, 0, none⟩), .int .i64 n] w fun e w' => e = .returned (.int .i64 (plc d.np (masterIx d.np n))) ∧ w' = w := by
  have hc := pairPlace_any g d R w h
  have hnp := h.ok.np
  clear h
  by_cases h1 : n = 0
  · subst h1
    rw [show masterIx d.np 0 = some (d.np + 1) by unfold masterIx; rw [if_pos (by omega)]; simp, show plc d.np (some (d.np + 1)) = (d.np : Int) + 1 by rw [plc_some]; unfold pix; rw [if_neg (by omega), if_neg (by omega)]; omega]
    have w1 : IntKind.i64.wrap ((d.np : Int) + 1) = (d.np : Int) + 1 := wrap_i64_of (by omega) (by omega)
    clear hnp
    go_enter Try.func62, Try.ntmps62
    go_wp2_with fail
    refine hc.mono ?_
    rintro e w2 ⟨rfl, rfl⟩
    clear hc
    go_wp2
    go_ret
    exact ⟨by simp, rfl⟩
  · by_cases h2 : n = 1
    · subst h2
      rw [show masterIx d.np 1 = some (d.np + 2) by unfold masterIx; rw [if_pos (by omega)]; rfl, show plc d.np (some (d.np + 2)) = (d.np : Int) + 2 by rw [plc_some]; unfold pix; rw [if_neg (by omega), if_neg (by omega)]; omega]
      have w1 : IntKind.i64.wrap ((d.np : Int) + 1) = (d.np : Int) + 1 := wrap_i64_of (by omega) (by omega)
      have w2 : IntKind.i64.wrap ((d.np : Int) + 1 + 1) = (d.np : Int) + 2 := by rw [wrap_i64_of (by omega) (by omega)]; omega
      clear hnp h1
      go_enter Try.func62, Try.ntmps62
      go_wp2_with fail
      refine hc.mono ?_
      rintro e w2 ⟨rfl, rfl⟩
      clear hc
      go_wp2
      go_ret
      exact ⟨rfl, rfl⟩
    · rw [show masterIx d.np n = none by unfold masterIx; rw [if_neg (by omega)], show plc d.np none = -1 from rfl]
      have b1 : (n != 0) = true := by simpa using h1
      have b2 : (n != 1) = true := by simpa using h2
      clear hc hnp
      go_enter Try.func62, Try.ntmps62
      go_wp2
      go_ret
      exact ⟨rfl, rfl⟩
set_option maxHeartbeats 800000 in
theorem readAt_any (g : Nat) (d : DS) (R : PDat) (ix : Option Nat) (w : World) (h : PR w g d R) (hix : ∀ k, ix = some k → k < d.np + 3) :
    Calls Try.prog 61 #[.pointer (some ⟨g, 0, none⟩), .int .i64 (plc d.np ix)] w fun e w' => ∃ c, e = .returned (.tuple #[c, .int .i64 (readE d ix)]) ∧ w'.ownsRow w.heap.size 5 1 c (readL d ix).length (u8s (readL d ix)) ∧ (∃ l, PR w' g d.act { R with left := l }) ∧ Kept [g] w w' := by
  have ha := pact_any g d R w h
  obtain ⟨z, hz⟩ : ∃ z, z = d.alive := ⟨_, rfl⟩
  cases z with
  | false =>
    have eE : readE d ix = 1 := by unfold readE; rw [← hz]; rfl
    have eL : readL d ix = [] := by unfold readL; rw [← hz]; rfl
    have e1 : aliveE d = 1 := by unfold aliveE; rw [← hz]; rfl
    rw [eE, eL]
    rw [e1] at ha
    generalize plc d.np ix = q
    clear hz eE eL e1 h hix
    go_enter Try.func61, Try.ntmps61
    go_wp2_with fail
    refine ha.mono ?_
    rintro e w1 ⟨rfl, h1, k1⟩
    go_wp2
    go_ret2
    exact ⟨_, rfl, World.ownsRow_nil _ _ _ _, h1, k1⟩
  | true =>
    have e1 : aliveE d = 0 := by unfold aliveE; rw [← hz]; rfl
    rw [e1] at ha
    cases ix with
    | none =>
      have eE : readE d none = 61 := by unfold readE; rw [← hz]; rfl
      have eL : readL d none = [] := by unfold readL; rw [← hz]; rfl
      rw [eE, eL, show plc d.np none = -1 from rfl]
      clear hz eE eL e1 h hix
      go_enter Try.func61, Try.ntmps61
      go_wp2_with fail
      refine ha.mono ?_
      rintro e w1 ⟨rfl, h1, k1⟩
      go_wp2
      go_ret2
      exact ⟨_, rfl, World.ownsRow_nil _ _ _ _, h1, k1⟩
    | some k =>
      have hk := hix k rfl
      have eE : readE d (some k) = 0 := by unfold readE; rw [← hz]; rfl
      have eL : readL d (some k) = d.seen.getD k [] := by unfold readL; rw [← hz]; rfl
      rw [eE, eL, show plc d.np (some k) = (pix d.np k : Int) from rfl]
      have hp := pix_lt hk
      have hne : ¬ (pix d.np k : Int) = -1 := by omega
      have hp0 : (0 : Int) ≤ (pix d.np k : Int) := by omega
      have hp1 : (pix d.np k : Int) < ((d.np + 3 : Nat) : Int) := by omega
      have hns := h.ok.ns
      have HP : Hid (k < d.np + 3) := hk
      generalize hLL : d.seen.getD k [] = L
      generalize hjj : pix d.np k = j at *
      clear hz eE eL e1 h hix hk hp
      go_enter Try.func61, Try.ntmps61
      go_wp2_with fail
      refine ha.mono ?_
      clear ha
      rintro e w1 ⟨rfl, ⟨l, h1⟩, k1⟩
      obtain ⟨gr, cr, u, ev, hu, hc, ho, hsz⟩ := h1.atR (k := k) (by rw [d.act_np]; exact HP.out)
      rw [d.act_np] at hc ev hsz
      rw [hjj] at hc
      rw [d.act_seen, hLL] at ho hsz
      rw [d.act_ns] at hsz
      simp only at ev
      have c4 := h1.blk.cell (j := 4) (v := R.vr) rfl
      rw [ev] at c4
      have hb := Bs.ofOwn ho
      have hlen : L.length ≤ 140737488355328 := by rw [hsz]; have := sizeK_le d.np d.ns k hns.2; omega
      have hown := pown_any u _ w1 hb hlen
      obtain ⟨pu, cu, rfl, -⟩ := id hb
      have H1 : Hid (PR w1 g d.act { R with left := l }) := h1
      clear h1 hb ho hsz ev hlen hu hns hLL hjj
      go_wp2_with fail
      refine hown.mono ?_
      rintro e w2 ⟨c, rfl, o2, k2⟩
      have hs := k1.size
      clear hown
      go_wp2
      go_ret2
      exact ⟨_, rfl, own_mono o2 hs, ⟨l, H1.out.kept k2 (by simp) (by simp)⟩, k1.then k2⟩
end Go.Proofs.Ytmipmiaflompmaa

