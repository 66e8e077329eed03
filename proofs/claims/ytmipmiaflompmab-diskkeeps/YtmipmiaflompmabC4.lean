import Derived.Test.YtmipmiaflompmabRows
import Derived.Test.YtmipmiaflompmabC3
/-
  OWN WORK. The program's disk: ReadLog, Stop, what it tells of itself; the calls by the disk's pointer.
-/
namespace Go.Proofs.Ytmipmiaflompmab
open Go.RowKit
set_option linter.unusedVariables false

set_option maxHeartbeats 800000 in
theorem preadLog_any (g : Nat) (d : DS) (R : PDat) (f n : Int) (w : World) (h : PR w g d R) :
    Calls Try.prog 25 #[.pointer (some ⟨g, 0, none⟩), .int .i64 f, .int .i64 n] w fun e w' => ∃ v, e = .returned (.tuple #[v, .int .i64 (readLogE d f n)]) ∧ w'.ownsRow w.heap.size 5 1 v (readLogL d f n).length (u8s (readLogL d f n)) ∧ (∃ l, PR w' g d.act { R with left := l }) ∧ Kept [g] w w' := by
  have ha := pact_any g d R w h
  have hl := h.ok.log
  have hlm := h.ok.lm
  obtain ⟨z, hz⟩ : ∃ z, z = d.alive := ⟨_, rfl⟩
  cases z with
  | false =>
    have eA : aliveE d = 1 := by unfold aliveE; rw [← hz]; rfl
    have eE : readLogE d f n = 1 := by unfold readLogE; rw [← hz]; rfl
    have eL : readLogL d f n = [] := by unfold readLogL; rw [eE]; rfl
    rw [eA] at ha
    rw [eE, eL]
    clear hz eE eL h hl hlm eA
    go_enter Try.func25, Try.ntmps25
    go_wp2_with fail
    refine ha.mono ?_
    rintro e w1 ⟨rfl, h1, k1⟩
    go_wp2
    go_ret2
    exact ⟨_, rfl, by simpa [u8s] using World.ownsRow_nil _ _ _ _, h1, k1⟩
  | true =>
    have eA : aliveE d = 0 := by unfold aliveE; rw [← hz]; rfl
    rw [eA] at ha
    by_cases hc : f < 0 ∨ (d.log.length : Int) < f ∨ n < 0
    · have eE : readLogE d f n = 61 := by unfold readLogE; rw [← hz]; simp [hc]
      have eL : readLogL d f n = [] := by unfold readLogL; rw [eE]; rfl
      rw [eE, eL]
      clear hz eE eL h hl hlm eA
      go_enter Try.func25, Try.ntmps25
      go_wp2_with fail
      refine ha.mono ?_
      rintro e w1 ⟨rfl, ⟨l, h1⟩, k1⟩
      obtain ⟨p, c, e1, -⟩ := h1.shapes
      rw [d.act_log] at e1
      simp only at e1
      have c6 := h1.blk.cell (j := 6) (v := R.vlog) rfl
      rw [e1] at c6
      have H1 : Hid (PR w1 g d.act { R with left := l }) := h1
      clear h1 e1 ha
      by_cases hc0 : f < 0
      · clear hc
        go_wp2
        go_ret2
        exact ⟨_, rfl, by simpa [u8s] using World.ownsRow_nil _ _ _ _, ⟨l, H1.out⟩, k1⟩
      · by_cases hc1 : (d.log.length : Int) < f
        · clear hc
          go_wp2
          go_ret2
          exact ⟨_, rfl, by simpa [u8s] using World.ownsRow_nil _ _ _ _, ⟨l, H1.out⟩, k1⟩
        · have hc2 : n < 0 := by omega
          clear hc
          go_wp2
          go_ret2
          exact ⟨_, rfl, by simpa [u8s] using World.ownsRow_nil _ _ _ _, ⟨l, H1.out⟩, k1⟩
    · obtain ⟨a, rfl⟩ : ∃ a : Nat, f = (a : Int) := ⟨f.toNat, by omega⟩
      obtain ⟨b, rfl⟩ : ∃ b : Nat, n = (b : Int) := ⟨n.toNat, by omega⟩
      have ham : a ≤ d.log.length := by omega
      have eE : readLogE d (a : Int) (b : Int) = 0 := by unfold readLogE; rw [← hz]; simp; omega
      obtain ⟨m, hm⟩ : ∃ m, m = min b (d.log.length - a) := ⟨_, rfl⟩
      have eL : readLogL d (a : Int) (b : Int) = (d.log.drop a).take m := by
        unfold readLogL
        rw [eE, if_pos rfl, Int.toNat_natCast, Int.toNat_natCast, hm, List.take_eq_take_iff]
        simp
      rw [eE, eL]
      have hlen : ((d.log.drop a).take m).length = m := by simp; omega
      rw [hlen]
      have HL : Hid (d.log.length ≤ 65536) := (show d.log.length ≤ 65536 by omega)
      have HM : Hid (m = min b (d.log.length - a)) := hm
      have ham' : ¬ (d.log.length : Int) < (a : Int) := by omega
      have hb0 : ¬ (b : Int) < 0 := by omega
      have ha0 : ¬ (a : Int) < 0 := by omega
      clear hz eE eL h hl hlm hc hm eA
      go_enter Try.func25, Try.ntmps25
      go_wp2_with fail
      refine ha.mono ?_
      rintro e w1 ⟨rfl, ⟨l, h1⟩, k1⟩
      obtain ⟨p, c, e1, hbs, -⟩ := h1.shapes
      rw [d.act_log] at e1 hbs
      simp only at e1 hbs
      rw [e1] at hbs
      have c6 := h1.blk.cell (j := 6) (v := R.vlog) rfl
      rw [e1] at c6
      obtain ⟨p2, -, hcut, -, hb2⟩ := hbs.cuts (P := Try.prog) 25 5 Try.underlying25 (by kernel_rfl) a ham
      obtain ⟨-, hcut2, -, hb3, -⟩ := hb2.cuts (P := Try.prog) 25 5 Try.underlying25 (by kernel_rfl) m (by have := HM.out; omega)
      have hcp := pown_any _ _ w1 hb3 (by rw [hlen]; have := HL.out; have := HM.out; omega)
      rw [hlen] at hcp
      clear hlen
      have H1 : Hid (PR w1 g d.act { R with left := l }) := h1
      clear h1 e1 ha hbs hb2 hb3 ham
      by_cases hgt : ((d.log.length - a : Nat) : Int) < (b : Int)
      · have em : d.log.length - a = m := by have := HM.out; omega
        rw [em] at hgt hcut hcut2
        go_wp2_with fail
        refine hcp.mono ?_
        rintro e w2 ⟨v3, rfl, o3, k2⟩
        have hf := H1.out.kept k2 (by simp) (by simp)
        clear hcp hcut hcut2 c6
        go_wp2
        go_ret2
        exact ⟨_, rfl, own_mono o3 k1.size, ⟨l, hf⟩, k1.then k2⟩
      · have em : b = m := by have := HM.out; omega
        subst em
        go_wp2_with fail
        refine hcp.mono ?_
        rintro e w2 ⟨v3, rfl, o3, k2⟩
        have hf := H1.out.kept k2 (by simp) (by simp)
        clear hcp hcut hcut2 c6
        go_wp2
        go_ret2
        exact ⟨_, rfl, own_mono o3 k1.size, ⟨l, hf⟩, k1.then k2⟩
theorem pstop_any (g : Nat) (d : DS) (R : PDat) (n : Int) (w : World) (h : PR w g d R) (hn : IntKind.i64.wrap n = n) :
    Calls Try.prog 44 #[.pointer (some ⟨g, 0, none⟩), .int .i64 n] w fun e w' => (∃ r, e = .returned r) ∧ PR w' g (d.halts n) { R with left := n } ∧ Kept [g] w w' := by
  have c9 := h.blk.cell (j := 9) rfl
  have f9 := h.blk.free 9
  obtain ⟨b2, k2⟩ := h.blk.set 9 (.int .i64 n)
  have hok := h.ok.halts n hn
  have e0 : (d.halts n).np = d.np ∧ (d.halts n).ns = d.ns ∧ (d.halts n).lm = d.lm ∧ (d.halts n).rows = d.rows ∧ (d.halts n).loose = d.loose ∧ (d.halts n).log = d.log ∧ (d.halts n).lasted = d.lasted ∧ (d.halts n).acts = d.acts ∧ (d.halts n).dead = d.dead := by
    unfold DS.halts
    split <;> exact ⟨rfl, rfl, rfl, rfl, rfl, rfl, rfl, rfl, rfl⟩
  obtain ⟨e1, e2, e3, e4, e5, e6, e7, e8, e9⟩ := e0
  have hst : (d.halts n).dead = false → (d.halts n).stop = if 1 ≤ n then n else 0 := fun hd => by
    rw [e9] at hd
    unfold DS.halts
    rw [if_neg (by rw [hd]; simp)]
  have fin : PR _ g (d.halts n) { R with left := n } := h.turn k2 (by unfold PDat.cells; rw [e1, e2, e3, e7, e8, e9]; exact b2) hok e1 e4 e5 e6 rfl hst hn
  have H : Hid (PR _ g (d.halts n) { R with left := n }) := fin
  clear fin b2 h hn hok e1 e2 e3 e4 e5 e6 e7 e8 e9 hst
  go_enter Try.func44, Try.ntmps44
  go_wp2
  go_returns
  exact ⟨⟨_, rfl⟩, H.out, k2⟩
theorem pActs (Z : List Nat) (v : Value) (d : DS) (F : List Nat) (w : World) (h : PD Z w v d F) :
    Calls Try.prog 23 #[v] w fun e w' => e = .returned (.int .i64 d.acts) ∧ Kept [] w w' := by
  obtain ⟨g, R, rfl, h, -, -⟩ := h
  have c8 := h.blk.cell (j := 8) rfl
  clear h
  go_enter Try.func23, Try.ntmps23
  go_wp2
  go_ret
  exact ⟨rfl, Kept.refl _ _⟩
theorem pDead (Z : List Nat) (v : Value) (d : DS) (F : List Nat) (w : World) (h : PD Z w v d F) :
    Calls Try.prog 52 #[v] w fun e w' => e = .returned (.bool d.dead) ∧ Kept [] w w' := by
  obtain ⟨g, R, rfl, h, -, -⟩ := h
  have c10 := h.blk.cell (j := 10) rfl
  clear h
  generalize d.dead = z at *
  go_enter Try.func52, Try.ntmps52
  go_wp2
  go_ret
  exact ⟨rfl, Kept.refl _ _⟩
theorem pLogLen (Z : List Nat) (v : Value) (d : DS) (F : List Nat) (w : World) (h : PD Z w v d F) :
    Calls Try.prog 24 #[v] w fun e w' => e = .returned (.int .i64 (d.log.length : Int)) ∧ Kept [] w w' := by
  obtain ⟨g, R, rfl, h, -, -⟩ := h
  obtain ⟨p, c, e1, -⟩ := h.shapes
  have c6 := h.blk.cell (j := 6) (v := R.vlog) rfl
  rw [e1] at c6
  clear h e1
  go_enter Try.func24, Try.ntmps24
  go_wp2
  go_ret
  exact ⟨rfl, Kept.refl _ _⟩
theorem pShape (Z : List Nat) (v : Value) (d : DS) (F : List Nat) (w : World) (h : PD Z w v d F) :
    Calls Try.prog 53 #[v] w fun e w' => e = .returned (.agg #[.int .i64 (d.np : Int), .int .i64 (d.ns : Int), .int .i64 (d.lm : Int)]) ∧ Kept [] w w' := by
  obtain ⟨g, R, rfl, h, -, -⟩ := h
  have k0 := (Kept.refl [] w).alloc (.cells #[.int .i64 0, .int .i64 0, .int .i64 0] 23)
  have d0 := k0.cell (h.blk.cell (j := 0) rfl) (by simp)
  have d1 := k0.cell (h.blk.cell (j := 1) rfl) (by simp)
  have d2 := k0.cell (h.blk.cell (j := 2) rfl) (by simp)
  clear h
  go_enter Try.func53, Try.ntmps53
  go_wp2
  go_returns
  exact ⟨rfl, ((Kept.refl [] w).alloc _)⟩
/-- one call by the pointer: only the disk's own block turns -/
theorem PR.pd {w w' : World} {g : Nat} {d' : DS} {R : PDat} (h : ∃ l, PR w' g d' { R with left := l }) (k : Kept [g] w w') : PD R.Z w' (.pointer (some ⟨g, 0, none⟩)) d' (R.foot g) ∧ Next w w' (R.foot g) (R.foot g) := by
  obtain ⟨l, h⟩ := h
  exact ⟨⟨g, _, rfl, h, rfl, rfl⟩, Next.of k (by intro x hx; simp at hx; subst hx; exact PDat.self) (fun x hx => .inl hx)⟩
theorem pStop (Z : List Nat) (v : Value) (d : DS) (F : List Nat) (n : Int) (w : World) (h : PD Z w v d F) (hw : IntKind.i64.wrap n = n) :
    Calls Try.prog 44 #[v, .int .i64 n] w fun e w' => ∃ F', (∃ r, e = .returned r) ∧ PD Z w' v (d.halts n) F' ∧ Next w w' F F' := by
  obtain ⟨g, R, rfl, h, rfl, rfl⟩ := h
  refine (pstop_any g d R n w h hw).mono ?_
  rintro e w' ⟨h1, h2, h3⟩
  exact ⟨_, h1, PR.pd ⟨_, h2⟩ h3⟩
theorem pSyncLog (Z : List Nat) (v : Value) (d : DS) (F : List Nat) (w : World) (h : PD Z w v d F) :
    Calls Try.prog 70 #[v] w fun e w' => ∃ F', e = .returned (.int .i64 (aliveE d)) ∧ PD Z w' v (d.syncLog) F' ∧ Next w w' F F' := by
  obtain ⟨g, R, rfl, h, rfl, rfl⟩ := h
  refine (psyncLog_any g d R w h).mono ?_
  rintro e w' ⟨h1, h2, h3⟩
  exact ⟨_, h1, PR.pd h2 h3⟩
theorem pCut (Z : List Nat) (v : Value) (d : DS) (F : List Nat) (n : Int) (w : World) (h : PD Z w v d F) :
    Calls Try.prog 72 #[v, .int .i64 n] w fun e w' => ∃ F', e = .returned (.int .i64 (cutE d n)) ∧ PD Z w' v (d.cut n) F' ∧ Next w w' F F' := by
  obtain ⟨g, R, rfl, h, rfl, rfl⟩ := h
  refine (pcut_any g d R n w h).mono ?_
  rintro e w' ⟨R', h1, h2, h3, h4, h5⟩
  exact ⟨_, h1, ⟨g, R', rfl, h2, rfl, h3.symm⟩, Next.of h4 (by intro x hx; simp at hx; subst hx; exact PDat.self) h5⟩
theorem pAppend (Z : List Nat) (v : Value) (d : DS) (F : List Nat) (ub : Value) (b : List UInt8) (w : World) (h : PD Z w v d F) (hu : Bs w ub b) (hne : b ≠ [] → ∀ x, ub.ownBlock = some x → x ∉ F) :
    Calls Try.prog 22 #[v, ub] w fun e w' => ∃ F', e = .returned (.int .i64 (appendE d b)) ∧ PD Z w' v (d.append b) F' ∧ Next w w' F F' := by
  obtain ⟨g, R, rfl, h, rfl, rfl⟩ := h
  refine (pappend_any g d R ub b w h hu (fun h0 e => hne h0 g e PDat.self)).mono ?_
  rintro e w' ⟨R', h1, h2, h3, h4, h5⟩
  exact ⟨_, h1, ⟨g, R', rfl, h2, rfl, h3.symm⟩, Next.of h4 (by intro x hx; rcases List.mem_cons.1 hx with c | c; (rw [c]; exact PDat.self); exact PDat.inB (mem_blocks (k := 0) (v := R.vlog) rfl (by simpa using c))) h5⟩
/-- a read by the pointer -/
theorem PR.pdRead {w w' : World} {g : Nat} {d : DS} {R : PDat} {c : Value} {n : Nat} {xs : List Value} (hp : PR w g d R) (ho : w'.ownsRow w.heap.size 5 1 c n xs) (h : ∃ l, PR w' g d.act { R with left := l }) (k : Kept [g] w w') : (∀ x, c.ownBlock = some x → x ∉ R.foot g) ∧ PD R.Z w' (.pointer (some ⟨g, 0, none⟩)) d.act (R.foot g) ∧ Next w w' (R.foot g) (R.foot g) :=
  ⟨fun x hx hm => by have h8 := own_ge ho x hx; have h9 := hp.lt hm; omega, PR.pd h k⟩
theorem pReadLog (Z : List Nat) (v : Value) (d : DS) (F : List Nat) (f n : Int) (w : World) (h : PD Z w v d F) :
    Calls Try.prog 25 #[v, .int .i64 f, .int .i64 n] w fun e w' => ∃ c F', e = .returned (.tuple #[c, .int .i64 (readLogE d f n)]) ∧ w'.ownsRow w.heap.size 5 1 c (readLogL d f n).length (u8s (readLogL d f n)) ∧ (∀ x, c.ownBlock = some x → x ∉ F') ∧ PD Z w' v d.act F' ∧ Next w w' F F' := by
  obtain ⟨g, R, rfl, h, rfl, rfl⟩ := h
  refine (preadLog_any g d R f n w h).mono ?_
  rintro e w' ⟨c, h1, h2, h3, h4⟩
  exact ⟨c, _, h1, h2, h.pdRead h2 h3 h4⟩
theorem pReadPage (Z : List Nat) (v : Value) (d : DS) (F : List Nat) (n : Int) (w : World) (h : PD Z w v d F) :
    Calls Try.prog 19 #[v, .int .i64 n] w fun e w' => ∃ c F', e = .returned (.tuple #[c, .int .i64 (readE d (pageIx d.np n))]) ∧ w'.ownsRow w.heap.size 5 1 c (readL d (pageIx d.np n)).length (u8s (readL d (pageIx d.np n))) ∧ (∀ x, c.ownBlock = some x → x ∉ F') ∧ PD Z w' v d.act F' ∧ Next w w' F F' := by
  obtain ⟨g, R, rfl, h, rfl, rfl⟩ := h
  have hc := pagePlace_any g d R n w h
  have hr := readAt_any g d R (pageIx d.np n) w h (fun k hk => idxOf_lt (p := 0) (n := n) (by rw [idxOf_page]; exact hk))
  have H : Hid (PR w g d R) := h
  clear h
  go_enter Try.func19, Try.ntmps19
  go_wp2_with fail
  refine hc.mono ?_
  rintro e w1 ⟨rfl, rfl⟩
  go_wp2_with fail
  refine hr.mono ?_
  rintro e w2 ⟨c, rfl, h2, h3, h4⟩
  clear hc hr
  go_wp2
  go_ret2
  exact ⟨c, _, rfl, h2, H.out.pdRead h2 h3 h4⟩
theorem pReadPair (Z : List Nat) (v : Value) (d : DS) (F : List Nat) (w : World) (h : PD Z w v d F) :
    Calls Try.prog 75 #[v] w fun e w' => ∃ c F', e = .returned (.tuple #[c, .int .i64 (readE d (some 0))]) ∧ w'.ownsRow w.heap.size 5 1 c (readL d (some 0)).length (u8s (readL d (some 0))) ∧ (∀ x, c.ownBlock = some x → x ∉ F') ∧ PD Z w' v d.act F' ∧ Next w w' F F' := by
  obtain ⟨g, R, rfl, h, rfl, rfl⟩ := h
  have hc := pairPlace_any g d R w h
  have hr := readAt_any g d R (some 0) w h (fun k hk => by cases hk; omega)
  rw [plc_pair] at hr
  have H : Hid (PR w g d R) := h
  clear h
  go_enter Try.func75, Try.ntmps75
  go_wp2_with fail
  refine hc.mono ?_
  rintro e w1 ⟨rfl, rfl⟩
  go_wp2_with fail
  refine hr.mono ?_
  rintro e w2 ⟨c, rfl, h2, h3, h4⟩
  clear hc hr
  go_wp2
  go_ret2
  exact ⟨c, _, rfl, h2, H.out.pdRead h2 h3 h4⟩
theorem pReadMaster (Z : List Nat) (v : Value) (d : DS) (F : List Nat) (n : Int) (w : World) (h : PD Z w v d F) :
    Calls Try.prog 76 #[v, .int .i64 n] w fun e w' => ∃ c F', e = .returned (.tuple #[c, .int .i64 (readE d (masterIx d.np n))]) ∧ w'.ownsRow w.heap.size 5 1 c (readL d (masterIx d.np n)).length (u8s (readL d (masterIx d.np n))) ∧ (∀ x, c.ownBlock = some x → x ∉ F') ∧ PD Z w' v d.act F' ∧ Next w w' F F' := by
  obtain ⟨g, R, rfl, h, rfl, rfl⟩ := h
  have hc := masterPlace_any g d R n w h
  have hr := readAt_any g d R (masterIx d.np n) w h (fun k hk => idxOf_lt (p := 2) (n := n) (by rw [idxOf_master]; exact hk))
  have H : Hid (PR w g d R) := h
  clear h
  go_enter Try.func76, Try.ntmps76
  go_wp2_with fail
  refine hc.mono ?_
  rintro e w1 ⟨rfl, rfl⟩
  go_wp2_with fail
  refine hr.mono ?_
  rintro e w2 ⟨c, rfl, h2, h3, h4⟩
  clear hc hr
  go_wp2
  go_ret2
  exact ⟨c, _, rfl, h2, H.out.pdRead h2 h3 h4⟩
end Go.Proofs.Ytmipmiaflompmab

/-
  OWN WORK. The program's disk: a write.
-/
namespace Go.Proofs.Ytmipmiaflompmab
open Go.RowKit
set_option linter.unusedVariables false

theorem own_not_both {w : World} {b1 b2 e1 e2 n1 n2 : Nat} {v1 v2 : Value} {xs ys : List Value} (h1 : w.ownsRow b1 e1 1 v1 n1 xs) (h2 : w.ownsRow b2 e2 1 v2 n2 ys) (he : e1 ≠ e2) {x : Nat} (hx : v1.ownBlock = some x) (hy : v2.ownBlock = some x) : False := by
  rcases h1.2 with ⟨rfl, _⟩ | ⟨g1, cap1, cur1, rfl, -, a1, -⟩
  · cases hx
  · rcases h2.2 with ⟨rfl, _⟩ | ⟨g2, cap2, cur2, rfl, -, a2, -⟩
    · cases hy
    · simp [Value.ownBlock] at hx hy
      subst hx
      subst hy
      rw [a1] at a2
      simp at a2
      exact he a2.2
theorem PR.idxR {w : World} {g : Nat} {d : DS} {R : PDat} (h : PR w g d R) {j : Nat} {u : Value} (hu : R.pr[j]? = some u) : R.rows[(d.np + 3) + j + 1]? = some u ∧ j < d.np + 3 := by
  have hpl : R.pr.length = d.np + 3 := by have := h.rowR.1; omega
  have hll : R.pl.length = d.np + 3 := by have := h.rowL.1; omega
  have hj := (List.getElem?_eq_some_iff.1 hu).1
  refine ⟨?_, by omega⟩
  unfold PDat.rows
  rw [List.getElem?_cons_succ, List.getElem?_append_right (by omega), hll, show d.np + 3 + j - (d.np + 3) = j by omega]
  exact hu
theorem pall_set {d : DS} {k : Nat} {b : List UInt8} (hok : d.Ok) (hk : k < d.np + 3) : ({ d with loose := d.loose ++ [(k, b)] } : DS).pall = d.pall.set ((d.np + 3) + pix d.np k + 1) (over (d.seen.getD k []) 0 (b.take b.length)) := by
  have es : ({ d with loose := d.loose ++ [(k, b)] } : DS).seen = layR d.seen k b b.length := laid_snoc _ _ _
  unfold DS.pall
  rw [es, List.set_cons_succ, List.set_append_right _ _ (by rw [prows_length]; omega), prows_length, show d.np + 3 + pix d.np k - (d.np + 3) = pix d.np k by omega]
  show d.log :: (prows d.np d.rows ++ prows d.np (layR d.seen k b b.length)) = _
  rw [prows_layR hok.seenLen hk]
/-- one loose write more -/
theorem PR.wrote {w1 w3 w4 w5 : World} {g k gp gb : Nat} {d : DS} {R : PDat} {b : List UInt8} {vb u v5 : Value} (h : PR w1 g d R) (hok : ({ d with loose := d.loose ++ [(k, b)] } : DS).Ok) (hk : k < d.np + 3) (k13 : Kept [] w1 w3) (cap : Cap w3 gp gb (pix d.np k) vb b)
    (hgp : w1.heap.size ≤ gp ∧ gp < w3.heap.size) (hgb : w1.heap.size ≤ gb ∧ gb < w3.heap.size) (hvb : ∀ x, vb.ownBlock = some x → w1.heap.size ≤ x ∧ x < w3.heap.size)
    (hu : R.pr[pix d.np k]? = some u) (o4 : w4.ownsRow 0 5 1 u (over (d.seen.getD k []) 0 (b.take b.length)).length (u8s (over (d.seen.getD k []) 0 (b.take b.length)))) (k4 : Kept u.ownBlock.toList w3 w4)
    (o5 : w5.ownsRow 0 85 1 v5 (d.loose.length + 1) (R.fs ++ [theWrite gp gb])) (k5 : Kept R.vf.ownBlock.toList w4 w5) (at5 : ∀ x, v5.ownBlock = some x → R.vf.ownBlock = some x ∨ w4.heap.size ≤ x) :
    ∃ R', PR (w5.setCell ⟨g, 5, none⟩ v5) g { d with loose := d.loose ++ [(k, b)] } R' ∧ Kept (R.foot g) w1 (w5.setCell ⟨g, 5, none⟩ v5) ∧ (∀ x ∈ R'.foot g, x ∈ R.foot g ∨ w1.heap.size ≤ x) ∧ ∀ x ∈ R'.Z, x ∈ R.Z ∨ w1.heap.size ≤ x := by
  obtain ⟨f1, f2, f3, f4, f5⟩ := h.far
  obtain ⟨hui, hj⟩ := h.idxR hu
  have hub : ∀ x, u.ownBlock = some x → x ∈ blocks R.rows := fun x hx => mem_blocks hui hx
  have hu8 : ∀ x, u.ownBlock = some x → ¬ Not8 w1 x ∧ x < w1.heap.size := fun x hx => ⟨(h.fam.not8 (hub x hx)).1, (h.fam.not8 (hub x hx)).2.2⟩
  have hf8 : ∀ x, R.vf.ownBlock = some x → Not8 w1 x ∧ x < w1.heap.size := fun x hx => ⟨own_not8 h.rowF (by decide) x hx, own_lt h.rowF x hx⟩
  have glt := h.blk.lt
  have s13 := k13.size
  have s34 := k4.size
  have s45 := k5.size
  -- block by block
  have b3 := h.blk.kept k13 (by simp)
  have b4 := b3.kept k4 (fun hm => f4 (hub g (by simpa using hm)))
  have b5 := b4.kept k5 (fun hm => f3 (by simpa using hm))
  obtain ⟨b6, k6⟩ := b5.set 5 v5
  have k46 : Kept (g :: R.vf.ownBlock.toList) w4 (w5.setCell ⟨g, 5, none⟩ v5) := (k5.mono (by intro x hx; simp [hx])).trans k6 (by intro x hx; simp at hx; subst hx; exact .inl (by simp))
  have kAll : Kept (g :: (R.vf.ownBlock.toList ++ u.ownBlock.toList)) w1 (w5.setCell ⟨g, 5, none⟩ v5) := ((k13.mono (by simp)).trans (k4.mono (T := g :: (R.vf.ownBlock.toList ++ u.ownBlock.toList)) (by intro x hx; simp at hx; simp [hx])) (fun x hx => .inl hx)).trans k46 (by intro x hx; rcases List.mem_cons.1 hx with c | c; exact .inl (by simp [c]); exact .inl (by simp at c; simp [c]))
  have inAll : ∀ x ∈ g :: (R.vf.ownBlock.toList ++ u.ownBlock.toList), x = g ∨ R.vf.ownBlock = some x ∨ u.ownBlock = some x := fun x hx => by simpa using hx
  have allFoot : ∀ x ∈ g :: (R.vf.ownBlock.toList ++ u.ownBlock.toList), x ∈ R.foot g := fun x hx => by
    rcases inAll x hx with c | c | c
    · rw [c]; exact PDat.self
    · exact PDat.inF c
    · exact PDat.inB (hub x c)
  have sl : ∀ (z : Value) n xs, w1.ownsRow 0 25 1 z n xs → ∀ x, z.ownBlock = some x → x ∉ g :: (R.vf.ownBlock.toList ++ u.ownBlock.toList) := fun z n xs hz x hx hm => by
    rcases inAll x hm with c | c | c
    · exact h.blk.far hz (by decide) x hx c
    · exact own_not_both hz h.rowF (by decide) hx c
    · exact (hu8 x c).1 (own_not8 hz (by decide) x hx)
  have f3' : Fam w3 0 R.rows d.pall := h.fam.keptAll k13 (by simp)
  have f4' := Fam.set f3' _ u _ hui k4 o4
  have f6 : Fam (w5.setCell ⟨g, 5, none⟩ v5) 0 R.rows (d.pall.set ((d.np + 3) + pix d.np k + 1) (over (d.seen.getD k []) 0 (b.take b.length))) := f4'.keptAll k46 (fun x hx hm => by
    rcases List.mem_cons.1 hx with c | c
    · subst c; exact f4 hm
    · exact (h.fam.not8 hm).1 (hf8 x (by simpa using c)).1)
  refine ⟨{ R with vf := v5, fs := R.fs ++ [theWrite gp gb], Z := gp :: gb :: (vb.ownBlock.toList ++ R.Z) }, ?_, kAll.mono allFoot, ?_, ?_⟩
  · have hfoot : ∀ x ∈ ({ R with vf := v5, fs := R.fs ++ [theWrite gp gb], Z := gp :: gb :: (vb.ownBlock.toList ++ R.Z) } : PDat).foot g, x ∈ R.foot g ∨ w4.heap.size ≤ x := fun x hx => by
      unfold PDat.foot at hx ⊢
      simp only [List.mem_cons, List.mem_append, Option.mem_toList, PDat.rows] at hx ⊢
      rcases hx with c | ((c | c) | c) | c
      · exact .inl (.inl c)
      · exact .inl (.inr (.inl (.inl (.inl c))))
      · exact .inl (.inr (.inl (.inl (.inr c))))
      · rcases at5 x c with e | e
        · exact .inl (.inr (.inl (.inr e)))
        · exact .inr e
      · exact .inl (.inr (.inr c))
    refine ⟨hok, b6, ?_, own_of_kept h.rowL kAll (sl _ _ _ h.rowL), own_of_kept h.rowR kAll (sl _ _ _ h.rowR), ?_, ?_, h.apart, h.left, h.leftw, ?_⟩
    · rw [pall_set h.ok hk]
      exact f6
    · show World.ownsRow _ 0 _ 1 v5 (d.loose ++ [(k, b)]).length (R.fs ++ [theWrite gp gb])
      rw [List.length_append]
      exact own_of_kept o5 k6 (fun x hx hm => b5.far o5 (by decide) x hx (by simpa using hm))
    · intro i f x hf hx
      have hfl : R.fs.length = d.loose.length := by have := h.rowF.1; omega
      have hf : (R.fs ++ [theWrite gp gb])[i]? = some f := hf
      have hx : (d.loose ++ [(k, b)])[i]? = some x := hx
      by_cases hi : i < d.loose.length
      · rw [List.getElem?_append_left (by omega)] at hf hx
        refine ((h.loose i f x hf hx).kept kAll (fun y hy hm => (h.frz y hm).1 (allFoot y hy))).mono (by intro y hy; simp [hy])
      · rw [List.getElem?_append_right (by omega)] at hf hx
        rw [hfl] at hf
        have hi0 : i - d.loose.length = 0 := by
          have := (List.getElem?_eq_some_iff.1 hx).1
          simp at this; omega
        rw [hi0] at hf hx
        simp at hf hx
        subst hf; subst hx
        have late : ∀ x, w1.heap.size ≤ x → x ∉ g :: (R.vf.ownBlock.toList ++ u.ownBlock.toList) := fun x hx hm => by
          have := h.lt (allFoot x hm); omega
        have k36 : Kept (g :: (R.vf.ownBlock.toList ++ u.ownBlock.toList)) w3 (w5.setCell ⟨g, 5, none⟩ v5) := (k4.mono (by intro x hx; simp at hx; simp [hx])).trans k46 (by intro x hx; rcases List.mem_cons.1 hx with c | c; exact .inl (by simp [c]); exact .inl (by simp at c; simp [c]))
        exact ⟨gp, gb, vb, rfl, cap.kept k36 (late _ hgp.1) (late _ hgb.1) (fun x hx => late _ (hvb x hx).1), by simp, by simp, fun x hx => by simp [hx]⟩
    · intro x hx
      have s6 : (w5.setCell ⟨g, 5, none⟩ v5).heap.size = w5.heap.size := by simp
      have hx : x ∈ gp :: gb :: (vb.ownBlock.toList ++ R.Z) := hx
      have key : (x ∈ R.Z) ∨ (w1.heap.size ≤ x ∧ x < w3.heap.size) := by
        simp only [List.mem_cons, List.mem_append, Option.mem_toList] at hx
        rcases hx with c | c | c | c
        · exact .inr (by rw [c]; exact hgp)
        · exact .inr (by rw [c]; exact hgb)
        · exact .inr (hvb x c)
        · exact .inl c
      refine ⟨fun hm => ?_, ?_⟩
      · rcases hfoot x hm with c | c
        · rcases key with e | e
          · exact (h.frz x e).1 c
          · have := h.lt c; omega
        · rcases key with e | e
          · have := (h.frz x e).2; omega
          · omega
      · rw [s6]
        rcases key with e | e
        · have := (h.frz x e).2; omega
        · omega
  · intro x hx
    unfold PDat.foot at hx ⊢
    simp only [List.mem_cons, List.mem_append, Option.mem_toList, PDat.rows] at hx ⊢
    rcases hx with c | ((c | c) | c) | c
    · exact .inl (.inl c)
    · exact .inl (.inr (.inl (.inl (.inl c))))
    · exact .inl (.inr (.inl (.inl (.inr c))))
    · rcases at5 x c with e | e
      · exact .inl (.inr (.inl (.inr e)))
      · exact .inr (by omega)
    · exact .inl (.inr (.inr c))
  · intro x hx
    simp only [List.mem_cons, List.mem_append, Option.mem_toList] at hx
    rcases hx with c | c | c | c
    · exact .inr (by rw [c]; exact hgp.1)
    · exact .inr (by rw [c]; exact hgb.1)
    · exact .inr (hvb x c).1
    · exact .inl c
end Go.Proofs.Ytmipmiaflompmab

/-
  OWN WORK. The program's disk: WritePage, WritePair, WriteMaster.
-/
namespace Go.Proofs.Ytmipmiaflompmab
open Go.RowKit
set_option linter.unusedVariables false

/-- the cells of the loose writes: the old ones, and new ones -/
def Frz (w : World) (Z Z' : List Nat) : Prop := ∀ x ∈ Z', x ∈ Z ∨ w.heap.size ≤ x
theorem Frz.refl (w : World) (Z : List Nat) : Frz w Z Z := fun x hx => .inl hx
theorem keepN_one (n : Nat) : keepN 1 n = n := by unfold keepN; rw [if_neg (by omega), if_pos rfl]
theorem over_all {l b : List UInt8} (h : b.length = l.length) : (over l 0 (b.take b.length)).length = l.length := over0_length (by omega)
set_option maxHeartbeats 3200000 in
theorem writeAt_any (g : Nat) (d : DS) (R : PDat) (ix : Option Nat) (ub : Value) (b : List UInt8) (w : World) (h : PR w g d R) (hix : ∀ k, ix = some k → k < d.np + 3) (hu : Bs w ub b) (hne : b ≠ [] → ub.ownBlock ≠ some g) (hcap : (d.loose.length + 1) * 40 ≤ 140737488355328) :
    Calls Try.prog 58 #[.pointer (some ⟨g, 0, none⟩), .int .i64 (plc d.np ix), ub] w fun e w' => ∃ R', e = .returned (.int .i64 (writeE d ix b)) ∧ PR w' g (d.write ix b) R' ∧ Kept (R.foot g) w w' ∧ (∀ x ∈ R'.foot g, x ∈ R.foot g ∨ w.heap.size ≤ x) ∧ Frz w R.Z R'.Z := by
  have ha := pact_any g d R w h
  have hok := h.ok.write ix b hix
  obtain ⟨pu, cu, rfl, -⟩ := id hu
  obtain ⟨z, hz⟩ : ∃ z, z = d.alive := ⟨_, rfl⟩
  have kg : ∀ {w1 : World}, Kept [g] w w1 → Kept (R.foot g) w w1 := fun k => k.mono (by intro x hx; simp at hx; subst hx; exact PDat.self)
  cases z with
  | false =>
    have eA : aliveE d = 1 := by unfold aliveE; rw [← hz]; rfl
    have eE : writeE d ix b = 1 := by unfold writeE; rw [← hz]; rfl
    have ed : d.write ix b = d.act := by
      unfold DS.write
      rw [← hz]
      cases ix with
      | none => rfl
      | some k => simp
    rw [eA] at ha
    rw [eE, ed]
    generalize plc d.np ix = q
    clear hz eE ed hok h eA hix hu hne hcap
    go_enter Try.func58, Try.ntmps58
    go_wp2_with fail
    refine ha.mono ?_
    rintro e w1 ⟨rfl, ⟨l, h1⟩, k1⟩
    go_wp2
    go_ret
    exact ⟨_, rfl, h1, kg k1, fun x hx => .inl hx, Frz.refl _ _⟩
  | true =>
    have eA : aliveE d = 0 := by unfold aliveE; rw [← hz]; rfl
    rw [eA] at ha
    cases ix with
    | none =>
      have eE : writeE d none b = 61 := by unfold writeE; rw [← hz]; rfl
      have ed : d.write none b = d.act := rfl
      rw [eE, ed, show plc d.np none = -1 from rfl]
      clear hz eE ed hok h eA hix hu hne hcap
      go_enter Try.func58, Try.ntmps58
      go_wp2_with fail
      refine ha.mono ?_
      rintro e w1 ⟨rfl, ⟨l, h1⟩, k1⟩
      go_wp2
      go_ret
      exact ⟨_, rfl, h1, kg k1, fun x hx => .inl hx, Frz.refl _ _⟩
    | some k =>
      have hk := hix k rfl
      have hp := pix_lt hk
      have hne1 : ¬ (pix d.np k : Int) = -1 := by omega
      have hp0 : (0 : Int) ≤ (pix d.np k : Int) := by omega
      have hp1 : (pix d.np k : Int) < ((d.np + 3 : Nat) : Int) := by omega
      have hns := h.ok.ns
      have hnp := h.ok.np
      rw [plc_some]
      have HP : Hid (k < d.np + 3 ∧ d.ns ≤ 8 ∧ d.np ≤ 16 ∧ (d.loose.length + 1) * 40 ≤ 140737488355328) := ⟨hk, hns.2, hnp.2, hcap⟩
      have KG : Hid (∀ {w1 : World}, Kept [g] w w1 → Kept (R.foot g) w w1) := @kg
      by_cases hbl : b.length = sizeK d.np d.ns k
      · have eE : writeE d (some k) b = 0 := by unfold writeE; rw [← hz]; simp [hbl]
        have ed : d.write (some k) b = { d.act with loose := d.act.loose ++ [(k, b)] } := by unfold DS.write; simp [← hz, hbl, d.act_loose]
        rw [ed] at hok
        rw [eE, ed]
        generalize hjj : pix d.np k = j at *
        clear hz eE ed h eA hix hcap kg hk hp hns hnp
        have HB : Hid (b.length = sizeK d.np d.ns k) := hbl
        have HOK : Hid (({ d.act with loose := d.act.loose ++ [(k, b)] } : DS).Ok) := hok
        clear hbl hok
        go_enter Try.func58, Try.ntmps58
        go_wp2_with fail
        refine ha.mono ?_
        clear ha
        rintro e w1 ⟨rfl, ⟨l, h1⟩, k1⟩
        obtain ⟨gr, cr, u, ev, hui, hc, ho, hsz⟩ := h1.atR (k := k) (by rw [d.act_np]; exact HP.out.1)
        rw [d.act_np] at hc ev hsz hui
        rw [d.act_ns] at hsz
        rw [hjj] at hc hui
        simp only at ev hui
        have c4 := h1.blk.cell (j := 4) (v := R.vr) rfl
        rw [ev] at c4
        have hub : Bs w1 (.slice pu b.length cu) b := hu.keptNe k1 fun h0 x hx hm => hne h0 (by simp at hm; subst hm; exact hx)
        have hown := pown_any _ b w1 hub (by rw [HB.out]; have := sizeK_le d.np d.ns k HP.out.2.1; omega)
        have hsl := sameLen_any (.slice pu b.length cu) u b.length (d.act.seen.getD k []).length w1 ⟨_, _, rfl⟩ (own_shape2 ho)
        have hll : b.length = (d.act.seen.getD k []).length := by rw [hsz]; exact HB.out
        rw [decide_eq_true hll] at hsl
        obtain ⟨gu, cu', rfl, -⟩ := own_at8 ho (by rw [hsz]; exact sizeK_pos _ _ _)
        have H1 : Hid (PR w1 g d.act { R with left := l }) := h1
        have HO : Hid (w1.ownsRow 0 5 1 (.slice (some ⟨gu, 0, none⟩) (d.act.seen.getD k []).length cu') (d.act.seen.getD k []).length (u8s (d.act.seen.getD k []))) := ho
        have HLL : Hid (b.length = (d.act.seen.getD k []).length ∧ (d.act.seen.getD k []).length = sizeK d.np d.ns k) := ⟨hll, hsz⟩
        have HUI : Hid (R.pr[j]? = some (.slice (some ⟨gu, 0, none⟩) (d.act.seen.getD k []).length cu')) := hui
        have HEV : Hid (R.vr = .slice (some ⟨gr, 0, none⟩) (d.np + 3) cr) := ev
        have HJ : Hid (pix d.np k = j) := hjj
        clear h1 ho hll hsz hui ev hu hne hub hjj
        generalize hLg : d.act.seen.getD k [] = L at *
        go_wp2_with fail
        refine hsl.mono ?_
        rintro e w1' ⟨rfl, rfl⟩
        clear hsl
        go_wp2_with fail
        refine hown.mono ?_
        rintro e w2 ⟨vb, rfl, o2, k2⟩
        clear hown
        have hwo := writeOf_any j vb b w2 (Bs.ofOwn o2)
        go_wp2_with fail
        refine hwo.mono ?_
        rintro e w3 ⟨rfl, cp, k3, s3⟩
        clear hwo
        have k13 := k2.then k3
        have y4 := k13.cell c4 (by simp)
        have yc := k13.cell hc (by simp)
        have gulow : gu < w1'.heap.size := own_lt HO.out gu rfl
        have gu8 := (H1.out.fam.not8 (x := gu) (mem_blocks (H1.out.idxR (u := .slice (some ⟨gu, 0, none⟩) L.length cu') (by simp only; exact HUI.out)).1 rfl)).1
        have hgr : gr ≠ gu := fun e => gu8 (by rw [← e]; exact own_not8 H1.out.rowR (by decide) gr (by simp only; rw [HEV.out]; rfl))
        have hs2 := k2.size
        have hlay := write1_lays w2.heap.size (w2.heap.size + 1) j vb b gr (d.np + 3) cr 0 (.slice (some ⟨gu, 0, none⟩) L.length cu') L 1 w3 cp (by have := pix_lt HP.out.1; rw [HJ.out] at this; exact this) (by have := HP.out.2.2.1; omega) yc (own_of_kept HO.out k13 (by simp)) HLL.out.1 (by rw [HLL.out.2]; exact sizeK_pos _ _ _) (by rw [HB.out]; have := sizeK_le d.np d.ns k HP.out.2.1; omega) (wrap_i64_of (by omega) (by omega)) (fun x hx => by simp [Value.ownBlock] at hx; subst hx; exact ⟨by omega, Ne.symm hgr, by omega⟩)
        rw [keepN_one] at hlay
        have CP : Hid (Cap w3 w2.heap.size (w2.heap.size + 1) j vb b ∧ Kept [] w1' w3 ∧ w3.heap.size = w2.heap.size + 2) := ⟨cp, k13, s3⟩
        have O2 : Hid (w2.ownsRow w1'.heap.size 5 1 vb b.length (u8s b)) := o2
        clear cp k13 s3 o2 k3 c4 hc
        have gF := H1.out.far
        have b3 := H1.out.blk.kept CP.out.2.1 (by simp)
        have ng4 : g ∉ (Value.slice (some ⟨gu, 0, none⟩) L.length cu').ownBlock.toList := fun hm => by
          simp [Value.ownBlock] at hm
          exact gu8 (by rw [← hm]; exact H1.out.blk.not8 (by decide))
        obtain ⟨pf, cf, ef⟩ := own_shape2 H1.out.rowF
        simp only at ef
        rw [d.act_loose] at ef
        unfold theWrite
        go_wp2_with fail
        refine hlay.mono ?_
        rintro e w4 ⟨rfl, o4, k4⟩
        clear hlay y4 yc
        have b4 := b3.kept k4 ng4
        have c5 := b4.cell (j := 5) (v := R.vf) rfl
        rw [ef] at c5
        have kb := (Kept.refl [] w4).alloc (.cells #[.func (.func 85) #[] #[.pointer (some ⟨w2.heap.size, 0, none⟩), .pointer (some ⟨w2.heap.size + 1, 0, none⟩)]] 85)
        have hnews : ∀ (j : Nat) u, [theWrite w2.heap.size (w2.heap.size + 1)][j]? = some u → (w4.alloc (.cells #[.func (.func 85) #[] #[.pointer (some ⟨w2.heap.size, 0, none⟩), .pointer (some ⟨w2.heap.size + 1, 0, none⟩)]] 85)).cell? ((⟨w4.heap.size, 0, none⟩ : Addr).add j) = some u := fun j u hj => by
          rw [add_none rfl]
          rcases j with _ | j
          · simp at hj; subst hj
            simp [go_sem, theWrite]
          · simp at hj
        have rF4 := (own_of_kept (own_of_kept (own_of_kept H1.out.rowF CP.out.2.1 (by simp)) k4 (fun x hx hm => by simp [Value.ownBlock] at hm; subst hm; exact gu8 (own_not8 H1.out.rowF (by decide) x hx))) kb (by simp))
        simp only at rF4
        rw [ef, d.act_loose] at rF4
        clear b3
        go_wp2_with (at_builtin; refine wpList_append_own2 rfl (.tmp 40) (.tmp 42) 81 rfl 0 85 Try.underlying81 .nilFunc 8 (by kernel_rfl) rfl _ _ _ (by rfl) rF4 ⟨w4.heap.size, 0, none⟩ 1 1 [theWrite w2.heap.size (w2.heap.size + 1)] (by rfl) rfl hnews (by simp [theWrite, Value.oneCell']) (by have := HP.out.2.2.2; unfold maxLen; omega) (by have := HP.out.2.2.2; omega) (Nat.zero_le _) ?_; intro v5 w5 o5 g5 at5; obtain ⟨p5, c5', rfl⟩ := own_shape2 o5; have k5 : Kept (Value.slice pf d.loose.length cf).ownBlock.toList w4 w5 := (kb.mono (by simp)).trans (Kept.ofGrown (S := (Value.slice pf d.loose.length cf).ownBlock.toList) g5 (by intro k e _; simp [e])) (fun x hx => .inl hx); have b5 := b4.kept k5 (fun hm => gF.2.2.1 (by show R.vf.ownBlock = some g; rw [ef]; simpa using hm)); have y5 := b5.cell (j := 5) (v := R.vf) rfl; have z5 := b5.free 5; rw [ef] at y5)
        have hw5 : ∀ x, (Value.slice p5 (d.loose.length + 1) c5').ownBlock = some x → R.vf.ownBlock = some x ∨ w4.heap.size ≤ x := fun x hx => by
          rcases at5 with e | e
          · rw [e] at hx; rw [ef]; exact .inl hx
          · rw [e.1] at hx; cases hx; exact .inr (by simp)
        have hvb : ∀ x, vb.ownBlock = some x → w1'.heap.size ≤ x ∧ x < w3.heap.size := fun x hx => ⟨own_ge O2.out x hx, by have := own_lt O2.out x hx; have := CP.out.2.2; omega⟩
        have e4 : (over L 0 (b.take b.length)).length = L.length := over_all HLL.out.1
        obtain ⟨R', r1, r2, r3, r4⟩ := H1.out.wrote (k := k) (b := b) (gp := w2.heap.size) (gb := w2.heap.size + 1) (vb := vb) (u := .slice (some ⟨gu, 0, none⟩) L.length cu') (v5 := .slice p5 (d.loose.length + 1) c5') HOK.out (by rw [d.act_np]; exact HP.out.1) CP.out.2.1 (by rw [d.act_np, HJ.out]; exact CP.out.1) ⟨hs2, by have := CP.out.2.2; omega⟩ ⟨by omega, by have := CP.out.2.2; omega⟩ hvb (by rw [d.act_np, HJ.out]; exact HUI.out) (by rw [hLg, e4]; exact o4) k4 (by rw [d.act_loose]; exact o5) (by show Kept R.vf.ownBlock.toList w4 w5; rw [ef]; exact k5) hw5
        have s1 := k1.size
        go_ret
        exact ⟨R', rfl, r1, (KG.out k1).trans r2 (fun x hx => .inl hx), fun x hx => by rcases r3 x hx with c | c; exact .inl c; exact .inr (by omega), fun x hx => by rcases r4 x hx with c | c; exact .inl c; exact .inr (by omega)⟩
      · have eE : writeE d (some k) b = 62 := by unfold writeE; rw [← hz]; simp [hbl]
        have ed : d.write (some k) b = d.act := by unfold DS.write; simp [hbl]
        rw [eE, ed]
        generalize hjj : pix d.np k = j at *
        clear hz eE ed h eA hix hcap kg hk hp hns hnp hok
        have HB : Hid (¬ b.length = sizeK d.np d.ns k) := hbl
        clear hbl
        go_enter Try.func58, Try.ntmps58
        go_wp2_with fail
        refine ha.mono ?_
        clear ha
        rintro e w1 ⟨rfl, ⟨l, h1⟩, k1⟩
        obtain ⟨gr, cr, u, ev, hui, hc, ho, hsz⟩ := h1.atR (k := k) (by rw [d.act_np]; exact HP.out.1)
        rw [d.act_np] at hc ev hsz hui
        rw [d.act_ns] at hsz
        rw [hjj] at hc hui
        simp only at ev hui
        have c4 := h1.blk.cell (j := 4) (v := R.vr) rfl
        rw [ev] at c4
        have hsl := sameLen_any (.slice pu b.length cu) u b.length (d.act.seen.getD k []).length w1 ⟨_, _, rfl⟩ (own_shape2 ho)
        rw [decide_eq_false (by rw [hsz]; exact HB.out)] at hsl
        obtain ⟨gu, cu', rfl, -⟩ := own_at8 ho (by rw [hsz]; exact sizeK_pos _ _ _)
        have H1 : Hid (PR w1 g d.act { R with left := l }) := h1
        clear h1 ho hsz hui ev hu hne hjj
        generalize hLg : d.act.seen.getD k [] = L at *
        go_wp2_with fail
        refine hsl.mono ?_
        rintro e w1' ⟨rfl, rfl⟩
        clear hsl c4 hc
        go_wp2
        go_ret
        exact ⟨_, rfl, H1.out, KG.out k1, fun x hx => .inl hx, Frz.refl _ _⟩
theorem PR.pdWrite {w w' : World} {g : Nat} {d' : DS} {R R' : PDat} (h1 : PR w' g d' R') (h2 : Kept (R.foot g) w w') (h3 : ∀ x ∈ R'.foot g, x ∈ R.foot g ∨ w.heap.size ≤ x) : PD R'.Z w' (.pointer (some ⟨g, 0, none⟩)) d' (R'.foot g) ∧ Next w w' (R.foot g) (R'.foot g) :=
  ⟨⟨g, R', rfl, h1, rfl, rfl⟩, h2, h3⟩
theorem pWritePage (Z : List Nat) (v : Value) (d : DS) (F : List Nat) (n : Int) (ub : Value) (b : List UInt8) (w : World) (h : PD Z w v d F) (hu : Bs w ub b) (hne : b ≠ [] → ∀ x, ub.ownBlock = some x → x ∉ F) (hcap : (d.loose.length + 1) * 40 ≤ 140737488355328) :
    Calls Try.prog 20 #[v, .int .i64 n, ub] w fun e w' => ∃ F' Z', e = .returned (.int .i64 (writeE d (pageIx d.np n) b)) ∧ PD Z' w' v (d.write (pageIx d.np n) b) F' ∧ Next w w' F F' ∧ Frz w Z Z' := by
  obtain ⟨g, R, rfl, h, rfl, rfl⟩ := h
  have hc := pagePlace_any g d R n w h
  have hr := writeAt_any g d R (pageIx d.np n) ub b w h (fun k hk => idxOf_lt (p := 0) (n := n) (by rw [idxOf_page]; exact hk)) hu (fun h0 e => hne h0 g e PDat.self) hcap
  obtain ⟨pu, cu, rfl, -⟩ := id hu
  clear h hu hne hcap
  go_enter Try.func20, Try.ntmps20
  go_wp2_with fail
  refine hc.mono ?_
  rintro e w1 ⟨rfl, rfl⟩
  go_wp2_with fail
  refine hr.mono ?_
  rintro e w2 ⟨R', rfl, h2, h3, h4, h5⟩
  clear hc hr
  go_wp2
  go_ret
  obtain ⟨q1, q2⟩ := PR.pdWrite h2 h3 h4
  exact ⟨_, _, rfl, q1, q2, h5⟩
theorem pWritePair (Z : List Nat) (v : Value) (d : DS) (F : List Nat) (ub : Value) (b : List UInt8) (w : World) (h : PD Z w v d F) (hu : Bs w ub b) (hne : b ≠ [] → ∀ x, ub.ownBlock = some x → x ∉ F) (hcap : (d.loose.length + 1) * 40 ≤ 140737488355328) :
    Calls Try.prog 64 #[v, ub] w fun e w' => ∃ F' Z', e = .returned (.int .i64 (writeE d (some 0) b)) ∧ PD Z' w' v (d.write (some 0) b) F' ∧ Next w w' F F' ∧ Frz w Z Z' := by
  obtain ⟨g, R, rfl, h, rfl, rfl⟩ := h
  have hc := pairPlace_any g d R w h
  have hr := writeAt_any g d R (some 0) ub b w h (fun k hk => by cases hk; omega) hu (fun h0 e => hne h0 g e PDat.self) hcap
  rw [plc_pair] at hr
  obtain ⟨pu, cu, rfl, -⟩ := id hu
  clear h hu hne hcap
  go_enter Try.func64, Try.ntmps64
  go_wp2_with fail
  refine hc.mono ?_
  rintro e w1 ⟨rfl, rfl⟩
  go_wp2_with fail
  refine hr.mono ?_
  rintro e w2 ⟨R', rfl, h2, h3, h4, h5⟩
  clear hc hr
  go_wp2
  go_ret
  obtain ⟨q1, q2⟩ := PR.pdWrite h2 h3 h4
  exact ⟨_, _, rfl, q1, q2, h5⟩
theorem pWriteMaster (Z : List Nat) (v : Value) (d : DS) (F : List Nat) (n : Int) (ub : Value) (b : List UInt8) (w : World) (h : PD Z w v d F) (hu : Bs w ub b) (hne : b ≠ [] → ∀ x, ub.ownBlock = some x → x ∉ F) (hcap : (d.loose.length + 1) * 40 ≤ 140737488355328) :
    Calls Try.prog 65 #[v, .int .i64 n, ub] w fun e w' => ∃ F' Z', e = .returned (.int .i64 (writeE d (masterIx d.np n) b)) ∧ PD Z' w' v (d.write (masterIx d.np n) b) F' ∧ Next w w' F F' ∧ Frz w Z Z' := by
  obtain ⟨g, R, rfl, h, rfl, rfl⟩ := h
  have hc := masterPlace_any g d R n w h
  have hr := writeAt_any g d R (masterIx d.np n) ub b w h (fun k hk => idxOf_lt (p := 2) (n := n) (by rw [idxOf_master]; exact hk)) hu (fun h0 e => hne h0 g e PDat.self) hcap
  obtain ⟨pu, cu, rfl, -⟩ := id hu
  clear h hu hne hcap
  go_enter Try.func65, Try.ntmps65
  go_wp2_with fail
  refine hc.mono ?_
  rintro e w1 ⟨rfl, rfl⟩
  go_wp2_with fail
  refine hr.mono ?_
  rintro e w2 ⟨R', rfl, h2, h3, h4, h5⟩
  clear hc hr
  go_wp2
  go_ret
  obtain ⟨q1, q2⟩ := PR.pdWrite h2 h3 h4
  exact ⟨_, _, rfl, q1, q2, h5⟩
end Go.Proofs.Ytmipmiaflompmab

/-
  OWN WORK. The program's disk: some of the places; a sync, in plain words.
-/
namespace Go.Proofs.Ytmipmiaflompmab
open Go.RowKit
set_option linter.unusedVariables false

theorem layR_comm {rows : List (List UInt8)} {k k' : Nat} {b b' : List UInt8} {n n' : Nat} (h : k ≠ k') : layR (layR rows k b n) k' b' n' = layR (layR rows k' b' n') k b n := by
  unfold layR
  have g : ∀ (i j : Nat) (x : List UInt8), i ≠ j → (rows.set i x).getD j [] = rows.getD j [] := fun i j x hij => by
    rw [List.getD_eq_getElem?_getD, List.getElem?_set_ne hij, ← List.getD_eq_getElem?_getD]
  rw [g k k' _ h, g k' k _ (Ne.symm h), List.set_comm _ _ h]
theorem laid_lay {rows : List (List UInt8)} {k : Nat} {b : List UInt8} {n : Nat} (xs : List (Nat × List UInt8)) : ∀ rows : List (List UInt8), (∀ y ∈ xs, y.1 ≠ k) → layR (laid rows xs) k b n = laid (layR rows k b n) xs := by
  induction xs with
  | nil => intro rows _; rfl
  | cons y ys ih =>
    intro rows h
    show layR (laid (layR rows y.1 y.2 y.2.length) ys) k b n = laid (layR (layR rows k b n) y.1 y.2 y.2.length) ys
    rw [ih _ (fun z hz => h z (by simp [hz])), layR_comm (h y (by simp))]
/-- a sync of some places lays their writes first: what is read stays -/
theorem laid_filter (p : Nat → Bool) (xs : List (Nat × List UInt8)) : ∀ rows : List (List UInt8), laid (laid rows (xs.filter fun x => p x.1)) (xs.filter fun x => !p x.1) = laid rows xs := by
  induction xs with
  | nil => intro rows; rfl
  | cons x xs ih =>
    intro rows
    cases hp : p x.1 with
    | true =>
      rw [List.filter_cons_of_pos (by simp [hp]), List.filter_cons_of_neg (by simp [hp])]
      exact ih _
    | false =>
      rw [List.filter_cons_of_neg (by simp [hp]), List.filter_cons_of_pos (by simp [hp])]
      show laid (layR (laid rows (xs.filter fun x => p x.1)) x.1 x.2 x.2.length) (xs.filter fun x => !p x.1) = laid (layR rows x.1 x.2 x.2.length) xs
      rw [laid_lay (rows := rows) _ _ (fun y hy e => ?_)]
      · exact ih _
      · have := (List.mem_filter.1 hy).2
        rw [e, hp] at this
        cases this
theorem sync_seen (d : DS) (m : Bool) : (d.sync m).seen = d.seen := by
  unfold DS.sync
  split
  · exact laid_filter (fun k => isMaster d.np k == m) d.loose d.rows
  · exact d.act_seen
def someOf (pv : List Value) (n a m : Nat) : List Value := splice (nils n) a ((pv.drop a).take m)
theorem someOf_length {pv : List Value} {n a m : Nat} (hp : pv.length = n) (h : a + m ≤ n) : (someOf pv n a m).length = n := by
  unfold someOf
  rw [length_splice _ _ _ (by rw [nils_length]; simp; omega), nils_length]
theorem someOf_at {pv : List Value} {n a m j : Nat} (hp : pv.length = n) (h : a + m ≤ n) (hj : j < n) : (someOf pv n a m)[j]? = if a ≤ j ∧ j < a + m then pv[j]? else some (.slice none 0 0) := by
  have hl : ((pv.drop a).take m).length = m := by simp; omega
  unfold someOf splice
  rw [hl]
  have ha : ((nils n).take a).length = a := by simp [nils]; omega
  by_cases c1 : j < a
  · rw [if_neg (by omega), List.getElem?_append_left (by omega), List.getElem?_take, if_pos c1]
    simp [nils, hj]
  · rw [List.getElem?_append_right (by omega), ha]
    by_cases c2 : j < a + m
    · rw [if_pos ⟨by omega, c2⟩, List.getElem?_append_left (by omega), List.getElem?_take, if_pos (by omega), List.getElem?_drop]
      congr 1; omega
    · rw [if_neg (by omega), List.getElem?_append_right (by omega), List.getElem?_drop, hl]
      unfold nils
      rw [List.getElem?_replicate, if_pos (by omega)]
set_option maxHeartbeats 1600000 in
theorem only_any (v : Value) (b0 n a m : Nat) (q : Int) (pv : List Value) (w : World) (hrow : w.ownsRow b0 25 1 v n pv) (hq : q = (a : Int) + (m : Int)) (ham : a + m ≤ n) (han : a < n) (hn : n ≤ 1000) (h1 : ∀ u ∈ pv, u.oneCell' = true) :
    Calls Try.prog 87 #[v, .int .i64 (a : Int), .int .i64 q] w fun e w' => e = .returned (.slice (some ⟨w.heap.size, 0, none⟩) n n) ∧ w'.ownsRow w.heap.size 25 1 (.slice (some ⟨w.heap.size, 0, none⟩) n n) n (someOf pv n a m) ∧ Kept [] w w' := by
  subst hq
  have hpl : pv.length = n := by have := hrow.1; omega
  have hmk := run_make_sl (P := Try.prog) w 69 25 Try.underlying69 (by kernel_rfl) n hn
  obtain ⟨gP, cP, rfl, hcP, -⟩ := own_at8 hrow (by omega)
  have hcut1 : ∀ u, (Instr.slice 69 (.slice (some ⟨w.heap.size, 0, none⟩) n n) (some (.int .i64 (a : Int))) (some (.int .i64 ((a : Int) + (m : Int)))) none).run Try.prog u = .ok (.slice (some ⟨w.heap.size, a, none⟩) m (n - a)) u := fun u => by
    have := run_cut_mid (P := Try.prog) u 69 25 Try.underlying69 (by kernel_rfl) (some ⟨w.heap.size, 0, none⟩) n n a m (by omega)
    rw [if_neg (by omega)] at this
    rw [this]
    simp [add_none]
  have hcut2 : ∀ u, (Instr.slice 69 (.slice (some ⟨gP, 0, none⟩) n cP) (some (.int .i64 (a : Int))) (some (.int .i64 ((a : Int) + (m : Int)))) none).run Try.prog u = .ok (.slice (some ⟨gP, a, none⟩) m (cP - a)) u := fun u => by
    have := run_cut_mid (P := Try.prog) u 69 25 Try.underlying69 (by kernel_rfl) (some ⟨gP, 0, none⟩) n cP a m (by omega)
    rw [if_neg (by omega)] at this
    rw [this]
    simp [add_none]
  obtain ⟨w1, hw1⟩ : ∃ w1, w1 = w.alloc (.cells (madeCells #[.slice none 0 0] n) 25) := ⟨_, rfl⟩
  have k1 : Kept [] w w1 := by rw [hw1]; exact (Kept.refl [] w).alloc _
  have hg1 : w1.heap[w.heap.size]? = some (.cells (nils n).toArray 25 (0, 0)) := by
    have e : madeCells #[.slice none 0 0] n = (nils n).toArray := by
      apply Array.toList_inj.1
      rw [toList_madeCells_one]
      simp [nils]
    rw [hw1, e]
    exact heap_alloc_new _ _
  have hcs : ∀ (j : Nat) u, ((pv.drop a).take m)[j]? = some u → w1.drew.cell? ((⟨gP, a, none⟩ : Addr).add j) = some u := fun j u hj => by
    rw [add_none rfl]
    rw [List.getElem?_take] at hj
    split at hj
    · rw [List.getElem?_drop] at hj
      exact k1.drew.cell (own_cell hrow hj).1 (by simp)
    · cases hj
  obtain ⟨cs, hcsd⟩ : ∃ cs, cs = (pv.drop a).take m := ⟨_, rfl⟩
  have hl : cs.length = m := by rw [hcsd]; simp; omega
  have HW1 : Hid (w1 = w.alloc (.cells (madeCells #[.slice none 0 0] n) 25)) := hw1
  have HCS : Hid (cs = (pv.drop a).take m) := hcsd
  have HALL : Hid ((∀ (j : Nat) u, cs[j]? = some u → w1.drew.cell? ((⟨gP, a, none⟩ : Addr).add j) = some u) ∧ cs.length = m ∧ (∀ u ∈ cs, u.oneCell' = true) ∧ a + cs.length ≤ (nils n).length ∧ RowKit.Below w.heap.size w w1.drew ∧ n ≤ maxLen) := ⟨by rw [hcsd]; exact hcs, hl, fun u hu => h1 u (by rw [hcsd] at hu; exact List.mem_of_mem_drop (List.mem_of_mem_take hu)), by rw [nils_length, hl]; exact ham, k1.drew.below, by unfold maxLen; omega⟩
  have hsome : splice (nils n) a cs = someOf pv n a m := by rw [hcsd]; rfl
  have HS : Hid (splice (nils n) a cs = someOf pv n a m ∧ (someOf pv n a m).length = n) := ⟨hsome, someOf_length hpl ham⟩
  clear hrow hcs hcsd hl h1 hw1 ham han hn hpl hcP k1 hsome
  go_enter Try.func87, Try.ntmps87
  go_wp2
  rw [← HW1.out]
  go_region_held3 (fun _ => True) (trivial)
    (first
      | (refine step_copy_splice rfl (.tmp 14) (.tmp 18) 69 69 rfl 25 Try.underlying69 (by kernel_rfl) (some ⟨w.heap.size, a, none⟩) (some ⟨gP, a, none⟩) m (n - a) m (cP - a) (by rfl) (by rfl) w.heap.size a (nils n) 25 hg1 cs (by rw [HALL.out.2.1]; simp) (fun _ => ⟨rfl, _, rfl, HALL.out.1⟩) HALL.out.2.2.2.1 HALL.out.2.2.1 w.heap.size w HALL.out.2.2.2.2.1 (Nat.le_refl _) ?_; intro w4 hg4 hb4)
      | fail)
  clear hcut1 hcut2 hmk
  go_wp2
  go_ret
  have hg5 := hg4.out
  rw [HS.out.1] at hg5
  exact ⟨rfl, ⟨by rw [HS.out.2]; omega, .inr ⟨w.heap.size, n, _, rfl, Nat.le_refl _, hg5, Nat.le_refl _, HALL.out.2.2.2.2.2, by simp [HS.out.2], by rw [Nat.mul_one]; exact List.take_of_length_le (by have := HS.out.2; simp; omega)⟩⟩, Kept.ofBelow hb4⟩
end Go.Proofs.Ytmipmiaflompmab

/-
  OWN WORK. The program's disk: a sync; what its loop keeps.
-/
namespace Go.Proofs.Ytmipmiaflompmab
open Go.RowKit
set_option linter.unusedVariables false

structure PySt (w1 : World) (d : DS) (R : PDat) (p : Nat → Bool) (vs : Value) (ss : List Value) (wr : World) (i : Nat) (vo : Value) (os : List Value) : Prop where
  fam : Fam wr 0 R.rows (d.log :: (prows d.np (laid d.rows ((d.loose.take i).filter fun x => p x.1)) ++ prows d.np d.seen))
  kept : Kept (blocks R.pl) w1 wr
  row : wr.ownsRow w1.heap.size 85 1 vo os.length os
  sm : wr.ownsRow w1.heap.size 25 1 vs (d.np + 3) ss
  len : os.length = ((d.loose.take i).filter fun x => !p x.1).length
  lo : ∀ (j : Nat) f x, os[j]? = some f → ((d.loose.take i).filter fun x => !p x.1)[j]? = some x → Lo d.np R.Z w1 f x.1 x.2
theorem PR.idxL {w : World} {g : Nat} {d : DS} {R : PDat} (h : PR w g d R) {j : Nat} {u : Value} (hu : R.pl[j]? = some u) : R.rows[j + 1]? = some u ∧ j < d.np + 3 := by
  have hll : R.pl.length = d.np + 3 := by have := h.rowL.1; omega
  have hj := (List.getElem?_eq_some_iff.1 hu).1
  refine ⟨?_, by omega⟩
  unfold PDat.rows
  rw [List.getElem?_cons_succ, List.getElem?_append_left (by omega)]
  exact hu
theorem blocks_left {a b : List Value} {x : Nat} (h : x ∈ blocks a) : x ∈ blocks (a ++ b) := by
  obtain ⟨k, v, hv, hx⟩ := blocks_mem h
  exact mem_blocks (k := k) (by rw [List.getElem?_append_left (List.getElem?_eq_some_iff.1 hv).1]; exact hv) hx
theorem blocks_right {a b : List Value} {x : Nat} (h : x ∈ blocks b) : x ∈ blocks (a ++ b) := by
  obtain ⟨k, v, hv, hx⟩ := blocks_mem h
  exact mem_blocks (k := a.length + k) (by rw [List.getElem?_append_right (by omega)]; simpa using hv) hx
theorem PDat.inPl {R : PDat} {g x : Nat} (h : x ∈ blocks R.pl) : x ∈ R.foot g := PDat.inB (blocks_tail (blocks_left h))
/-- how the rows stand behind i writes -/
theorem PySt.rowsLen {w1 wr : World} {d : DS} {R : PDat} {p : Nat → Bool} {vs : Value} {ss : List Value} {i : Nat} {vo : Value} {os : List Value} {g : Nat} (h : PR w1 g d R) : (laid d.rows ((d.loose.take i).filter fun x => p x.1)).length = d.np + 3 ∧ Sized d.np d.ns (laid d.rows ((d.loose.take i).filter fun x => p x.1)) :=
  ⟨(laid_length _ _).trans h.ok.len, Sized.laid _ h.ok.row fun x hx => (h.ok.loose x (List.mem_of_mem_take (List.mem_filter.1 hx).1)).2⟩
theorem PySt.start {w1 w2 : World} {d : DS} {R : PDat} {p : Nat → Bool} {vs : Value} {ss : List Value} {g : Nat} (h : PR w1 g d R) (k : Kept [] w1 w2) (ho : w2.ownsRow w1.heap.size 25 1 vs (d.np + 3) ss) : PySt w1 d R p vs ss w2 0 (.slice none 0 0) [] :=
  ⟨by rw [List.take_zero, List.filter_nil]; exact h.fam.keptAll k (by simp), k.mono (by simp), World.ownsRow_nil _ _ _ _, ho, by simp, fun j f x hf => by simp at hf⟩
theorem PySt.lays {w1 wr w4 : World} {d : DS} {R : PDat} {p : Nat → Bool} {vs : Value} {ss : List Value} {i g : Nat} {vo u : Value} {os : List Value} {x : Nat × List UInt8} (h : PR w1 g d R) (st : PySt w1 d R p vs ss wr i vo os) (hx : d.loose[i]? = some x) (hp : p x.1 = true) (hu : R.pl[pix d.np x.1]? = some u)
    (o4 : w4.ownsRow 0 5 1 u (over ((laid d.rows ((d.loose.take i).filter fun x => p x.1)).getD x.1 []) 0 (x.2.take x.2.length)).length (u8s (over ((laid d.rows ((d.loose.take i).filter fun x => p x.1)).getD x.1 []) 0 (x.2.take x.2.length)))) (k4 : Kept u.ownBlock.toList wr w4) : PySt w1 d R p vs ss w4 (i + 1) vo os := by
  have hk := (h.ok.loose x (List.mem_of_getElem? hx)).1
  obtain ⟨hl, hsz⟩ := PySt.rowsLen (p := p) (i := i) (wr := w4) (vs := vs) (ss := ss) (vo := vo) (os := os) h
  have e1 : (d.loose.take (i + 1)).filter (fun x => p x.1) = (d.loose.take i).filter (fun x => p x.1) ++ [x] := by rw [filter_snoc _ _ _ _ hx, hp, if_pos rfl]
  have e2 : (d.loose.take (i + 1)).filter (fun x => !p x.1) = (d.loose.take i).filter (fun x => !p x.1) := by rw [filter_snoc _ _ _ _ hx, hp]; simp
  have ub : ∀ y, u.ownBlock = some y → y ∈ blocks R.pl := fun y hy => mem_blocks hu hy
  have n8 : ∀ y, u.ownBlock = some y → ¬ Not8 wr y := fun y hy => (st.fam.not8 (mem_blocks (h.idxL hu).1 hy)).1
  refine ⟨?_, st.kept.trans k4 (fun y hy => .inl (ub y (by simpa using hy))), own_of_kept st.row k4 (fun y hy hm => n8 y (by simpa using hm) (own_not8 st.row (by decide) y hy)), own_of_kept st.sm k4 (fun y hy hm => n8 y (by simpa using hm) (own_not8 st.sm (by decide) y hy)), by rw [e2]; exact st.len, by rw [e2]; exact st.lo⟩
  have f := Fam.set st.fam _ u _ (h.idxL hu).1 k4 o4
  rw [e1, laid_snoc, prows_layR hl hk]
  have hp2 := pix_lt hk
  rw [List.set_cons_succ, List.set_append_left _ _ (by rw [prows_length]; exact hp2)] at f
  exact f
theorem PySt.skips {w1 wr w3 w5 : World} {d : DS} {R : PDat} {p : Nat → Bool} {vs : Value} {ss : List Value} {i g : Nat} {vo v5 f : Value} {os : List Value} {x : Nat × List UInt8} (h : PR w1 g d R) (st : PySt w1 d R p vs ss wr i vo os) (hx : d.loose[i]? = some x) (hp : p x.1 = false) (hf : R.fs[i]? = some f)
    (k3 : Kept [] wr w3) (o5 : w5.ownsRow w1.heap.size 85 1 v5 (os.length + 1) (os ++ [f])) (k5 : Kept vo.ownBlock.toList w3 w5) : PySt w1 d R p vs ss w5 (i + 1) v5 (os ++ [f]) := by
  have e1 : (d.loose.take (i + 1)).filter (fun x => p x.1) = (d.loose.take i).filter (fun x => p x.1) := by rw [filter_snoc _ _ _ _ hx, hp]; simp
  have e2 : (d.loose.take (i + 1)).filter (fun x => !p x.1) = (d.loose.take i).filter (fun x => !p x.1) ++ [x] := by rw [filter_snoc _ _ _ _ hx, hp]; simp
  have k35 : Kept vo.ownBlock.toList wr w5 := (k3.mono (by simp)).trans k5 (fun y hy => .inl hy)
  have vn : ∀ y ∈ vo.ownBlock.toList, Not8 wr y ∧ w1.heap.size ≤ y := fun y hy => ⟨own_not8 st.row (by decide) y (by simpa using hy), own_ge st.row y (by simpa using hy)⟩
  refine ⟨by rw [e1]; exact st.fam.keptAll k35 (fun y hy hm => (st.fam.not8 hm).1 (vn y hy).1), st.kept.trans k35 (fun y hy => .inr (vn y hy).2), by rw [List.length_append]; exact o5, own_of_kept st.sm k35 (fun y hy hm => own_not_both st.sm st.row (by decide) hy (by simpa using hm)), by rw [e2, List.length_append, List.length_append, st.len]; rfl, fun j f' x' hf' hx' => ?_⟩
  rw [e2] at hx'
  by_cases hj : j < os.length
  · rw [List.getElem?_append_left hj] at hf'
    rw [List.getElem?_append_left (by rw [← st.len]; exact hj)] at hx'
    exact st.lo j f' x' hf' hx'
  · rw [List.getElem?_append_right (by omega)] at hf'
    rw [List.getElem?_append_right (by rw [← st.len]; omega), ← st.len] at hx'
    have h0 : j - os.length = 0 := by have := (List.getElem?_eq_some_iff.1 hf').1; simp at this; omega
    rw [h0] at hf' hx'
    simp at hf' hx'
    subst hf'; subst hx'
    exact h.loose i f x hf hx
theorem PR.synced {w1 wr : World} {g : Nat} {d : DS} {R : PDat} {p : Nat → Bool} {vs : Value} {ss : List Value} {vo : Value} {os : List Value} (h : PR w1 g d R) (st : PySt w1 d R p vs ss wr d.loose.length vo os)
    (hok : ({ d with rows := laid d.rows (d.loose.filter fun x => p x.1), loose := d.loose.filter fun x => !p x.1 } : DS).Ok) :
    PR (wr.setCell ⟨g, 5, none⟩ vo) g { d with rows := laid d.rows (d.loose.filter fun x => p x.1), loose := d.loose.filter fun x => !p x.1 } { R with vf := vo, fs := os } ∧ Kept (R.foot g) w1 (wr.setCell ⟨g, 5, none⟩ vo) ∧ ∀ x ∈ ({ R with vf := vo, fs := os } : PDat).foot g, x ∈ R.foot g ∨ w1.heap.size ≤ x := by
  obtain ⟨f1, f2, f3, f4, f5⟩ := h.far
  have glt := h.blk.lt
  have et : d.loose.take d.loose.length = d.loose := List.take_of_length_le (Nat.le_refl _)
  have hb := h.blk.kept st.kept (fun hm => f4 (blocks_tail (blocks_left hm)))
  obtain ⟨b6, k6⟩ := hb.set 5 vo
  have kAll : Kept (g :: blocks R.pl) w1 (wr.setCell ⟨g, 5, none⟩ vo) := (st.kept.mono (by intro x hx; simp [hx])).trans k6 (by intro x hx; simp at hx; subst hx; exact .inl (by simp))
  have allFoot : ∀ x ∈ g :: blocks R.pl, x ∈ R.foot g := fun x hx => by
    rcases List.mem_cons.1 hx with c | c
    · rw [c]; exact PDat.self
    · exact PDat.inPl c
  have sl : ∀ (z : Value) n xs, w1.ownsRow 0 25 1 z n xs → ∀ x, z.ownBlock = some x → x ∉ g :: blocks R.pl := fun z n xs hz x hx hm => by
    rcases List.mem_cons.1 hm with c | c
    · exact h.blk.far hz (by decide) x hx c
    · exact (h.fam.not8 (blocks_tail (blocks_left c))).1 (own_not8 hz (by decide) x hx)
  have hfoot : ∀ x ∈ ({ R with vf := vo, fs := os } : PDat).foot g, x ∈ R.foot g ∨ w1.heap.size ≤ x := fun x hx => by
    unfold PDat.foot at hx ⊢
    simp only [List.mem_cons, List.mem_append, Option.mem_toList, PDat.rows] at hx ⊢
    rcases hx with c | ((c | c) | c) | c
    · exact .inl (.inl c)
    · exact .inl (.inr (.inl (.inl (.inl c))))
    · exact .inl (.inr (.inl (.inl (.inr c))))
    · exact .inr (own_ge st.row x c)
    · exact .inl (.inr (.inr c))
  have s1 := kAll.size
  refine ⟨⟨hok, b6, ?_, own_of_kept h.rowL kAll (sl _ _ _ h.rowL), own_of_kept h.rowR kAll (sl _ _ _ h.rowR), ?_, ?_, h.apart, h.left, h.leftw, fun x hx => ⟨fun hm => ?_, Nat.lt_of_lt_of_le (h.frz x hx).2 s1⟩⟩, kAll.mono allFoot, hfoot⟩
  · have es : ({ d with rows := laid d.rows (d.loose.filter fun x => p x.1), loose := d.loose.filter fun x => !p x.1 } : DS).seen = d.seen := laid_filter p d.loose d.rows
    unfold DS.pall
    rw [es]
    have f := st.fam
    rw [et] at f
    exact f.keptAll k6 (fun x hx hm => f4 (by simp at hx; subst hx; exact hm))
  · show World.ownsRow _ 0 _ 1 vo (d.loose.filter fun x => !p x.1).length os
    have := st.len
    rw [et] at this
    rw [← this]
    exact own_mono (own_of_kept st.row k6 (fun x hx hm => hb.far st.row (by decide) x hx (by simpa using hm))) (Nat.zero_le _)
  · intro i f x hf hx
    refine (st.lo i f x hf (by rw [et]; exact hx)).kept kAll (fun y hy hm => (h.frz y hm).1 (allFoot y hy))
  · rcases hfoot x hm with c | c
    · exact (h.frz x hx).1 c
    · have := (h.frz x hx).2; omega
end Go.Proofs.Ytmipmiaflompmab

/-
  OWN WORK. The program's disk: Sync, SyncMasters.
-/
namespace Go.Proofs.Ytmipmiaflompmab
open Go.RowKit
set_option linter.unusedVariables false

/-- the places of a sync -/
def selA (np : Nat) (m : Bool) : Nat := if m = true then np + 1 else 0
def selN (np : Nat) (m : Bool) : Nat := if m = true then 2 else np + 1
theorem sel_le (np : Nat) (m : Bool) : selA np m + selN np m ≤ np + 3 ∧ selA np m < np + 3 := by cases m <;> simp [selA, selN]
theorem sel_in {np k : Nat} (m : Bool) (hk : k < np + 3) : (isMaster np k == m) = true ↔ selA np m ≤ pix np k ∧ pix np k < selA np m + selN np m := by
  rw [← pix_master hk]
  have hp := pix_lt hk
  cases m with
  | false => simp [selA, selN]; omega
  | true => simp [selA, selN]; omega
theorem own_one {w : World} {base n : Nat} {v : Value} {ls : List (List UInt8)} {pv : List Value} (h : Fam w base pv ls) : ∀ u ∈ pv, u.oneCell' = true := fun u hu => by
  obtain ⟨i, hi⟩ := List.getElem?_of_mem hu
  have hl : i < ls.length := by rw [← h.len]; exact (List.getElem?_eq_some_iff.1 hi).1
  obtain ⟨p, c, e⟩ := own_shape2 (h.own i u _ hi (List.getElem?_eq_getElem hl))
  rw [e]; rfl
set_option maxHeartbeats 6400000 in
theorem syncFrom_any (g : Nat) (d : DS) (R : PDat) (m : Bool) (q : Int) (w : World) (h : PR w g d R) (hq : q = (selA d.np m : Int) + (selN d.np m : Int)) (hcap : d.loose.length * 40 ≤ 140737488355328) :
    Calls Try.prog 84 #[.pointer (some ⟨g, 0, none⟩), .int .i64 (selA d.np m : Int), .int .i64 q] w fun e w' => ∃ R', e = .returned (.int .i64 (aliveE d)) ∧ PR w' g (d.sync m) R' ∧ Kept (R.foot g) w w' ∧ (∀ x ∈ R'.foot g, x ∈ R.foot g ∨ w.heap.size ≤ x) ∧ R'.Z = R.Z ∧ R'.vl = R.vl := by
  have ha := pact_any g d R w h
  have hok := h.ok.sync m
  obtain ⟨z, hz⟩ : ∃ z, z = d.alive := ⟨_, rfl⟩
  have kg : ∀ {w1 : World}, Kept [g] w w1 → Kept (R.foot g) w w1 := fun k => k.mono (by intro x hx; simp at hx; subst hx; exact PDat.self)
  cases z with
  | false =>
    have eA : aliveE d = 1 := by unfold aliveE; rw [← hz]; rfl
    have ed : d.sync m = d.act := by unfold DS.sync; rw [← hz]; rfl
    rw [eA] at ha
    rw [eA, ed]
    generalize selA d.np m = a
    clear hz eA ed hok h hcap hq
    go_enter Try.func84, Try.ntmps84
    go_wp2_with fail
    refine ha.mono ?_
    rintro e w1 ⟨rfl, ⟨l, h1⟩, k1⟩
    go_wp2
    go_ret
    exact ⟨_, rfl, h1, kg k1, fun x hx => .inl hx, rfl, rfl⟩
  | true =>
    have eA : aliveE d = 0 := by unfold aliveE; rw [← hz]; rfl
    rw [eA] at ha
    have ed : d.sync m = { d.act with rows := laid d.act.rows (d.act.loose.filter fun x => (fun k => isMaster d.np k == m) x.1), loose := d.act.loose.filter fun x => !(fun k => isMaster d.np k == m) x.1 } := by unfold DS.sync; rw [← hz, if_pos rfl, d.act_rows, d.act_loose]
    rw [eA, ed]
    rw [ed] at hok
    have hnp := h.ok.np
    obtain ⟨hs1, hs2⟩ := sel_le d.np m
    have HM : Hid (∀ k, k < d.np + 3 → ((isMaster d.np k == m) = true ↔ selA d.np m ≤ pix d.np k ∧ pix d.np k < selA d.np m + selN d.np m)) := fun k hk => sel_in m hk
    obtain ⟨p, hpd⟩ : ∃ p : Nat → Bool, p = fun k => isMaster d.np k == m := ⟨_, rfl⟩
    have HM : Hid (∀ k, k < d.np + 3 → (p k = true ↔ selA d.np m ≤ pix d.np k ∧ pix d.np k < selA d.np m + selN d.np m)) := fun k hk => by rw [hpd]; exact sel_in m hk
    rw [← hpd] at hok ⊢
    have HOK : Hid (({ d.act with rows := laid d.act.rows (d.act.loose.filter fun x => p x.1), loose := d.act.loose.filter fun x => !p x.1 } : DS).Ok) := hok
    have HC : Hid (d.loose.length * 40 ≤ 140737488355328 ∧ d.np ≤ 16 ∧ 1 ≤ d.np ∧ d.ns ≤ 8) := ⟨hcap, hnp.2, hnp.1, h.ok.ns.2⟩
    have KG : Hid (∀ {w1 : World}, Kept [g] w w1 → Kept (R.foot g) w w1) := @kg
    have HS : Hid (selA d.np m + selN d.np m ≤ d.np + 3 ∧ selA d.np m < d.np + 3) := ⟨hs1, hs2⟩
    generalize selA d.np m = a at *
    generalize selN d.np m = n at *
    have HQ : Hid (q = (a : Int) + (n : Int)) := hq
    clear hz eA ed h hok hcap hnp hs1 hs2 kg hpd hq
    go_enter Try.func84, Try.ntmps84
    go_wp2_with fail
    refine ha.mono ?_
    clear ha
    rintro e w1 ⟨rfl, ⟨l, h1⟩, k1⟩
    have H1 : Hid (PR w1 g d.act { R with left := l }) := h1
    obtain ⟨gl, cl, el, -⟩ := own_at8 h1.rowL (by omega)
    rw [d.act_np] at el
    simp only at el
    have c3 := h1.blk.cell (j := 3) (v := R.vl) rfl
    rw [el] at c3
    have hrl := h1.rowL
    simp only at hrl
    rw [d.act_np, el] at hrl
    have hon := only_any _ 0 (d.np + 3) a n q R.pl w1 hrl HQ.out HS.out.1 HS.out.2 (by have := HC.out.2.1; omega) (fun u hu => by
      have hf := h1.fam
      exact own_one (n := 0) (v := u) hf u (by simp [PDat.rows, hu]))
    clear h1 hrl
    go_wp2_with fail
    refine hon.mono ?_
    rintro e w2 ⟨rfl, o2, k2⟩
    clear hon c3
    obtain ⟨pf, cf, ef⟩ := own_shape2 H1.out.rowF
    simp only at ef
    rw [d.act_loose] at ef
    have c5 := (H1.out.blk.kept k2 (by simp)).cell (j := 5) (v := R.vf) rfl
    rw [ef] at c5
    have o2' := o2
    rw [← d.act_np] at o2'
    have st0 := PySt.start (p := p) H1.out k2 o2'
    rw [d.act_np] at st0
    have hl63 : (d.loose.length : Int) < 9223372036854775807 := by have := HC.out.1; omega
    go_wp2
    go_loopw [9, 29] (fun v9 i wr => ∃ (k : Nat) (os : List Value) (vo : Value), k ≤ d.loose.length ∧ i = .int .i64 k ∧ v9 = vo ∧ Hid (PySt w1 d.act { R with left := l } p (.slice (some ⟨w1.heap.size, 0, none⟩) (d.np + 3) (d.np + 3)) (someOf R.pl (d.np + 3) a n) wr k vo os)) (fun _ i _ => d.loose.length - (intOf i).toNat)
    case atStart => exact ⟨0, [], _, Nat.zero_le _, rfl, rfl, st0⟩
    case round =>
      obtain ⟨k, os, vo, hk, rfl, rfl, st⟩ := hrel
      obtain ⟨po, co, rfl⟩ := own_shape2 st.out.row
      by_cases hlt : k < d.loose.length
      · have hfl : R.fs.length = d.loose.length := by have := H1.out.rowF.1; simp only at this; rw [d.act_loose] at this; omega
        obtain ⟨f, hf⟩ : ∃ f, R.fs[k]? = some f := ⟨_, List.getElem?_eq_getElem (by omega)⟩
        obtain ⟨x, hx⟩ : ∃ x, d.act.loose[k]? = some x := ⟨_, List.getElem?_eq_getElem (by rw [d.act_loose]; exact hlt)⟩
        obtain ⟨xk, xb⟩ := x
        obtain ⟨gp, gb, vb, rfl, cap, hgp, hgb, hvb⟩ := H1.out.loose k f _ hf hx
        simp only at cap hgp hgb hvb
        obtain ⟨hxk, hxb⟩ := H1.out.ok.loose _ (List.mem_of_getElem? hx)
        simp only at hxk hxb
        have zfar : ∀ y ∈ R.Z, y ∉ blocks R.pl := fun y hy hm => (H1.out.frz y hy).1 (PDat.inPl hm)
        have capr : Cap wr gp gb (pix d.act.np xk) vb xb := cap.kept st.out.kept (zfar _ hgp) (zfar _ hgb) (fun y hy => zfar _ (hvb y hy))
        obtain ⟨gf, cf', ef', -⟩ := own_at8 H1.out.rowF (by rw [d.act_loose]; omega)
        simp only at ef'
        rw [ef, d.act_loose] at ef'
        cases ef'
        have hrF := H1.out.rowF
        simp only at hrF
        rw [ef, d.act_loose] at hrF
        have gfar : gf ∉ blocks R.pl := fun hm => (H1.out.fam.not8 (blocks_tail (blocks_left hm))).1 (own_not8 hrF (by decide) gf rfl)
        have yf := st.out.kept.cell (own_cell hrF hf).1 gfar
        rw [d.act_np] at capr hxk hxb
        have hpj := pix_lt hxk
        have hpll : R.pl.length = d.np + 3 := by have := H1.out.rowL.1; simp only at this; rw [d.act_np] at this; omega
        have hsat := someOf_at (pv := R.pl) (n := d.np + 3) (a := a) (m := n) (j := pix d.np xk) hpll HS.out.1 hpj
        have hsome := st.out.sm
        rw [d.act_np] at hsome
        have hk' : (k : Int) < (d.loose.length : Int) := by omega
        have hk0 : (0 : Int) ≤ (k : Int) := by omega
        have b168 : xb.length ≤ 1000 := by rw [hxb, d.act_ns]; have := sizeK_le d.np d.ns xk HC.out.2.2.2; omega
        have ST : Hid (PySt w1 d.act { R with left := l } p (.slice (some ⟨w1.heap.size, 0, none⟩) (d.np + 3) (d.np + 3)) (someOf R.pl (d.np + 3) a n) wr k (.slice po os.length co) os) := st
        have HX : Hid (d.act.loose[k]? = some (xk, xb)) := hx
        have HF : Hid (R.fs[k]? = some (theWrite gp gb)) := hf
        unfold theWrite at yf
        by_cases hpx : p xk = true
        · have hin := (HM.out xk hxk).1 hpx
          rw [if_pos hin] at hsat
          obtain ⟨u, hu⟩ : ∃ u, R.pl[pix d.np xk]? = some u := ⟨_, List.getElem?_eq_getElem (by omega)⟩
          rw [hu] at hsat
          have hcu := (own_cell hsome hsat).1
          obtain ⟨hrl, hrs⟩ := PySt.rowsLen (p := p) (i := k) (wr := wr) (vs := .slice po os.length co) (ss := os) (vo := .slice po os.length co) (os := os) H1.out
          have hgd : (laid d.act.rows ((d.act.loose.take k).filter fun x => p x.1))[xk]? = some ((laid d.act.rows ((d.act.loose.take k).filter fun x => p x.1)).getD xk []) := by
            rw [List.getD_eq_getElem?_getD, List.getElem?_eq_getElem (by rw [hrl, d.act_np]; exact hxk)]; rfl
          have hlen := hrs xk _ hgd
          rw [d.act_np] at hlen
          have hou := st.out.fam.own (pix d.np xk + 1) u ((laid d.act.rows ((d.act.loose.take k).filter fun x => p x.1)).getD xk []) (H1.out.idxL (u := u) (by exact hu)).1 (by
            rw [List.getElem?_cons_succ, List.getElem?_append_left (by rw [prows_length, d.act_np]; exact hpj)]
            have := prows_at (np := d.act.np) (k := xk) (laid d.act.rows ((d.act.loose.take k).filter fun x => p x.1)) (by rw [d.act_np]; exact hxk)
            rw [d.act_np] at this ⊢
            exact this)
          have ublk : ∀ y, u.ownBlock = some y → y ∈ blocks R.pl := fun y hy => mem_blocks hu hy
          have hlay := write1_lays gp gb (pix d.np xk) vb xb w1.heap.size (d.np + 3) (d.np + 3) 0 u _ 1 wr capr hpj (by have := HC.out.2.1; omega) hcu hou (by rw [hxb, hlen]) (by rw [hlen]; exact sizeK_pos _ _ _) b168 (wrap_i64_of (by omega) (by omega)) (fun y hy => ⟨fun e => zfar _ hgp (by rw [← e]; exact ublk y hy), fun e => by have := own_lt hsome w1.heap.size rfl; exact Nat.ne_of_lt (H1.out.fam.not8 (blocks_tail (blocks_left (ublk y hy)))).2.2 e, fun e => zfar _ hgb (by rw [← e]; exact ublk y hy)⟩)
          rw [keepN_one] at hlay
          have e4 : (over ((laid d.act.rows ((d.act.loose.take k).filter fun x => p x.1)).getD xk []) 0 (xb.take xb.length)).length = ((laid d.act.rows ((d.act.loose.take k).filter fun x => p x.1)).getD xk []).length := over_all (by rw [hxb, hlen])
          rw [← e4] at hlay
          have HU : Hid (R.pl[pix d.np xk]? = some u ∧ p xk = true) := ⟨hu, hpx⟩
          clear hou hgd hlen hrl hrs hsat hcu hu ublk hin e4 capr cap hvb hgp hgb zfar gfar hrF hsome hx hf hxb hpll st hpx
          go_wp2_with fail
          refine hlay.mono ?_
          rintro e w4 ⟨rfl, o4, k4⟩
          clear hlay
          have st4 := ST.out.lays H1.out (x := (xk, xb)) (u := u) HX.out HU.out.2 (by rw [d.act_np]; exact HU.out.1) o4 k4
          go_wp2
          go_roundw
          case rel => exact ⟨k + 1, os, _, by omega, by go_num, rfl, st4⟩
          case measure => simp [intOf]; omega
        · have hpf : p xk = false := by simpa using hpx
          rw [if_neg (fun c => hpx ((HM.out xk hxk).2 c))] at hsat
          have hcu := (own_cell hsome hsat).1
          have hno := write1_none gp gb (pix d.np xk) vb xb w1.heap.size (d.np + 3) (d.np + 3) 1 wr capr hpj hcu b168 (wrap_i64_of (by omega) (by omega))
          have HU : Hid (p xk = false) := hpf
          have HOL : Hid (os.length ≤ d.loose.length) := (show os.length ≤ d.loose.length by
            rw [st.out.len, d.act_loose]
            exact Nat.le_trans (List.length_filter_le _ _) (by rw [List.length_take]; omega))
          clear hsat hcu capr cap hvb hgp hgb zfar gfar hrF hsome hx hf hxb hpll st hpx hpf
          go_wp2_with fail
          refine hno.mono ?_
          rintro e w3 ⟨rfl, k3⟩
          clear hno
          have kb := (Kept.refl [] w3).alloc (.cells #[.func (.func 85) #[] #[.pointer (some ⟨gp, 0, none⟩), .pointer (some ⟨gb, 0, none⟩)]] 85)
          have hnews : ∀ (j : Nat) u, [theWrite gp gb][j]? = some u → (w3.alloc (.cells #[.func (.func 85) #[] #[.pointer (some ⟨gp, 0, none⟩), .pointer (some ⟨gb, 0, none⟩)]] 85)).cell? ((⟨w3.heap.size, 0, none⟩ : Addr).add j) = some u := fun j u hj => by
            rw [add_none rfl]
            rcases j with _ | j
            · simp at hj; subst hj
              simp [go_sem, theWrite]
            · simp at hj
          have rF3 := own_of_kept (own_of_kept ST.out.row k3 (by simp)) kb (by simp)
          have hsz1 := ST.out.kept.size
          have hsz3 := k3.size
          go_wp2_with (at_builtin; refine wpList_append_own2 rfl (.tmp 37) (.tmp 39) 81 rfl w1.heap.size 85 Try.underlying81 .nilFunc 8 (by kernel_rfl) rfl _ _ _ (by rfl) rF3 ⟨w3.heap.size, 0, none⟩ 1 1 [theWrite gp gb] (by rfl) rfl hnews (by simp [theWrite, Value.oneCell']) (by have := HC.out.1; have := HOL.out; unfold maxLen; omega) (by have := HC.out.1; have := HOL.out; omega) (by simp; omega) ?_; intro v5 w5 o5 g5 at5; obtain ⟨p5, c5', rfl⟩ := own_shape2 o5; have k5 : Kept (Value.slice po os.length co).ownBlock.toList w3 w5 := (kb.mono (by simp)).trans (Kept.ofGrown (S := (Value.slice po os.length co).ownBlock.toList) g5 (by intro k e _; simp [e])) (fun x hx => .inl hx))
          have st5 := ST.out.skips H1.out (x := (xk, xb)) HX.out HU.out HF.out k3 o5 k5
          go_roundw
          case rel => exact ⟨k + 1, os ++ [theWrite gp gb], _, by omega, by go_num, rfl, st5⟩
          case measure => simp [intOf]; omega
      · obtain rfl : k = d.loose.length := by omega
        have st' := st.out
        rw [← d.act_loose] at st'
        obtain ⟨r1, r2, r3⟩ := H1.out.synced st' HOK.out
        have hb := H1.out.blk.kept st.out.kept (fun hm => H1.out.far.2.2.2.1 (blocks_tail (blocks_left hm)))
        have y5 := hb.cell (j := 5) (v := R.vf) rfl
        have z5 := hb.free 5
        have s1 := k1.size
        have FIN : Hid (PR (wr.setCell ⟨g, 5, none⟩ (.slice po os.length co)) g _ _ ∧ Kept _ w1 (wr.setCell ⟨g, 5, none⟩ (.slice po os.length co)) ∧ _) := ⟨r1, r2, r3⟩
        clear r1 r2 r3 st' hb st
        rw [ef] at y5
        go_wp2
        go_ret
        exact ⟨rfl, _, FIN.out.1, (KG.out k1).trans FIN.out.2.1 (fun x hx => .inl hx), fun x hx => by rcases FIN.out.2.2 x hx with c | c; exact .inl c; exact .inr (by omega), rfl, el⟩
theorem pSync (Z : List Nat) (v : Value) (d : DS) (F : List Nat) (w : World) (h : PD Z w v d F) (hcap : d.loose.length * 40 ≤ 140737488355328) :
    Calls Try.prog 66 #[v] w fun e w' => ∃ F', e = .returned (.int .i64 (aliveE d)) ∧ PD Z w' v (d.sync false) F' ∧ Next w w' F F' := by
  obtain ⟨g, R, rfl, h, rfl, rfl⟩ := h
  have hc := pairPlace_any g d R w h
  have hnp := h.ok.np
  have hr := syncFrom_any g d R false ((d.np : Int) + 1) w h (by simp [selA, selN]) hcap
  rw [show ((selA d.np false : Nat) : Int) = 0 by simp [selA]] at hr
  have w1 : IntKind.i64.wrap ((d.np : Int) + 1) = (d.np : Int) + 1 := wrap_i64_of (by omega) (by omega)
  clear h hcap hnp
  go_enter Try.func66, Try.ntmps66
  go_wp2_with fail
  refine hc.mono ?_
  rintro e w1 ⟨rfl, rfl⟩
  go_wp2_with fail
  refine hr.mono ?_
  rintro e w2 ⟨R', rfl, h2, h3, h4, h5, -⟩
  clear hc hr
  go_wp2
  go_ret
  obtain ⟨q1, q2⟩ := PR.pdWrite h2 h3 h4
  rw [h5] at q1
  exact ⟨_, rfl, q1, q2⟩
theorem pSyncMasters (Z : List Nat) (v : Value) (d : DS) (F : List Nat) (w : World) (h : PD Z w v d F) (hcap : d.loose.length * 40 ≤ 140737488355328) :
    Calls Try.prog 68 #[v] w fun e w' => ∃ F', e = .returned (.int .i64 (aliveE d)) ∧ PD Z w' v (d.sync true) F' ∧ Next w w' F F' := by
  obtain ⟨g, R, rfl, h, rfl, rfl⟩ := h
  have hnp := h.ok.np
  obtain ⟨gl, cl, el, -⟩ := own_at8 h.rowL (by omega)
  have c3 := h.blk.cell (j := 3) (v := R.vl) rfl
  rw [el] at c3
  have w1 : IntKind.i64.wrap ((d.np : Int) + 1) = (d.np : Int) + 1 := wrap_i64_of (by omega) (by omega)
  have HPR : Hid (PR w.drew g d R) := h.kept (Kept.refl [] w).drew (by simp) (by simp)
  have HCAP : Hid (d.loose.length * 40 ≤ 140737488355328) := hcap
  clear h hcap hnp
  have hcd : Calls Try.prog 82 #[.pointer (some ⟨g, 0, none⟩)] w.drew fun e w' => e = .returned (.int .i64 (d.np : Int)) ∧ w' = w.drew := pairPlace_any g d R w.drew HPR.out
  have hrd := syncFrom_any g d R true ((d.np + 3 : Nat) : Int) w.drew HPR.out (by simp [selA, selN]; omega) HCAP.out
  rw [show ((selA d.np true : Nat) : Int) = (d.np : Int) + 1 by simp [selA]] at hrd
  have EL : Hid (R.vl = .slice (some ⟨gl, 0, none⟩) (d.np + 3) cl) := el
  clear el
  go_enter Try.func68, Try.ntmps68
  go_upto_region 1 with fail
  go_region_held3 (fun w' => w'.cell? ⟨g, 3, none⟩ = some (.slice (some ⟨gl, 0, none⟩) (d.np + 3) cl))
    (first | (exact c3) | (exact y3) | go_keep)
    (first
      | (go_at_call 82; refine hcd.mono ?_; rintro e w5 ⟨rfl, rfl⟩)
      | (go_at_call 84; refine hrd.mono ?_; rintro e w2 ⟨R', rfl, h2, h3, h4, h5, h6⟩; have y3 : w2.cell? ⟨g, 3, none⟩ = some (.slice (some ⟨gl, 0, none⟩) (d.np + 3) cl) := (h2.blk.cell (j := 3) (v := R'.vl) rfl).trans (by rw [h6, EL.out]))
      | fail)
  clear hcd hrd
  go_wp2
  go_ret
  obtain ⟨q1, q2⟩ := PR.pdWrite h2 (show Kept (R.foot g) w w2 from ⟨h3.os, h3.tape, h3.output, h3.size, h3.block⟩) h4
  rw [h5] at q1
  exact ⟨_, rfl, q1, q2⟩
end Go.Proofs.Ytmipmiaflompmab

/-
  OWN WORK. append of a slice of another type with the same elements.
-/
namespace Go.Proofs.Ytmipmiaflompmab
open Go.RowKit
set_option linter.unusedVariables false

theorem append_types {P : Program} (w : World) (t t2 ty e e2 : TypeId) (ht : P.underlying t = some (.slice e)) (ht2 : P.underlying t2 = some (.slice e2)) (p : Option Addr) (n c : Nat) (x : Value) :
    (Builtin.append_ #[t, t2] ty #[.slice p n c, x]).run P w = (Builtin.append_ #[t, t] ty #[.slice p n c, x]).run P w := by
  simp [Builtin.append_, run_underlying ht, run_underlying ht2]
theorem step_append_own3 {P : Program} {w : World} {ops : Array Oper} {o : Oper} {a : Act} {K : Act → World → Prop} {Q : Exit → Act → World → Prop} {E : Prop} (hgd : o.guard = none) (s x : Operand) (t t2 e2 : TypeId)
    (ho : o.op = .call { callee := .builtin .append, args := #[s, x], argTypes := #[t, t2] }) (base : Nat) (e : TypeId) (hu : P.underlying t = some (.slice e)) (hu2 : P.underlying t2 = some (.slice e2)) (z : Value) (bytes : Nat)
    (hinf : (P.info? e).map (fun i => (i.zero, i.size, i.bytes)) = some (some z, 1, bytes)) (hzs : z.cells.size = 1)
    (v : Value) (n : Nat) (xs : List Value) (hs : a.eval s = v) (hown : w.ownsRow base e 1 v n xs) (ad : Addr) (m c : Nat) (news : List Value) (hx : a.eval x = .slice (some ad) m c) (hl : news.length = m)
    (hnews : ∀ j u, news[j]? = some u → w.cell? (ad.add j) = some u) (h1 : ∀ u ∈ news, u.oneCell' = true) (h63 : n + m ≤ maxLen) (hbytes : (n + m) * bytes ≤ 140737488355328) (hbase : base ≤ w.heap.size)
    (h : ∀ v' w', w'.ownsRow base e 1 v' (n + m) (xs ++ news) → w.grownBy w' v.ownBlock → (v'.ownBlock = v.ownBlock ∨ (v'.ownBlock = some w.heap.size ∧ w.grownBy w' none)) → K (a.put o.dst v') w') :
    if Region.wanted o (yielded ops a.tmps) = true then Oper.wp P o a w K Q else E := by
  have hw : Region.wanted o (yielded ops a.tmps) = true := by simp [Region.wanted, hgd]
  rw [if_pos hw]
  obtain ⟨i, hi, hz, hsz, hby⟩ := info_parts hinf
  obtain ⟨p0, c0, e0⟩ := own_shape2 hown
  subst e0
  obtain ⟨v', w', hr, k1, k2, k4⟩ := run_append_own2 (P := P) w base t o.type e i z bytes hu hi hz hsz hby hzs _ n xs hown ad m c news hl hnews h1 h63 hbytes hbase
  rw [← append_types w t t2 o.type e e2 hu hu2] at hr
  unfold Oper.wp execOp
  simp only [ho, resolve, invoke, builtin, Sem.run_bind, Sem.run_pure, Result.andThen_ok, List.map_toArray, List.map_cons, List.map_nil, hs, hx, hr]
  exact h v' w' k1 k2 k4
theorem wpList_append_own3 {P : Program} {w : World} {ops : Array Oper} {rest : List Oper} {o : Oper} {a : Act} {Q : Exit → Act → World → Prop} (hgd : o.guard = none) (s x : Operand) (t t2 e2 : TypeId)
    (ho : o.op = .call { callee := .builtin .append, args := #[s, x], argTypes := #[t, t2] }) (base : Nat) (e : TypeId) (hu : P.underlying t = some (.slice e)) (hu2 : P.underlying t2 = some (.slice e2)) (z : Value) (bytes : Nat)
    (hinf : (P.info? e).map (fun i => (i.zero, i.size, i.bytes)) = some (some z, 1, bytes)) (hzs : z.cells.size = 1)
    (v : Value) (n : Nat) (xs : List Value) (hs : a.eval s = v) (hown : w.ownsRow base e 1 v n xs) (ad : Addr) (m c : Nat) (news : List Value) (hx : a.eval x = .slice (some ad) m c) (hl : news.length = m)
    (hnews : ∀ j u, news[j]? = some u → w.cell? (ad.add j) = some u) (h1 : ∀ u ∈ news, u.oneCell' = true) (h63 : n + m ≤ maxLen) (hbytes : (n + m) * bytes ≤ 140737488355328) (hbase : base ≤ w.heap.size)
    (h : ∀ v' w', w'.ownsRow base e 1 v' (n + m) (xs ++ news) → w.grownBy w' v.ownBlock → (v'.ownBlock = v.ownBlock ∨ (v'.ownBlock = some w.heap.size ∧ w.grownBy w' none)) → wpList P ops Q rest (a.put o.dst v') w') :
    wpList P ops Q (o :: rest) a w := by
  obtain ⟨i, hi, hz, hsz, hby⟩ := info_parts hinf
  obtain ⟨p0, c0, e0⟩ := own_shape2 hown
  subst e0
  refine wpList_plain hgd fun K hK => ?_
  obtain ⟨v', w', hr, k1, k2, k4⟩ := run_append_own2 (P := P) w base t o.type e i z bytes hu hi hz hsz hby hzs _ n xs hown ad m c news hl hnews h1 h63 hbytes hbase
  rw [← append_types w t t2 o.type e e2 hu hu2] at hr
  unfold Oper.wp execOp
  simp only [ho, resolve, invoke, builtin, Sem.run_bind, Sem.run_pure, Result.andThen_ok, List.map_toArray, List.map_cons, List.map_nil, hs, hx, hr]
  exact hK _ _ (h v' w' k1 k2 k4)
/-- an image out of places of one's own -/
theorem OwnIm.ofPls {w : World} {base np : Nat} {pv : List Value} {ls : List (List UInt8)} {vp vl v0 v1 v2 : Value} {log : List UInt8} (h : Fam w base pv ls) (hl : ls.length = np + 3) (h0 : pv[np]? = some v0) (h1 : pv[np + 1]? = some v1) (h2 : pv[np + 2]? = some v2)
    (ho : w.ownsRow base 5 1 vl log.length (u8s log)) (hap : ∀ x, vl.ownBlock = some x → x ∉ blocks pv) (hr : w.ownsRow base 25 1 vp np (pv.take np)) :
    OwnIm w base ⟨vp, pv.take np, v0, vl, v1, v2⟩ { ps := ls.take np, pair := ls.getD np [], log := log, m0 := ls.getD (np + 1) [], m1 := ls.getD (np + 2) [] } := by
  have hpl : pv.length = np + 3 := by rw [h.len]; exact hl
  have hgd : ∀ j, j < np + 3 → ls[j]? = some (ls.getD j []) := fun j hj => by rw [List.getD_eq_getElem?_getD, List.getElem?_eq_getElem (by omega)]; rfl
  have ep : (pv.take np).length = np := by simp; omega
  have el : (ls.take np).length = np := by simp; omega
  -- where each row of the image stands among the places
  have src : ∀ (i : Nat) v, (⟨vp, pv.take np, v0, vl, v1, v2⟩ : IV).rows[i]? = some v → (i = 0 ∧ v = vl) ∨ ∃ j, pv[j]? = some v ∧ j < np + 3 ∧ i = (if j < np then j + 2 else if j = np then 1 else j + 1) := fun i v hv => by
    have hv : (vl :: v0 :: (pv.take np ++ [v1, v2]))[i]? = some v := hv
    rcases i with _ | _ | i
    · simp at hv; exact .inl ⟨rfl, hv.symm⟩
    · simp at hv
      exact .inr ⟨np, by rw [h0, hv], by omega, by rw [if_neg (by omega), if_pos rfl]⟩
    · rw [List.getElem?_cons_succ, List.getElem?_cons_succ] at hv
      by_cases c : i < np
      · rw [List.getElem?_append_left (by omega), List.getElem?_take, if_pos c] at hv
        exact .inr ⟨i, hv, by omega, by rw [if_pos c]⟩
      · rw [List.getElem?_append_right (by omega), ep] at hv
        have : i - np < 2 := by have := (List.getElem?_eq_some_iff.1 hv).1; simpa using this
        rcases (by omega : i - np = 0 ∨ i - np = 1) with e | e
        · rw [e] at hv; simp at hv
          exact .inr ⟨np + 1, by rw [h1, hv], by omega, by rw [if_neg (by omega), if_neg (by omega)]; omega⟩
        · rw [e] at hv; simp at hv
          exact .inr ⟨np + 2, by rw [h2, hv], by omega, by rw [if_neg (by omega), if_neg (by omega)]; omega⟩
  have tgt : ∀ j, j < np + 3 → (IM.all { ps := ls.take np, pair := ls.getD np [], log := log, m0 := ls.getD (np + 1) [], m1 := ls.getD (np + 2) [] })[if j < np then j + 2 else if j = np then 1 else j + 1]? = ls[j]? := fun j hj => by
    show (log :: ls.getD np [] :: (ls.take np ++ [ls.getD (np + 1) [], ls.getD (np + 2) []]))[if j < np then j + 2 else if j = np then 1 else j + 1]? = ls[j]?
    by_cases c : j < np
    · rw [if_pos c, List.getElem?_cons_succ, List.getElem?_cons_succ, List.getElem?_append_left (by omega), List.getElem?_take, if_pos c]
    · rw [if_neg c]
      rcases (by omega : j = np ∨ j = np + 1 ∨ j = np + 2) with e | e | e
      · rw [if_pos e, e, hgd np (by omega)]; rfl
      · rw [if_neg (by omega), e, show np + 1 + 1 = np + 2 by omega, List.getElem?_cons_succ, List.getElem?_cons_succ, List.getElem?_append_right (by omega), el, hgd (np + 1) (by omega)]; simp
      · rw [if_neg (by omega), e, show np + 2 + 1 = (np + 1) + 2 by omega, List.getElem?_cons_succ, List.getElem?_cons_succ, List.getElem?_append_right (by omega), el, hgd (np + 2) (by omega), show np + 1 - np = 1 by omega]; simp
  refine ⟨⟨?_, fun i v l hv hll => ?_, fun i j u v x hij hu hv hx => ?_⟩, by rw [ep]; exact hr, by rw [ep, el]⟩
  · show (vl :: v0 :: (pv.take np ++ [v1, v2])).length = (log :: ls.getD np [] :: (ls.take np ++ [ls.getD (np + 1) [], ls.getD (np + 2) []])).length
    simp only [List.length_cons, List.length_append, ep, el, List.length_nil]
  · rcases src i v hv with ⟨rfl, rfl⟩ | ⟨j, hj, hjn, rfl⟩
    · have : log = l := by simpa [IM.all] using hll
      rw [← this]; exact ho
    · rw [tgt j hjn] at hll
      exact h.own j v l hj hll
  · rcases src i u hu with ⟨rfl, rfl⟩ | ⟨a, ha, han, rfl⟩
    · rcases src j v hv with ⟨rfl, -⟩ | ⟨b, hb, hbn, rfl⟩
      · omega
      · exact fun e => hap x hx (mem_blocks hb e)
    · rcases src j v hv with ⟨rfl, rfl⟩ | ⟨b, hb, hbn, rfl⟩
      · omega
      · have hab : a ≠ b := fun e => by subst e; omega
        rcases Nat.lt_or_gt_of_ne hab with c | c
        · exact h.apart a b u v x c ha hb hx
        · exact fun e => h.apart b a v u x c hb ha e hx
end Go.Proofs.Ytmipmiaflompmab

/-
  OWN WORK. The program's disk: an image of places.
-/
namespace Go.Proofs.Ytmipmiaflompmab
open Go.RowKit
set_option linter.unusedVariables false

set_option maxHeartbeats 3200000 in
theorem pimage_any (v ub : Value) (b0 np : Nat) (pv : List Value) (ls : List (List UInt8)) (log : List UInt8) (w : World) (hrow : w.ownsRow b0 25 1 v (np + 3) pv) (hl : ls.length = np + 3) (hbs : ∀ (i : Nat) u l, pv[i]? = some u → ls[i]? = some l → Bs w u l) (hll : ∀ l ∈ ls, l.length ≤ 140737488355328) (hnp : 1 ≤ np ∧ np ≤ 16) (hlog : Bs w ub log) (hlg : log.length ≤ 140737488355328) :
    Calls Try.prog 78 #[v, ub] w fun e w' => ∃ V, e = .returned V.agg ∧ OwnIm w' w.heap.size V { ps := ls.take np, pair := ls.getD np [], log := log, m0 := ls.getD (np + 1) [], m1 := ls.getD (np + 2) [] } ∧ Kept [] w w' := by
  obtain ⟨w0, hw0⟩ : ∃ w0, w0 = w.alloc (.cells #[.slice none 0 0, .slice none 0 0, .slice none 0 0, .slice none 0 0, .slice none 0 0] 28) := ⟨_, rfl⟩
  have k0 : Kept [] w w0 := by rw [hw0]; exact (Kept.refl [] w).alloc _
  have b00 : Blk w0 w.heap.size 28 [.slice none 0 0, .slice none 0 0, .slice none 0 0, .slice none 0 0, .slice none 0 0] := by rw [hw0]; exact Blk.new w _ _
  have s0 : w0.heap.size = w.heap.size + 1 := by rw [hw0, World.size_alloc]
  have hcop := pcopied_any v b0 (np + 3) pv ls w0 (own_of_kept hrow k0 (by simp)) hl (fun i u l hu hl => (hbs i u l hu hl).kept k0) hll (by omega) (by omega)
  have hlogs : ∀ {W : World}, Kept [] w0 W → Bs W ub log := fun k => (hlog.kept k0).kept k
  obtain ⟨pu, cu, rfl, -⟩ := id hlog
  have hown := fun W (k : Kept [] w0 W) => pown_any (.slice pu log.length cu) log W (hlogs k) hlg
  obtain ⟨n, hn⟩ : ∃ n, n = np + 3 := ⟨_, rfl⟩
  obtain ⟨a1, ha1⟩ : ∃ n, n = np + 1 := ⟨_, rfl⟩
  obtain ⟨a2, ha2⟩ : ∃ n, n = np + 2 := ⟨_, rfl⟩
  have w3 : IntKind.i64.wrap ((n : Int) - 3) = (np : Int) := by rw [wrap_i64_of (by omega) (by omega)]; omega
  have wa : IntKind.i64.wrap ((np : Int) + 1) = (a1 : Int) := by rw [wrap_i64_of (by omega) (by omega)]; omega
  have wb : IntKind.i64.wrap ((np : Int) + 2) = (a2 : Int) := by rw [wrap_i64_of (by omega) (by omega)]; omega
  have i0 : (0 : Int) ≤ (np : Int) := by omega
  have i1 : (np : Int) < (n : Int) := by omega
  have i2 : (0 : Int) ≤ (a1 : Int) := by omega
  have i3 : (a1 : Int) < (n : Int) := by omega
  have i4 : (0 : Int) ≤ (a2 : Int) := by omega
  have i5 : (a2 : Int) < (n : Int) := by omega
  have HA : Hid (n = np + 3 ∧ a1 = np + 1 ∧ a2 = np + 2) := ⟨hn, ha1, ha2⟩
  rw [← hn] at hrow hcop
  have HN : Hid (1 ≤ np ∧ np ≤ 16 ∧ ls.length = np + 3 ∧ (∀ l ∈ ls, l.length ≤ 140737488355328)) := ⟨hnp.1, hnp.2, hl, hll⟩
  have HW0 : Hid (w0 = w.alloc (.cells #[.slice none 0 0, .slice none 0 0, .slice none 0 0, .slice none 0 0, .slice none 0 0] 28)) := hw0
  have B00 : Hid (Blk w0 w.heap.size 28 [.slice none 0 0, .slice none 0 0, .slice none 0 0, .slice none 0 0, .slice none 0 0] ∧ w0.heap.size = w.heap.size + 1) := ⟨b00, s0⟩
  obtain ⟨gP, cP, rfl, -⟩ := own_at8 hrow (by omega)
  clear hrow hbs hll hlog hlg hnp hw0 hl b00 s0 hlogs hn ha1 ha2
  go_enter Try.func78, Try.ntmps78
  go_wp2_with fail
  rw [← HW0.out]
  refine hcop.mono ?_
  rintro e w1 ⟨v1, pv1, rfl, ⟨hr1, hf1⟩, k1⟩
  clear hcop
  obtain ⟨g1, c1, rfl, hc1, -⟩ := own_at8 hr1 (by have := HA.out.1; omega)
  have hA1 := HA.out.1
  have hA2 := HA.out.2.1
  have hA3 := HA.out.2.2
  have hp1 : pv1.length = n := by have := hr1.1; omega
  obtain ⟨x0, h0⟩ : ∃ x, pv1[np]? = some x := ⟨_, List.getElem?_eq_getElem (by omega)⟩
  obtain ⟨x1, h1⟩ : ∃ x, pv1[a1]? = some x := ⟨_, List.getElem?_eq_getElem (by omega)⟩
  obtain ⟨x2, h2⟩ : ∃ x, pv1[a2]? = some x := ⟨_, List.getElem?_eq_getElem (by omega)⟩
  have y0 := (own_cell hr1 h0).1
  have y1 := (own_cell hr1 h1).1
  have y2 := (own_cell hr1 h2).1
  have hsh : ∀ (i : Nat) x, pv1[i]? = some x → i < n → ∃ p c, x = .slice p (ls.getD i []).length c := fun i x hx hi => own_shape2 (hf1.own i x (ls.getD i []) hx (by rw [List.getD_eq_getElem?_getD, List.getElem?_eq_getElem (by have := HN.out.2.2.1; omega)]; rfl))
  obtain ⟨q0, r0, rfl⟩ := hsh np x0 h0 (by omega)
  obtain ⟨q1, r1, rfl⟩ := hsh a1 x1 h1 (by omega)
  obtain ⟨q2, r2, rfl⟩ := hsh a2 x2 h2 (by omega)
  generalize hL0 : (ls.getD np []).length = L0 at *
  generalize hL1 : (ls.getD a1 []).length = L1 at *
  generalize hL2 : (ls.getD a2 []).length = L2 at *
  have hcut : ∀ u, (Instr.slice 69 (.slice (some ⟨g1, 0, none⟩) n c1) none (some (.int .i64 (np : Int))) none).run Try.prog u = .ok (.slice (some ⟨g1, 0, none⟩) np c1) u := fun u => run_cut_to u 69 25 Try.underlying69 (by kernel_rfl) (some ⟨g1, 0, none⟩) n c1 np (by omega)
  have hnews : ∀ {W : World}, Kept [] w1 W → ∀ (j : Nat) u, (pv1.take np)[j]? = some u → W.cell? ((⟨g1, 0, none⟩ : Addr).add j) = some u := fun k j u hj => by
    rw [add_none rfl, Nat.zero_add]
    rw [List.getElem?_take] at hj
    split at hj
    · exact k.cell (own_cell hr1 hj).1 (by simp)
    · cases hj
  have hone : ∀ u ∈ pv1.take np, u.oneCell' = true := fun u hu => own_one (n := 0) (v := u) hf1 u (List.mem_of_mem_take hu)
  have hln : (pv1.take np).length = np := by simp; omega
  have HG1 : Hid (g1 ∉ [w.heap.size]) := (show g1 ∉ [w.heap.size] by have := own_ge hr1 g1 rfl; have := B00.out.2; simp; omega)
  have kr : Kept [] w1 (w1.alloc (.cells #[] 25)).drew := ((Kept.refl [] w1).alloc _).drew
  have ob : (w1.alloc (.cells #[] 25)).drew.ownsRow w1.heap.size 25 1 (.slice (some ⟨w1.heap.size, 0, none⟩) 0 0) 0 [] := own_of_kept (World.ownsRow_made w1 #[] 0 (Nat.le_refl _) (by decide) rfl) (Kept.refl [] _).drew (by simp)
  have HF : Hid (Fam w1 w0.heap.size pv1 ls ∧ Kept [] w0 w1 ∧ pv1[np]? = some (.slice q0 L0 r0) ∧ pv1[a1]? = some (.slice q1 L1 r1) ∧ pv1[a2]? = some (.slice q2 L2 r2)) := ⟨hf1, k1, h0, h1, h2⟩
  have HO : Hid (∀ u ∈ pv1.take np, u.oneCell' = true) := hone
  have HNW : Hid (∀ {W : World}, Kept [] w1 W → ∀ (j : Nat) u, (pv1.take np)[j]? = some u → W.cell? ((⟨g1, 0, none⟩ : Addr).add j) = some u) := @hnews
  clear hr1 hf1 h0 h1 h2 hc1 hp1 hone hnews hA1 hA2 hA3 hsh hL0 hL1 hL2
  go_upto_region 3 with fail
  go_region_held3 (fun w' => w'.cell? ⟨g1, np, none⟩ = some (.slice q0 L0 r0) ∧ w'.cell? ⟨g1, a1, none⟩ = some (.slice q1 L1 r1) ∧ w'.cell? ⟨g1, a2, none⟩ = some (.slice q2 L2 r2))
    (first
      | (with_reducible exact ⟨y0, y1, y2⟩)
      | (with_reducible exact ⟨t0, t1, t2⟩)
      | (with_reducible exact ⟨kr.cell y0 (by simp), kr.cell y1 (by simp), kr.cell y2 (by simp)⟩)
      | (with_reducible exact ⟨((Kept.refl [] w1).alloc _).cell y0 (by simp), ((Kept.refl [] w1).alloc _).cell y1 (by simp), ((Kept.refl [] w1).alloc _).cell y2 (by simp)⟩)
      | go_keep)
    (first
      | (go_at_call 60; refine (hown _ (HF.out.2.1.then kr)).mono ?_; rintro e w5 ⟨vl, rfl, ol, kl⟩; obtain ⟨pl, cl, rfl⟩ := own_shape2 ol; have hks := kr.size; have ol' := own_mono ol hks; have o65 := own_of_kept o6 kl (by simp); replace kr := kr.then kl; have b5 := (B00.out.1.kept HF.out.2.1 (by simp)).kept kr (by simp); obtain ⟨⟨m0, m1, m2, m3, m4⟩, n0, n1, n2, n3, n4⟩ := b5.five; have bk := Blk.set5 (a' := .slice p6 np c6) (b' := .slice q0 L0 r0) (c' := .slice pl log.length cl) (d' := .slice q1 L1 r1) (e' := .slice q2 L2 r2) b5; have t0 := bk.2.cell (kr.cell y0 (by simp)) HG1.out; have t1 := bk.2.cell (kr.cell y1 (by simp)) HG1.out; have t2 := bk.2.cell (kr.cell y2 (by simp)) HG1.out)
      | (go_at_call 60; refine (hown _ (HF.out.2.1.then kr)).mono ?_; rintro e w5 ⟨vl, rfl, ol, kl⟩; obtain ⟨pl, cl, rfl⟩ := own_shape2 ol; have hks := kr.size; have ol' := own_mono ol hks; have ob5 := own_of_kept ob kl (by simp); replace kr := kr.then kl; replace ob := ob5; clear ob5)
      | (refine step_append_own3 (by rfl) (.tmp 12) (.tmp 15) 24 69 25 (by rfl) w1.heap.size 25 Try.underlying24 Try.underlying69 (.slice none 0 0) 24 (by kernel_rfl) rfl (.slice (some ⟨w1.heap.size, 0, none⟩) 0 0) 0 [] (by rfl) ob ⟨g1, 0, none⟩ np c1 (pv1.take np) (by rfl) hln (HNW.out kr) HO.out (by have := HN.out.2.1; unfold maxLen; omega) (by have := HN.out.2.1; omega) kr.size ?_; intro v6 w6 o6 g6 at6; rw [Nat.zero_add, List.nil_append] at o6; obtain ⟨p6, c6, rfl⟩ := own_shape2 o6; have kr6 : Kept [] w1 w6 := kr.grown g6 (fun k hk => .inr (by simp [Value.ownBlock] at hk; omega)); have kg6 := Kept.ofGrown (S := [w1.heap.size]) g6 (fun k hk _ => by simp [Value.ownBlock] at hk; simp [hk]); replace kr := kr6; try (have ol6 := own_of_kept ol' kg6 (fun x hx hm => by simp at hm; subst hm; have := own_ge ol _ hx; simp at this; omega); have b5 := (B00.out.1.kept HF.out.2.1 (by simp)).kept kr (by simp); obtain ⟨⟨m0, m1, m2, m3, m4⟩, n0, n1, n2, n3, n4⟩ := b5.five; have bk := Blk.set5 (a' := .slice p6 np c6) (b' := .slice q0 L0 r0) (c' := .slice pl log.length cl) (d' := .slice q1 L1 r1) (e' := .slice q2 L2 r2) b5; have t0 := bk.2.cell (kr.cell y0 (by simp)) HG1.out; have t1 := bk.2.cell (kr.cell y1 (by simp)) HG1.out; have t2 := bk.2.cell (kr.cell y2 (by simp)) HG1.out))
      | fail)
  have kF := bk.2
  obtain ⟨⟨j0, j1, j2, j3, j4⟩, -⟩ := bk.1.five
  have hs1 : w.heap.size < w1.heap.size := by have := HF.out.2.1.size; have := B00.out.2; omega
  have hA := HA.out
  have fF : Fam _ w.heap.size pv1 ls := ((HF.out.1.keptAll kr (by simp)).keptAll kF (fun x hx hm => by simp at hx; have := (HF.out.1.not8 hm).2.1; have := B00.out.2; omega)).mono (by have := B00.out.2; omega)
  have oF : World.ownsRow _ w.heap.size 5 1 (.slice pl log.length cl) log.length (u8s log) := own_mono (own_of_kept ol' kF (fun x hx hm => by simp at hm; have := own_ge ol' x hx; omega)) (Nat.le_of_lt hs1)
  have rF : World.ownsRow _ w.heap.size 25 1 (.slice p6 np c6) np (pv1.take np) := own_mono (own_of_kept o65 kF (fun x hx hm => by simp at hm; have := own_ge o65 x hx; omega)) (Nat.le_of_lt hs1)
  have fin := OwnIm.ofPls (np := np) fF HN.out.2.2.1 HF.out.2.2.1 (by rw [← hA.2.1]; exact HF.out.2.2.2.1) (by rw [← hA.2.2]; exact HF.out.2.2.2.2) oF (fun x hx hm => by have := own_ge ol' x hx; have := (HF.out.1.not8 hm).2.2; omega) rF
  have kk := (k0.then (HF.out.2.1.then kr)).trans kF (by simp)
  have FIN : Hid (OwnIm _ w.heap.size _ _ ∧ Kept [] w _) := ⟨fin, kk⟩
  clear fin fF oF rF kF bk t0 t1 t2 y0 y1 y2 ol ol' o6 o65 ob b5 m0 m1 m2 m3 m4 n0 n1 n2 n3 n4 kr kl kk hown hcut hA hks
  go_wp2
  refine bodyPost_ret (by simp [results, Try.results78, go_sem, j0, j1, j2, j3, j4]; try rfl) rfl ?_
  exact ⟨⟨.slice p6 np c6, pv1.take np, .slice q0 L0 r0, .slice pl log.length cl, .slice q1 L1 r1, .slice q2 L2 r2⟩, rfl, FIN.out.1, FIN.out.2⟩
end Go.Proofs.Ytmipmiaflompmab

/-
  OWN WORK. The program's disk: Image, Lasts.
-/
namespace Go.Proofs.Ytmipmiaflompmab
open Go.RowKit
set_option linter.unusedVariables false

theorem PR.bsR {w : World} {g : Nat} {d : DS} {R : PDat} (h : PR w g d R) : ∀ (i : Nat) u l, R.pr[i]? = some u → (prows d.np d.seen)[i]? = some l → Bs w u l := fun i u l hu hl => by
  obtain ⟨hi, hj⟩ := h.idxR hu
  refine Bs.ofOwn (h.fam.own _ u l hi ?_)
  unfold DS.pall
  rw [List.getElem?_cons_succ, List.getElem?_append_right (by rw [prows_length]; omega), prows_length, show d.np + 3 + i - (d.np + 3) = i by omega]
  exact hl
theorem PR.bsL {w : World} {g : Nat} {d : DS} {R : PDat} (h : PR w g d R) : ∀ (i : Nat) u l, R.pl[i]? = some u → (prows d.np d.rows)[i]? = some l → Bs w u l := fun i u l hu hl => by
  obtain ⟨hi, hj⟩ := h.idxL hu
  refine Bs.ofOwn (h.fam.own _ u l hi ?_)
  unfold DS.pall
  rw [List.getElem?_cons_succ, List.getElem?_append_left (by rw [prows_length]; omega)]
  exact hl
theorem prows_short {np ns : Nat} {rows : List (List UInt8)} (hl : rows.length = np + 3) (hs : Sized np ns rows) (hn : ns ≤ 8) : ∀ l ∈ prows np rows, l.length ≤ 140737488355328 := fun l hm => by
  obtain ⟨j, hj⟩ := List.getElem?_of_mem hm
  have := prows_size hl hs hj
  have := sizeP_le np ns j hn
  omega
set_option maxHeartbeats 3200000 in
theorem pImage (Z : List Nat) (v : Value) (d : DS) (F : List Nat) (w : World) (h : PD Z w v d F) :
    Calls Try.prog 50 #[v] w fun e w' => ∃ V, e = .returned V.agg ∧ OwnIm w' w.heap.size V d.image ∧ Kept [] w w' := by
  obtain ⟨g, R, rfl, h, -, -⟩ := h
  obtain ⟨w0, hw0⟩ : ∃ w0, w0 = w.alloc (.cells #[.slice none 0 0, .slice none 0 0, .slice none 0 0, .slice none 0 0, .slice none 0 0] 28) := ⟨_, rfl⟩
  have k0 : Kept [] w w0 := by rw [hw0]; exact (Kept.refl [] w).alloc _
  have b00 : Blk w0 w.heap.size 28 [.slice none 0 0, .slice none 0 0, .slice none 0 0, .slice none 0 0, .slice none 0 0] := by rw [hw0]; exact Blk.new w _ _
  have s0 : w0.heap.size = w.heap.size + 1 := by rw [hw0, World.size_alloc]
  have h0 := h.kept k0.drew (by simp) (by simp)
  obtain ⟨p, c, e1, hbs, -⟩ := h0.shapes
  obtain ⟨gr, cr, er, -⟩ := own_at8 h0.rowR (by omega)
  have c4 := (h.kept k0 (by simp) (by simp)).blk.cell (j := 4) (v := R.vr) rfl
  have c6 := (h.kept k0 (by simp) (by simp)).blk.cell (j := 6) (v := R.vlog) rfl
  have him := pimage_any R.vr R.vlog 0 d.np R.pr (prows d.np d.seen) d.log w0.drew h0.rowR (prows_length _ _) h0.bsR (prows_short h.ok.seenLen h.ok.seen h.ok.ns.2) h.ok.np hbs (by have := h.ok.log; have := h.ok.lm; omega)
  rw [← imOf_prows h.ok.seenLen] at him
  have e2 : imOf d.np d.seen d.log = d.image := rfl
  rw [e2] at him
  have hg : g ∉ [w.heap.size] := by have := h.blk.lt; simp; omega
  rw [er] at c4 him
  rw [e1] at c6 him
  have HW0 : Hid (w0 = w.alloc (.cells #[.slice none 0 0, .slice none 0 0, .slice none 0 0, .slice none 0 0, .slice none 0 0] 28)) := hw0
  have B00 : Hid (Blk w0 w.heap.size 28 [.slice none 0 0, .slice none 0 0, .slice none 0 0, .slice none 0 0, .slice none 0 0] ∧ w0.heap.size = w.heap.size + 1 ∧ g ∉ [w.heap.size] ∧ Kept [] w w0) := ⟨b00, s0, hg, k0⟩
  generalize d.image = I at *
  clear h h0 hbs b00 s0 hg hw0 e1 er e2 k0
  have d4 := (Kept.refl [] w0).drew.cell c4 (by simp)
  have d6 := (Kept.refl [] w0).drew.cell c6 (by simp)
  go_enter Try.func50, Try.ntmps50
  go_upto_region 1 with fail
  rw [← HW0.out]
  go_region_held3 (fun w' => w'.cell? ⟨g, 4, none⟩ = some (.slice (some ⟨gr, 0, none⟩) (d.np + 3) cr) ∧ w'.cell? ⟨g, 6, none⟩ = some (.slice p d.log.length c))
    (first
      | (with_reducible exact ⟨d4, d6⟩)
      | (with_reducible exact ⟨t4, t6⟩)
      | (with_reducible exact ⟨k5.cell c4 (by simp), k5.cell c6 (by simp)⟩)
      | fail)
    (first
      | (go_at_call 78; refine him.mono ?_; rintro e w5 ⟨V, rfl, hV, k5'⟩
         have k5 : Kept [] w0 w5 := (Kept.refl [] w0).drew.then k5'
         obtain ⟨vp, pv, pair, log, m0, m1⟩ := V
         unfold IV.agg
         obtain ⟨u0, v0, u1, v1, u2, v2, u3, v3, u4, v4, x0, x1, x2, x3, x4⟩ := hV.shapes
         simp only at x0 x1 x2 x3 x4
         subst x0 x1 x2 x3 x4
         have b5 := B00.out.1.kept k5 (by simp)
         obtain ⟨⟨y0, y1, y2, y3, y4⟩, n0, n1, n2, n3, n4⟩ := b5.five
         have bk := Blk.set5 (a' := .slice u0 pv.length v0) (b' := .slice u1 I.pair.length v1) (c' := .slice u2 I.log.length v2) (d' := .slice u3 I.m0.length v3) (e' := .slice u4 I.m1.length v4) b5
         have t4 := bk.2.cell (k5.cell c4 (by simp)) B00.out.2.2.1
         have t6 := bk.2.cell (k5.cell c6 (by simp)) B00.out.2.2.1)
      | fail)
  have kF := bk.2
  obtain ⟨⟨j0, j1, j2, j3, j4⟩, -⟩ := bk.1.five
  have hlt : w.heap.size < w0.heap.size := by have := B00.out.2.1; omega
  have fin : OwnIm _ w.heap.size _ _ := (OwnIm.mono ⟨hV.fam.keptAll kF (fun x hx hm => by simp at hx; have := (hV.fam.not8 hm).2.1; simp at this; omega), own_of_kept hV.row kF (fun x hx hm => by simp at hm; have := own_ge hV.row x hx; simp at this; omega), hV.len⟩ (show w.heap.size ≤ w0.drew.heap.size from Nat.le_of_lt hlt))
  have kk := (B00.out.2.2.2.then k5).trans kF (by simp)
  have FIN : Hid (OwnIm _ w.heap.size _ _ ∧ Kept [] w _) := ⟨fin, kk⟩
  clear fin kF bk t4 t6 hV k5 k5' him y0 y1 y2 y3 y4 n0 n1 n2 n3 n4 kk b5 c4 c6
  go_wp2
  refine bodyPost_ret (by simp [results, Try.results50, go_sem, j0, j1, j2, j3, j4]; try rfl) rfl ?_
  exact ⟨⟨.slice u0 pv.length v0, pv, .slice u1 I.pair.length v1, .slice u2 I.log.length v2, .slice u3 I.m0.length v3, .slice u4 I.m1.length v4⟩, rfl, FIN.out.1, FIN.out.2⟩
set_option maxHeartbeats 3200000 in
theorem pLasts (Z : List Nat) (v : Value) (d : DS) (F : List Nat) (w : World) (h : PD Z w v d F) :
    Calls Try.prog 51 #[v] w fun e w' => ∃ V, e = .returned V.agg ∧ OwnIm w' w.heap.size V d.lasts ∧ Kept [] w w' := by
  obtain ⟨g, R, rfl, h, -, -⟩ := h
  obtain ⟨w0, hw0⟩ : ∃ w0, w0 = w.alloc (.cells #[.slice none 0 0, .slice none 0 0, .slice none 0 0, .slice none 0 0, .slice none 0 0] 28) := ⟨_, rfl⟩
  have k0 : Kept [] w w0 := by rw [hw0]; exact (Kept.refl [] w).alloc _
  have b00 : Blk w0 w.heap.size 28 [.slice none 0 0, .slice none 0 0, .slice none 0 0, .slice none 0 0, .slice none 0 0] := by rw [hw0]; exact Blk.new w _ _
  have s0 : w0.heap.size = w.heap.size + 1 := by rw [hw0, World.size_alloc]
  have h0 := h.kept k0.drew (by simp) (by simp)
  obtain ⟨p, c, e1, hbs, -⟩ := h0.shapes
  obtain ⟨gr, cr, er, -⟩ := own_at8 h0.rowL (by omega)
  have c3 := (h.kept k0 (by simp) (by simp)).blk.cell (j := 3) (v := R.vl) rfl
  have c6 := (h.kept k0 (by simp) (by simp)).blk.cell (j := 6) (v := R.vlog) rfl
  have c7 := (h.kept k0 (by simp) (by simp)).blk.cell (j := 7) rfl
  rw [e1] at hbs c6
  have hla := h.ok.lasted
  obtain ⟨-, hcut, -, hb2, -⟩ := hbs.cuts (P := Try.prog) 25 5 Try.underlying25 (by kernel_rfl) d.lasted hla
  have hlen : (d.log.take d.lasted).length = d.lasted := by simp; omega
  have him := pimage_any R.vl (.slice p d.lasted c) 0 d.np R.pl (prows d.np d.rows) (d.log.take d.lasted) w0.drew h0.rowL (prows_length _ _) h0.bsL (prows_short h.ok.len h.ok.row h.ok.ns.2) h.ok.np hb2 (by have := h.ok.log; have := h.ok.lm; rw [hlen]; omega)
  rw [← imOf_prows h.ok.len] at him
  have e2 : imOf d.np d.rows (d.log.take d.lasted) = d.lasts := rfl
  rw [e2] at him
  have hg : g ∉ [w.heap.size] := by have := h.blk.lt; simp; omega
  rw [er] at c3 him
  have i0 : (0 : Int) ≤ (d.lasted : Int) := by omega
  obtain ⟨p', c', ec, hcc, -⟩ := id hbs
  cases ec
  have i1 : (d.lasted : Int) ≤ (c : Int) := by omega
  have HW0 : Hid (w0 = w.alloc (.cells #[.slice none 0 0, .slice none 0 0, .slice none 0 0, .slice none 0 0, .slice none 0 0] 28)) := hw0
  have B00 : Hid (Blk w0 w.heap.size 28 [.slice none 0 0, .slice none 0 0, .slice none 0 0, .slice none 0 0, .slice none 0 0] ∧ w0.heap.size = w.heap.size + 1 ∧ g ∉ [w.heap.size] ∧ Kept [] w w0) := ⟨b00, s0, hg, k0⟩
  generalize d.lasts = I at *
  clear h h0 hbs b00 s0 hg hw0 e1 er e2 k0 hla hlen hcc hb2
  have d3 := (Kept.refl [] w0).drew.cell c3 (by simp)
  have d6 := (Kept.refl [] w0).drew.cell c6 (by simp)
  have d7 := (Kept.refl [] w0).drew.cell c7 (by simp)
  go_enter Try.func51, Try.ntmps51
  go_upto_region 1 with fail
  rw [← HW0.out]
  go_region_held3 (fun w' => w'.cell? ⟨g, 3, none⟩ = some (.slice (some ⟨gr, 0, none⟩) (d.np + 3) cr) ∧ w'.cell? ⟨g, 6, none⟩ = some (.slice p d.log.length c) ∧ w'.cell? ⟨g, 7, none⟩ = some (.int .i64 (d.lasted : Int)))
    (first
      | (with_reducible exact ⟨d3, d6, d7⟩)
      | (with_reducible exact ⟨t3, t6, t7⟩)
      | (with_reducible exact ⟨k5.cell c3 (by simp), k5.cell c6 (by simp), k5.cell c7 (by simp)⟩)
      | fail)
    (first
      | (go_at_call 78; refine him.mono ?_; rintro e w5 ⟨V, rfl, hV, k5'⟩
         have k5 : Kept [] w0 w5 := (Kept.refl [] w0).drew.then k5'
         obtain ⟨vp, pv, pair, log, m0, m1⟩ := V
         unfold IV.agg
         obtain ⟨u0, v0, u1, v1, u2, v2, u3, v3, u4, v4, x0, x1, x2, x3, x4⟩ := hV.shapes
         simp only at x0 x1 x2 x3 x4
         subst x0 x1 x2 x3 x4
         have b5 := B00.out.1.kept k5 (by simp)
         obtain ⟨⟨y0, y1, y2, y3, y4⟩, n0, n1, n2, n3, n4⟩ := b5.five
         have bk := Blk.set5 (a' := .slice u0 pv.length v0) (b' := .slice u1 I.pair.length v1) (c' := .slice u2 I.log.length v2) (d' := .slice u3 I.m0.length v3) (e' := .slice u4 I.m1.length v4) b5
         have t3 := bk.2.cell (k5.cell c3 (by simp)) B00.out.2.2.1
         have t6 := bk.2.cell (k5.cell c6 (by simp)) B00.out.2.2.1
         have t7 := bk.2.cell (k5.cell c7 (by simp)) B00.out.2.2.1)
      | fail)
  have kF := bk.2
  obtain ⟨⟨j0, j1, j2, j3, j4⟩, -⟩ := bk.1.five
  have hlt : w.heap.size < w0.heap.size := by have := B00.out.2.1; omega
  have fin : OwnIm _ w.heap.size _ _ := (OwnIm.mono ⟨hV.fam.keptAll kF (fun x hx hm => by simp at hx; have := (hV.fam.not8 hm).2.1; simp at this; omega), own_of_kept hV.row kF (fun x hx hm => by simp at hm; have := own_ge hV.row x hx; simp at this; omega), hV.len⟩ (show w.heap.size ≤ w0.drew.heap.size from Nat.le_of_lt hlt))
  have kk := (B00.out.2.2.2.then k5).trans kF (by simp)
  have FIN : Hid (OwnIm _ w.heap.size _ _ ∧ Kept [] w _) := ⟨fin, kk⟩
  clear fin kF bk t3 t6 t7 hV k5 k5' him y0 y1 y2 y3 y4 n0 n1 n2 n3 n4 kk b5 c3 c6 c7
  go_wp2
  refine bodyPost_ret (by simp [results, Try.results51, go_sem, j0, j1, j2, j3, j4]; try rfl) rfl ?_
  exact ⟨⟨.slice u0 pv.length v0, pv, .slice u1 I.pair.length v1, .slice u2 I.log.length v2, .slice u3 I.m0.length v3, .slice u4 I.m1.length v4⟩, rfl, FIN.out.1, FIN.out.2⟩
end Go.Proofs.Ytmipmiaflompmab

/-
  OWN WORK. The program's disk: lastingDisk.
-/
namespace Go.Proofs.Ytmipmiaflompmab
open Go.RowKit
set_option linter.unusedVariables false

theorem Fam.join {w : World} {base : Nat} {xa xb : List Value} {la lb : List (List UInt8)} (ha : Fam w base xa la) (hb : Fam w base xb lb) (h : ∀ x ∈ blocks xa, x ∉ blocks xb) : Fam w base (xa ++ xb) (la ++ lb) := by
  have hal := ha.len
  have hbl := hb.len
  refine ⟨by simp [hal, hbl], fun i v l hv hl => ?_, fun i j u v x hij hu hv hx => ?_⟩
  · by_cases c : i < xa.length
    · rw [List.getElem?_append_left c] at hv
      rw [List.getElem?_append_left (by omega)] at hl
      exact ha.own i v l hv hl
    · rw [List.getElem?_append_right (by omega)] at hv
      rw [List.getElem?_append_right (by omega), ← hal] at hl
      exact hb.own _ v l hv hl
  · by_cases c : j < xa.length
    · rw [List.getElem?_append_left c] at hv
      rw [List.getElem?_append_left (by omega)] at hu
      exact ha.apart i j u v x hij hu hv hx
    · rw [List.getElem?_append_right (by omega)] at hv
      by_cases c2 : i < xa.length
      · rw [List.getElem?_append_left c2] at hu
        exact fun e => h x (mem_blocks hu hx) (mem_blocks hv e)
      · rw [List.getElem?_append_right (by omega)] at hu
        exact hb.apart _ _ u v x (by omega) hu hv hx
theorem Fam.one {w : World} {base : Nat} {v : Value} {l : List UInt8} (h : w.ownsRow base 5 1 v l.length (u8s l)) : Fam w base [v] [l] := by
  refine ⟨rfl, fun i u m hu hm => ?_, fun i j u u' x hij hu hu' => ?_⟩
  · rcases i with _ | i
    · simp at hu hm; subst hu; subst hm; exact h
    · simp at hu
  · rcases j with _ | j
    · omega
    · simp at hu'
/-- a disk without loose writes, made of its parts -/
theorem PR.make {W : World} {base g : Nat} {d : DS} {vl vr vlog : Value} {pl pr : List Value} (hok : d.Ok) (hd : d.loose = [] ∧ d.stop = 0 ∧ d.dead = false)
    (hL : Pls W base vl (d.np + 3) pl (prows d.np d.rows)) (hR : Pls W base vr (d.np + 3) pr (prows d.np d.rows)) (hlog : W.ownsRow base 5 1 vlog d.log.length (u8s d.log))
    (a1 : ∀ x ∈ blocks pl, x ∉ blocks pr) (a2 : ∀ x, vlog.ownBlock = some x → x ∉ blocks pl ∧ x ∉ blocks pr) (a3 : ∀ x, vl.ownBlock = some x → vr.ownBlock ≠ some x)
    (hb : Blk W g 83 ((⟨vl, pl, vr, pr, .slice none 0 0, [], vlog, 0, []⟩ : PDat).cells d)) (hg : base ≤ g) :
    PD [] W (.pointer (some ⟨g, 0, none⟩)) d ((⟨vl, pl, vr, pr, .slice none 0 0, [], vlog, 0, []⟩ : PDat).foot g) ∧ ∀ x ∈ (⟨vl, pl, vr, pr, .slice none 0 0, [], vlog, 0, []⟩ : PDat).foot g, base ≤ x := by
  obtain ⟨d1, d2, d3⟩ := hd
  have hs : d.seen = d.rows := by unfold DS.seen; rw [d1]; rfl
  have f1 : Fam W base (pl ++ pr) (prows d.np d.rows ++ prows d.np d.rows) := hL.fam.join hR.fam a1
  have f2 : Fam W base (vlog :: (pl ++ pr)) (d.log :: (prows d.np d.rows ++ prows d.np d.rows)) := (Fam.one hlog).join f1 (fun x hx hm => by
    obtain ⟨k, v, hv, hx⟩ := blocks_mem hx
    rcases k with _ | k
    · simp at hv; subst hv
      obtain ⟨j, u, hu, hux⟩ := blocks_mem hm
      have hu : (pl ++ pr)[j]? = some u := hu
      rcases Nat.lt_or_ge j pl.length with c | c
      · rw [List.getElem?_append_left c] at hu
        exact (a2 x hx).1 (mem_blocks hu hux)
      · rw [List.getElem?_append_right c] at hu
        exact (a2 x hx).2 (mem_blocks hu hux)
    · simp at hv)
  refine ⟨⟨g, _, rfl, ⟨hok, hb, ?_, own_mono hL.row (Nat.zero_le _), own_mono hR.row (Nat.zero_le _), ?_, ?_, a3, ?_, wrap_i64_of (by show (-9223372036854775808 : Int) ≤ 0; omega) (by show (0 : Int) < _; omega), fun x hx => by simp at hx⟩, rfl, rfl⟩, fun x hx => ?_⟩
  · unfold DS.pall
    rw [hs]
    exact f2.mono (Nat.zero_le _)
  · rw [d1]; exact World.ownsRow_nil _ _ _ _
  · intro i f x hf; simp at hf
  · intro _; rw [d2]; rfl
  · unfold PDat.foot at hx
    simp only [List.mem_cons, List.mem_append, Option.mem_toList, PDat.rows] at hx
    rcases hx with c | ((c | c) | c) | c
    · rw [c]; exact hg
    · exact own_ge hL.row x c
    · exact own_ge hR.row x c
    · simp [Value.ownBlock] at c
    · exact (f2.not8 c).2.1
theorem Pls.kept {w w' : World} {base n : Nat} {v : Value} {pv : List Value} {ls : List (List UInt8)} (h : Pls w base v n pv ls) (k : Kept [] w w') : Pls w' base v n pv ls := ⟨own_of_kept h.row k (by simp), h.fam.keptAll k (by simp)⟩
theorem Pls.mono {w : World} {base b' n : Nat} {v : Value} {pv : List Value} {ls : List (List UInt8)} (h : Pls w base v n pv ls) (hb : b' ≤ base) : Pls w b' v n pv ls := ⟨own_mono h.row hb, h.fam.mono hb⟩
set_option maxHeartbeats 3200000 in
theorem lasting_any (d : DS) (base : Nat) (vp ub : Value) (pv : List Value) (w : World) (hok : d.Ok) (hd : d.loose = [] ∧ d.stop = 0 ∧ d.dead = false) (hd2 : d.acts = 0 ∧ d.lasted = d.log.length) (hP : Pls w base vp (d.np + 3) pv (prows d.np d.rows)) (hb : base ≤ w.heap.size) (hu : Bs w ub d.log) :
    Calls Try.prog 31 #[.agg #[.int .i64 (d.np : Int), .int .i64 (d.ns : Int), .int .i64 (d.lm : Int)], vp, ub] w fun e w' => ∃ u, e = .returned u ∧ (∃ F, PD [] w' u d F ∧ (∀ x ∈ F, base ≤ x)) ∧ Kept [] w w' := by
  obtain ⟨w0, hw0⟩ : ∃ w0, w0 = w.alloc (.cells #[.int .i64 (d.np : Int), .int .i64 (d.ns : Int), .int .i64 (d.lm : Int)] 23) := ⟨_, rfl⟩
  have k0 : Kept [] w w0 := by rw [hw0]; exact (Kept.refl [] w).alloc _
  have bS : Blk w0 w.heap.size 23 [.int .i64 (d.np : Int), .int .i64 (d.ns : Int), .int .i64 (d.lm : Int)] := by rw [hw0]; exact Blk.new w _ _
  have kd := k0.drew
  have hcop := pcopied_any vp base (d.np + 3) pv (prows d.np d.rows) w0.drew (own_of_kept hP.row kd (by simp)) (prows_length _ _) (fun i u l hu hl => ((hP.fam.bs i u l hu hl).kept kd)) (prows_short hok.len hok.row hok.ns.2) (by have := hok.np; omega) (by omega)
  have hown := fun W (k : Kept [] w W) => pown_any ub d.log W (hu.kept k) (by have := hok.log; have := hok.lm; omega)
  obtain ⟨pu, cu, rfl, -⟩ := id hu
  obtain ⟨gP, cP, rfl, -⟩ := own_at8 hP.row (by omega)
  have s0 := bS.cell (j := 0) rfl
  have s1 := bS.cell (j := 1) rfl
  have s2 := bS.cell (j := 2) rfl
  have e0 := (Kept.refl [] w0).drew.cell s0 (by simp)
  have e1 := (Kept.refl [] w0).drew.cell s1 (by simp)
  have e2 := (Kept.refl [] w0).drew.cell s2 (by simp)
  have HP : Hid (Pls w base (.slice (some ⟨gP, 0, none⟩) (d.np + 3) cP) (d.np + 3) pv (prows d.np d.rows) ∧ base ≤ w.heap.size ∧ d.Ok ∧ (d.loose = [] ∧ d.stop = 0 ∧ d.dead = false) ∧ (d.acts = 0 ∧ d.lasted = d.log.length) ∧ Kept [] w w0) := ⟨hP, hb, hok, hd, hd2, k0⟩
  have HW0 : Hid (w0 = w.alloc (.cells #[.int .i64 (d.np : Int), .int .i64 (d.ns : Int), .int .i64 (d.lm : Int)] 23)) := hw0
  clear hP hb hok hd hd2 hu hw0 bS k0
  go_enter Try.func31, Try.ntmps31
  go_upto_region 1 with fail
  rw [← HW0.out]
  go_region_held3 (fun w' => w'.cell? ⟨w.heap.size, 0, none⟩ = some (.int .i64 (d.np : Int)) ∧ w'.cell? ⟨w.heap.size, 1, none⟩ = some (.int .i64 (d.ns : Int)) ∧ w'.cell? ⟨w.heap.size, 2, none⟩ = some (.int .i64 (d.lm : Int)))
    (first
      | (with_reducible exact ⟨e0, e1, e2⟩)
      | (with_reducible exact ⟨k5.cell s0 (by simp), k5.cell s1 (by simp), k5.cell s2 (by simp)⟩)
      | (with_reducible exact ⟨k6.cell s0 (by simp), k6.cell s1 (by simp), k6.cell s2 (by simp)⟩)
      | (with_reducible exact ⟨(k6.alloc _).cell s0 (by simp), (k6.alloc _).cell s1 (by simp), (k6.alloc _).cell s2 (by simp)⟩)
      | fail)
    (first
      | (go_at_call 32; refine hcop.mono ?_; rintro e w5 ⟨vr, pr, rfl, hR, k5'⟩; have k5 : Kept [] w0 w5 := (Kept.refl [] w0).drew.then k5'; obtain ⟨gR, cR, rfl, -⟩ := own_at8 hR.row (by omega))
      | (go_at_call 60; refine (hown _ (HP.out.2.2.2.2.2.then k5)).mono ?_; rintro e w6 ⟨vlog, rfl, ol, k6'⟩; have k6 : Kept [] w0 w6 := k5.then k6'; obtain ⟨pl, cl, rfl⟩ := own_shape2 ol)
      | fail)
  obtain ⟨hPw, hbw, hok, hd, hd2, k0⟩ := HP.out
  have sw0 := k0.size
  have s5 := k5.size
  have s6 := k6'.size
  obtain ⟨W, hW⟩ : ∃ W, W = w6.alloc (.cells #[.int .i64 (d.np : Int), .int .i64 (d.ns : Int), .int .i64 (d.lm : Int), .slice (some ⟨gP, 0, none⟩) (d.np + 3) cP, .slice (some ⟨gR, 0, none⟩) (d.np + 3) cR, .slice none 0 0, .slice pl d.log.length cl, .int .i64 (d.log.length : Int), .int .i64 0, .int .i64 0, .bool false] 83) := ⟨_, rfl⟩
  have kW : Kept [] w6 W := by rw [hW]; exact (Kept.refl [] w6).alloc _
  have bW : Blk W w6.heap.size 83 ((⟨.slice (some ⟨gP, 0, none⟩) (d.np + 3) cP, pv, .slice (some ⟨gR, 0, none⟩) (d.np + 3) cR, pr, .slice none 0 0, [], .slice pl d.log.length cl, 0, []⟩ : PDat).cells d) := by
    unfold PDat.cells
    rw [hd2.1, hd2.2, hd.2.2, hW]
    exact Blk.new w6 _ _
  have p1 := hPw.kept ((k0.then k6).then kW)
  have p2 := (hR.kept (k6'.then kW)).mono (show base ≤ w0.drew.heap.size from Nat.le_trans hbw sw0)
  have p3 := own_mono (own_of_kept ol kW (by simp)) (show base ≤ w5.heap.size by omega)
  have pvlt : ∀ x ∈ blocks pv, x < w.heap.size := fun x hx => (hPw.fam.not8 hx).2.2
  have prge : ∀ x ∈ blocks pr, w0.heap.size ≤ x ∧ x < w5.heap.size := fun x hx => ⟨(hR.fam.not8 hx).2.1, (hR.fam.not8 hx).2.2⟩
  have fin := PR.make (W := W) (g := w6.heap.size) hok hd p1 p2 p3 (fun x hx hm => by have := pvlt x hx; have := (prge x hm).1; omega) (fun x hx => by have := own_ge ol x hx; exact ⟨fun hm => by have := pvlt x hm; omega, fun hm => by have := (prge x hm).2; omega⟩) (fun x hx hm => by have h1 := own_lt hPw.row x hx; have h2 := own_ge hR.row x hm; have h2 : w0.heap.size ≤ x := h2; omega) bW (by omega)
  have FIN : Hid ((∃ F, PD [] W (.pointer (some ⟨w6.heap.size, 0, none⟩)) d F ∧ ∀ x ∈ F, base ≤ x) ∧ Kept [] w W) := ⟨⟨_, fin⟩, (k0.then k6).then kW⟩
  have HWW : Hid (W = w6.alloc (.cells #[.int .i64 (d.np : Int), .int .i64 (d.ns : Int), .int .i64 (d.lm : Int), .slice (some ⟨gP, 0, none⟩) (d.np + 3) cP, .slice (some ⟨gR, 0, none⟩) (d.np + 3) cR, .slice none 0 0, .slice pl d.log.length cl, .int .i64 (d.log.length : Int), .int .i64 0, .int .i64 0, .bool false] 83)) := hW
  clear fin p1 p2 p3 bW kW hW pvlt prge hPw hR ol k5 k5' k6 k6' e0 e1 e2 s0 s1 s2 hcop hown hok hd hd2 HP k0 kd
  go_wp2
  rw [← HWW.out]
  go_ret
  exact ⟨_, rfl, FIN.out.1, FIN.out.2⟩
end Go.Proofs.Ytmipmiaflompmab

/-
  OWN WORK. The program's disk: blank places.
-/
namespace Go.Proofs.Ytmipmiaflompmab
open Go.RowKit
set_option linter.unusedVariables false

theorem zer_made (w : World) (base n : Nat) (hb : base ≤ w.heap.size) (hn : n ≤ 1000) : (w.alloc (.cells (madeCells #[.int .u8 0] n) 5)).ownsRow base 5 1 (.slice (some ⟨w.heap.size, 0, none⟩) n n) (zer n).length (u8s (zer n)) := by
  have := own_made w 5 base n n hb (Nat.le_refl _) (by unfold maxLen; omega)
  unfold zer
  rw [List.length_replicate]
  exact this
theorem hideH {p : Prop} (h : p) : Hid p := h
def AL (w : World) (n : Nat) : World := w.alloc (.cells (madeCells #[.int .u8 0] n) 5)
/-- three rows of zeros, made one behind the other -/
theorem three_rows (wr : World) (n1 n2 n3 : Nat) (h1 : n1 ≤ 1000) (h2 : n2 ≤ 1000) (h3 : n3 ≤ 1000) :
    (AL (AL (AL wr n1) n2) n3).ownsRow wr.heap.size 5 1 (.slice (some ⟨wr.heap.size, 0, none⟩) n1 n1) (zer n1).length (u8s (zer n1)) ∧ (AL (AL (AL wr n1) n2) n3).ownsRow wr.heap.size 5 1 (.slice (some ⟨wr.heap.size + 1, 0, none⟩) n2 n2) (zer n2).length (u8s (zer n2)) ∧ (AL (AL (AL wr n1) n2) n3).ownsRow wr.heap.size 5 1 (.slice (some ⟨wr.heap.size + 1 + 1, 0, none⟩) n3 n3) (zer n3).length (u8s (zer n3)) ∧ Kept [] wr (AL (AL (AL wr n1) n2) n3) ∧ (AL (AL (AL wr n1) n2) n3).heap.size = wr.heap.size + 1 + 1 + 1 := by
  have t1 : (AL wr n1).heap.size = wr.heap.size + 1 := World.size_alloc _ _
  have t2 : (AL (AL wr n1) n2).heap.size = wr.heap.size + 1 + 1 := (World.size_alloc _ _).trans (by rw [t1])
  have t3 : (AL (AL (AL wr n1) n2) n3).heap.size = wr.heap.size + 1 + 1 + 1 := (World.size_alloc _ _).trans (by rw [t2])
  have K1 : Kept [] wr (AL wr n1) := (Kept.refl [] wr).alloc _
  have K2 : Kept [] (AL wr n1) (AL (AL wr n1) n2) := (Kept.refl [] _).alloc _
  have K3 : Kept [] (AL (AL wr n1) n2) (AL (AL (AL wr n1) n2) n3) := (Kept.refl [] _).alloc _
  have O1 := zer_made wr wr.heap.size n1 (Nat.le_refl _) h1
  have O2 := zer_made (AL wr n1) wr.heap.size n2 (by omega) h2
  have O3 := zer_made (AL (AL wr n1) n2) wr.heap.size n3 (by omega) h3
  rw [t1] at O2
  rw [t2] at O3
  exact ⟨own_of_kept O1 (K2.then K3) (by simp), own_of_kept O2 K3 (by simp), O3, (K1.then K2).then K3, t3⟩
theorem Fam.snoc3 {w : World} {base lo : Nat} {qs : List Value} {ls : List (List UInt8)} {x y z : Value} {lx ly lz : List UInt8} (h : Fam w base qs ls) (hlo : ∀ b ∈ blocks qs, b < lo) (hb : base ≤ lo) (ox : w.ownsRow lo 5 1 x lx.length (u8s lx)) (oy : w.ownsRow lo 5 1 y ly.length (u8s ly)) (oz : w.ownsRow lo 5 1 z lz.length (u8s lz))
    (hxy : ∀ b, x.ownBlock = some b → y.ownBlock ≠ some b) (hxz : ∀ b, x.ownBlock = some b → z.ownBlock ≠ some b) (hyz : ∀ b, y.ownBlock = some b → z.ownBlock ≠ some b) : Fam w base (qs ++ [x, y, z]) (ls ++ [lx, ly, lz]) := by
  have f3 : Fam w base [x, y, z] [lx, ly, lz] := by
    have a := (Fam.one (own_mono oy hb)).join (Fam.one (own_mono oz hb)) (fun b hm hm2 => by
      obtain ⟨i, v, hv, hx⟩ := blocks_mem hm
      obtain ⟨j, u, hu, hy⟩ := blocks_mem hm2
      rcases i with _ | i
      · rcases j with _ | j
        · simp at hv hu; subst hv; subst hu; exact hyz b hx hy
        · simp at hu
      · simp at hv)
    exact (Fam.one (own_mono ox hb)).join a (fun b hm hm2 => by
      obtain ⟨i, v, hv, hx⟩ := blocks_mem hm
      obtain ⟨j, u, hu, hy⟩ := blocks_mem hm2
      rcases i with _ | i
      · simp at hv; subst hv
        rcases j with _ | _ | j
        · simp at hu; subst hu; exact hxy b hx hy
        · simp at hu; subst hu; exact hxz b hx hy
        · simp at hu
      · simp at hv)
  refine h.join f3 (fun b hm hm2 => ?_)
  have h1 := hlo b hm
  obtain ⟨j, u, hu, hy⟩ := blocks_mem hm2
  rcases j with _ | _ | _ | j
  · simp at hu; subst hu; have := own_ge ox b hy; omega
  · simp at hu; subst hu; have := own_ge oy b hy; omega
  · simp at hu; subst hu; have := own_ge oz b hy; omega
  · simp at hu
/-- all that the last append of blank wants, and what it gives -/
structure Bl (w wr W4 : World) (vp : Value) (k : Nat) (qs : List Value) (ls : List (List UInt8)) (x y z : Value) (lx ly lz : List UInt8) : Prop where
  own : W4.ownsRow w.heap.size 25 1 vp k qs
  news : ∀ (j : Nat) u, [x, y, z][j]? = some u → W4.cell? ((⟨wr.heap.size + 1 + 1 + 1, 0, none⟩ : Addr).add j) = some u
  size : w.heap.size ≤ W4.heap.size
  one : ∀ u ∈ [x, y, z], u.oneCell' = true
  fin : ∀ v5 w5, w5.ownsRow w.heap.size 25 1 v5 (k + 3) (qs ++ [x, y, z]) → W4.grownBy w5 vp.ownBlock → Pls w5 w.heap.size v5 (k + 3) (qs ++ [x, y, z]) (ls ++ [lx, ly, lz]) ∧ Kept [] w w5
theorem Bl.make {w wr W3 : World} {vp : Value} {k : Nat} {qs : List Value} {ls : List (List UInt8)} {x y z : Value} {lx ly lz : List UInt8} (kw : Kept [] w wr) (hv : wr.ownsRow w.heap.size 25 1 vp k qs) (hf : Fam wr w.heap.size qs ls) (k3 : Kept [] wr W3) (s3 : W3.heap.size = wr.heap.size + 1 + 1 + 1)
    (ox : W3.ownsRow wr.heap.size 5 1 x lx.length (u8s lx)) (oy : W3.ownsRow wr.heap.size 5 1 y ly.length (u8s ly)) (oz : W3.ownsRow wr.heap.size 5 1 z lz.length (u8s lz))
    (hxy : ∀ b, x.ownBlock = some b → y.ownBlock ≠ some b) (hxz : ∀ b, x.ownBlock = some b → z.ownBlock ≠ some b) (hyz : ∀ b, y.ownBlock = some b → z.ownBlock ≠ some b) : Bl w wr (W3.alloc (.cells #[x, y, z] 25)).drew vp k qs ls x y z lx ly lz := by
  have kD : Kept [] W3 (W3.alloc (.cells #[x, y, z] 25)).drew := ((Kept.refl [] W3).alloc _).drew
  have hs := kw.size
  have f3 := (hf.keptAll k3 (by simp)).snoc3 (lo := wr.heap.size) (fun b hb => (hf.not8 hb).2.2) hs ox oy oz hxy hxz hyz
  have s4 : (W3.alloc (.cells #[x, y, z] 25)).drew.heap.size = W3.heap.size + 1 := World.size_alloc _ _
  refine ⟨own_of_kept hv (k3.then kD) (by simp), fun j u hj => ?_, by omega, fun u hu => ?_, fun v5 w5 o5 g5 => ?_⟩
  · rw [add_none rfl, ← s3]
    have := Blk.new W3 25 [x, y, z]
    rw [Nat.zero_add]
    exact this.cell hj
  · simp at hu
    rcases hu with e | e | e
    · obtain ⟨p, c, e2⟩ := own_shape2 ox; rw [e, e2]; rfl
    · obtain ⟨p, c, e2⟩ := own_shape2 oy; rw [e, e2]; rfl
    · obtain ⟨p, c, e2⟩ := own_shape2 oz; rw [e, e2]; rfl
  · have k5 := Kept.ofGrown (S := vp.ownBlock.toList) g5 (by intro k e _; simp [e])
    have k35 : Kept vp.ownBlock.toList W3 w5 := (kD.mono (by simp)).trans k5 (fun x hx => .inl hx)
    have hv3 := own_of_kept hv k3 (by simp)
    exact ⟨⟨o5, f3.keptAll k35 (fun x hx hm => (f3.not8 hm).1 (own_not8 hv3 (by decide) x (by simpa using hx)))⟩, kw.trans ((k3.mono (by simp)).trans k35 (fun x hx => .inl hx)) (fun x hx => .inr (own_ge hv x (by simpa using hx)))⟩
set_option maxHeartbeats 6400000 in
theorem pblank_any (np ns lm : Nat) (w : World) (hnp : 1 ≤ np ∧ np ≤ 16) (hns : ns ≤ 8) :
    Calls Try.prog 29 #[.agg #[.int .i64 (np : Int), .int .i64 (ns : Int), .int .i64 (lm : Int)]] w fun e w' => ∃ v pv, e = .returned v ∧ Pls w' w.heap.size v (np + 3) pv (prows np (blankRows np ns)) ∧ Kept [] w w' := by
  have ebl : prows np (blankRows np ns) = List.replicate np (zer (pgB ns)) ++ [zer (16 + pgB ns), zer 40, zer 40] := prows_parts (by simp)
  rw [ebl]
  obtain ⟨pg, hpg⟩ : ∃ pg, pg = pgB ns := ⟨_, rfl⟩
  rw [← hpg]
  have hpg' : pg = 24 + 16 * ns := by rw [hpg]; rfl
  have w1 : IntKind.i64.wrap (16 * (ns : Int)) = 16 * (ns : Int) := wrap_i64_of (by omega) (by omega)
  have w2 : IntKind.i64.wrap (16 + 16 * (ns : Int)) = 16 + 16 * (ns : Int) := wrap_i64_of (by omega) (by omega)
  have w3 : IntKind.i64.wrap (16 + 16 * (ns : Int) + 8) = (pg : Int) := by rw [wrap_i64_of (by omega) (by omega)]; omega
  obtain ⟨p16, hp16⟩ : ∃ p16, p16 = 16 + pg := ⟨_, rfl⟩
  have w4 : IntKind.i64.wrap (16 + (pg : Int)) = (p16 : Int) := by rw [wrap_i64_of (by omega) (by omega)]; omega
  rw [← hp16]
  obtain ⟨w0, hw0⟩ : ∃ w0, w0 = w.alloc (.cells #[.int .i64 (np : Int), .int .i64 (ns : Int), .int .i64 (lm : Int)] 23) := ⟨_, rfl⟩
  have k0 : Kept [] w w0 := by rw [hw0]; exact (Kept.refl [] w).alloc _
  have bS : Blk w0 w.heap.size 23 [.int .i64 (np : Int), .int .i64 (ns : Int), .int .i64 (lm : Int)] := by rw [hw0]; exact Blk.new w _ _
  have hmk := fun u => run_make_bs (P := Try.prog) u 25 5 Try.underlying25 (by kernel_rfl) pg pg (Nat.le_refl _) (by omega)
  have hmk2 := fun u => run_make_bs (P := Try.prog) u 25 5 Try.underlying25 (by kernel_rfl) p16 p16 (Nat.le_refl _) (by omega)
  obtain ⟨q40, h40⟩ : ∃ q : Nat, q = 40 := ⟨_, rfl⟩
  rw [← h40]
  have hmk3 : ∀ u, (Instr.makeSlice 25 (.int .i64 40) (.int .i64 40)).run Try.prog u = .ok (.slice (some ⟨u.heap.size, 0, none⟩) q40 q40) (u.alloc (.cells (madeCells #[.int .u8 0] q40) 5)) := fun u => by
    rw [h40]
    exact run_make_bs (P := Try.prog) u 25 5 Try.underlying25 (by kernel_rfl) 40 40 (Nat.le_refl _) (by omega)
  have s0 := bS.cell (j := 0) rfl
  have s1 := bS.cell (j := 1) rfl
  have HN : Hid (1 ≤ np ∧ np ≤ 16 ∧ pg ≤ 1000 ∧ p16 ≤ 1000 ∧ Kept [] w w0 ∧ q40 ≤ 1000) := ⟨hnp.1, hnp.2, by omega, by omega, k0, by omega⟩
  have HW0 : Hid (w0 = w.alloc (.cells #[.int .i64 (np : Int), .int .i64 (ns : Int), .int .i64 (lm : Int)] 23)) := hw0
  have hnp63 : (np : Int) < 9223372036854775807 := by omega
  clear hnp hns ebl hpg hpg' hp16 hw0 k0 bS h40
  rw [HW0.out] at s0 s1
  go_enter Try.func29, Try.ntmps29
  go_wp2
  rw [← HW0.out]
  go_loopw [4, 12] (fun v4 i wr => ∃ (k : Nat) (qs : List Value) (vp : Value), k ≤ np ∧ i = .int .i64 k ∧ v4 = vp ∧ Hid (wr.ownsRow w.heap.size 25 1 vp k qs ∧ Fam wr w.heap.size qs (List.replicate k (zer pg)) ∧ Kept [] w wr)) (fun _ i _ => np - (intOf i).toNat)
  case atStart => exact ⟨0, [], _, Nat.zero_le _, rfl, rfl, ⟨World.ownsRow_nil _ _ _ _, Fam.nil _ _, HN.out.2.2.2.2.1⟩⟩
  case round =>
    obtain ⟨k, qs, vp, hk, rfl, rfl, st⟩ := hrel
    obtain ⟨pp, cp, rfl⟩ := own_shape2 st.out.1
    by_cases hlt : k < np
    · have hk' : (k : Int) < (np : Int) := by omega
      have hk0 : (0 : Int) ≤ (k : Int) := by omega
      have kw := st.out.2.2
      have hsz := kw.size
      obtain ⟨w1, hw1⟩ : ∃ w1, w1 = wr.alloc (.cells (madeCells #[.int .u8 0] pg) 5) := ⟨_, rfl⟩
      have k1 : Kept [] wr w1 := by rw [hw1]; exact (Kept.refl [] wr).alloc _
      have o1 : w1.ownsRow wr.heap.size 5 1 (.slice (some ⟨wr.heap.size, 0, none⟩) pg pg) (zer pg).length (u8s (zer pg)) := by rw [hw1]; exact zer_made wr _ pg (Nat.le_refl _) HN.out.2.2.1
      have s1' : w1.heap.size = wr.heap.size + 1 := by rw [hw1, World.size_alloc]
      obtain ⟨w2', hw2⟩ : ∃ w2, w2 = w1.alloc (.cells #[.slice (some ⟨wr.heap.size, 0, none⟩) pg pg] 25) := ⟨_, rfl⟩
      have k2 : Kept [] w1 w2' := by rw [hw2]; exact (Kept.refl [] w1).alloc _
      have hnews : ∀ (j : Nat) u, [Value.slice (some ⟨wr.heap.size, 0, none⟩) pg pg][j]? = some u → w2'.cell? ((⟨wr.heap.size + 1, 0, none⟩ : Addr).add j) = some u := fun j u hj => by
        rw [add_none rfl, hw2, ← s1']
        rcases j with _ | j
        · simp at hj; subst hj
          simp [go_sem]
        · simp at hj
      have r2 := own_of_kept st.out.1 (k1.then k2) (by simp)
      have hs2 := (k1.then k2).size
      have HW1 : Hid (w1 = wr.alloc (.cells (madeCells #[.int .u8 0] pg) 5)) := hw1
      have HW2 : Hid (w2' = w1.alloc (.cells #[.slice (some ⟨wr.heap.size, 0, none⟩) pg pg] 25)) := hw2
      clear hw1 hw2 hmk2 hmk3
      go_wp2_with (at_builtin; rw [← HW1.out, ← HW2.out]; refine wpList_append_own2 rfl (.tmp 14) (.tmp 17) 69 rfl w.heap.size 25 Try.underlying69 (.slice none 0 0) 24 (by kernel_rfl) rfl _ _ _ (by rfl) r2 ⟨wr.heap.size + 1, 0, none⟩ 1 1 [.slice (some ⟨wr.heap.size, 0, none⟩) pg pg] (by rfl) rfl hnews (by simp [Value.oneCell']) (by have := HN.out.2.1; unfold maxLen; omega) (by have := HN.out.2.1; omega) (by omega) ?_; intro v5 w5 o5 g5 at5; obtain ⟨p5, c5, rfl⟩ := own_shape2 o5)
      have k5 : Kept (Value.slice pp k cp).ownBlock.toList wr w5 := ((k1.then k2).mono (by simp)).trans (Kept.ofGrown (S := (Value.slice pp k cp).ownBlock.toList) g5 (by intro k e _; simp [e])) (fun x hx => .inl hx)
      have vn : ∀ y ∈ (Value.slice pp k cp).ownBlock.toList, Not8 wr y ∧ w.heap.size ≤ y ∧ y < wr.heap.size := fun y hy => ⟨own_not8 st.out.1 (by decide) y (by simpa using hy), own_ge st.out.1 y (by simpa using hy), own_lt st.out.1 y (by simpa using hy)⟩
      have o15 : w5.ownsRow wr.heap.size 5 1 (.slice (some ⟨wr.heap.size, 0, none⟩) pg pg) (zer pg).length (u8s (zer pg)) := own_of_kept (own_of_kept o1 k2 (by simp)) (Kept.ofGrown (S := (Value.slice pp k cp).ownBlock.toList) g5 (by intro k e _; simp [e])) (fun x hx hm => by have := (vn x hm).2.2; have := own_ge o1 x hx; omega)
      have f5 := Fam.snoc st.out.2.1 hsz k5 (fun x hx => .inl (vn x hx).1) o15
      rw [← List.replicate_succ'] at f5
      have kk5 := kw.trans k5 (fun x hx => .inr (vn x hx).2.1)
      go_roundw
      case rel => exact ⟨k + 1, qs ++ [.slice (some ⟨wr.heap.size, 0, none⟩) pg pg], _, by omega, by go_num, rfl, ⟨o5, f5, kk5⟩⟩
      case measure => simp [intOf]; omega
    · obtain rfl : k = np := by omega
      have kw := st.out.2.2
      have hsz := kw.size
      clear hmk
      have hp := HN.out.2.2.2.1
      have hq := HN.out.2.2.2.2.2
      have A := three_rows wr p16 q40 q40 hp hq hq
      have B := three_rows wr q40 p16 q40 hq hp hq
      have C := three_rows wr q40 q40 p16 hq hq hp
      have nb : ∀ (a b n m : Nat), a ≠ b → ∀ x, (Value.slice (some ⟨a, 0, none⟩) n n).ownBlock = some x → (Value.slice (some ⟨b, 0, none⟩) m m).ownBlock ≠ some x := fun a b n m hab x hx hy => by
        simp [Value.ownBlock] at hx hy
        omega
      have B1 : Hid (Bl w wr _ (.slice pp k cp) k qs (List.replicate k (zer pg)) _ _ _ (zer p16) (zer q40) (zer q40)) := Bl.make kw st.out.1 st.out.2.1 A.2.2.2.1 A.2.2.2.2 A.1 A.2.1 A.2.2.1 (nb _ _ _ _ (by omega)) (nb _ _ _ _ (by omega)) (nb _ _ _ _ (by omega))
      have B2 : Hid (Bl w wr _ (.slice pp k cp) k qs (List.replicate k (zer pg)) _ _ _ (zer p16) (zer q40) (zer q40)) := Bl.make kw st.out.1 st.out.2.1 A.2.2.2.1 A.2.2.2.2 A.1 A.2.2.1 A.2.1 (nb _ _ _ _ (by omega)) (nb _ _ _ _ (by omega)) (nb _ _ _ _ (by omega))
      have B3 : Hid (Bl w wr _ (.slice pp k cp) k qs (List.replicate k (zer pg)) _ _ _ (zer p16) (zer q40) (zer q40)) := Bl.make kw st.out.1 st.out.2.1 B.2.2.2.1 B.2.2.2.2 B.2.1 B.1 B.2.2.1 (nb _ _ _ _ (by omega)) (nb _ _ _ _ (by omega)) (nb _ _ _ _ (by omega))
      have B4 : Hid (Bl w wr _ (.slice pp k cp) k qs (List.replicate k (zer pg)) _ _ _ (zer p16) (zer q40) (zer q40)) := Bl.make kw st.out.1 st.out.2.1 B.2.2.2.1 B.2.2.2.2 B.2.1 B.2.2.1 B.1 (nb _ _ _ _ (by omega)) (nb _ _ _ _ (by omega)) (nb _ _ _ _ (by omega))
      have B5 : Hid (Bl w wr _ (.slice pp k cp) k qs (List.replicate k (zer pg)) _ _ _ (zer p16) (zer q40) (zer q40)) := Bl.make kw st.out.1 st.out.2.1 C.2.2.2.1 C.2.2.2.2 C.2.2.1 C.1 C.2.1 (nb _ _ _ _ (by omega)) (nb _ _ _ _ (by omega)) (nb _ _ _ _ (by omega))
      have B6 : Hid (Bl w wr _ (.slice pp k cp) k qs (List.replicate k (zer pg)) _ _ _ (zer p16) (zer q40) (zer q40)) := Bl.make kw st.out.1 st.out.2.1 C.2.2.2.1 C.2.2.2.2 C.2.2.1 C.2.1 C.1 (nb _ _ _ _ (by omega)) (nb _ _ _ _ (by omega)) (nb _ _ _ _ (by omega))
      clear A B C nb hp hq
      unfold AL at B1 B2 B3 B4 B5 B6
      go_upto_region 7 with fail
      go_region_held3 (fun _ => True) (trivial)
        (first
          | (refine step_append_own2 (by rfl) (.tmp 20) (.tmp 26) 69 (by rfl) w.heap.size 25 Try.underlying69 (.slice none 0 0) 24 (by kernel_rfl) rfl (.slice pp k cp) k qs (by rfl) B1.out.own ⟨wr.heap.size + 1 + 1 + 1, 0, none⟩ 3 3 _ (by rfl) rfl B1.out.news B1.out.one (by have := HN.out.2.1; unfold maxLen; omega) (by have := HN.out.2.1; omega) B1.out.size ?_; intro v5 w5 o5 g5 at5; have FIN := hideH (B1.out.fin v5 w5 o5 g5))
          | (refine step_append_own2 (by rfl) (.tmp 20) (.tmp 26) 69 (by rfl) w.heap.size 25 Try.underlying69 (.slice none 0 0) 24 (by kernel_rfl) rfl (.slice pp k cp) k qs (by rfl) B2.out.own ⟨wr.heap.size + 1 + 1 + 1, 0, none⟩ 3 3 _ (by rfl) rfl B2.out.news B2.out.one (by have := HN.out.2.1; unfold maxLen; omega) (by have := HN.out.2.1; omega) B2.out.size ?_; intro v5 w5 o5 g5 at5; have FIN := hideH (B2.out.fin v5 w5 o5 g5))
          | (refine step_append_own2 (by rfl) (.tmp 20) (.tmp 26) 69 (by rfl) w.heap.size 25 Try.underlying69 (.slice none 0 0) 24 (by kernel_rfl) rfl (.slice pp k cp) k qs (by rfl) B3.out.own ⟨wr.heap.size + 1 + 1 + 1, 0, none⟩ 3 3 _ (by rfl) rfl B3.out.news B3.out.one (by have := HN.out.2.1; unfold maxLen; omega) (by have := HN.out.2.1; omega) B3.out.size ?_; intro v5 w5 o5 g5 at5; have FIN := hideH (B3.out.fin v5 w5 o5 g5))
          | (refine step_append_own2 (by rfl) (.tmp 20) (.tmp 26) 69 (by rfl) w.heap.size 25 Try.underlying69 (.slice none 0 0) 24 (by kernel_rfl) rfl (.slice pp k cp) k qs (by rfl) B4.out.own ⟨wr.heap.size + 1 + 1 + 1, 0, none⟩ 3 3 _ (by rfl) rfl B4.out.news B4.out.one (by have := HN.out.2.1; unfold maxLen; omega) (by have := HN.out.2.1; omega) B4.out.size ?_; intro v5 w5 o5 g5 at5; have FIN := hideH (B4.out.fin v5 w5 o5 g5))
          | (refine step_append_own2 (by rfl) (.tmp 20) (.tmp 26) 69 (by rfl) w.heap.size 25 Try.underlying69 (.slice none 0 0) 24 (by kernel_rfl) rfl (.slice pp k cp) k qs (by rfl) B5.out.own ⟨wr.heap.size + 1 + 1 + 1, 0, none⟩ 3 3 _ (by rfl) rfl B5.out.news B5.out.one (by have := HN.out.2.1; unfold maxLen; omega) (by have := HN.out.2.1; omega) B5.out.size ?_; intro v5 w5 o5 g5 at5; have FIN := hideH (B5.out.fin v5 w5 o5 g5))
          | (refine step_append_own2 (by rfl) (.tmp 20) (.tmp 26) 69 (by rfl) w.heap.size 25 Try.underlying69 (.slice none 0 0) 24 (by kernel_rfl) rfl (.slice pp k cp) k qs (by rfl) B6.out.own ⟨wr.heap.size + 1 + 1 + 1, 0, none⟩ 3 3 _ (by rfl) rfl B6.out.news B6.out.one (by have := HN.out.2.1; unfold maxLen; omega) (by have := HN.out.2.1; omega) B6.out.size ?_; intro v5 w5 o5 g5 at5; have FIN := hideH (B6.out.fin v5 w5 o5 g5))
          | fail)
      all_goals
        clear o5 g5 at5 B1 B2 B3 B4 B5 B6 hmk2 hmk3 st
        go_wp2
        go_ret
        exact ⟨_, _, rfl, FIN.out.1, FIN.out.2⟩
end Go.Proofs.Ytmipmiaflompmab

/-
  OWN WORK. The program's disk: an image's places; places of the same lengths.
-/
namespace Go.Proofs.Ytmipmiaflompmab
open Go.RowKit
set_option linter.unusedVariables false

theorem run_append_none3 {P : Program} {w : World} (base : Nat) (t t2 ty e e2 : TypeId) (i : TypeInfo) (size : Nat) (ht : P.underlying t = some (.slice e)) (ht2 : P.underlying t2 = some (.slice e2)) (hi : P.info? e = some i)
    (v : Value) (n c : Nat) (xs : List Value) (hown : w.ownsRow base e size v n xs) :
    (Builtin.append_ #[t, t2] ty #[v, .slice none 0 c]).run P w = .ok v w := by
  rcases hown.2 with ⟨rfl, rfl⟩ | ⟨g, cap, cur, rfl, _, _, hnc, _⟩
  · simp [Builtin.append_, run_underlying ht, run_underlying ht2, sizeOf, typeInfo, hi, Builtin.lenOf, Builtin.firstCells]
  · simp [Builtin.append_, run_underlying ht, run_underlying ht2, sizeOf, typeInfo, hi, Builtin.lenOf, Builtin.firstCells, hnc, storeCells]
theorem wpList_append_none3 {P : Program} {w : World} {ops : Array Oper} {rest : List Oper} {o : Oper} {a : Act} {Q : Exit → Act → World → Prop} (hgd : o.guard = none) (s x : Operand) (t t2 e2 : TypeId)
    (ho : o.op = .call { callee := .builtin .append, args := #[s, x], argTypes := #[t, t2] })
    (base : Nat) (e : TypeId) (size : Nat) (ht : P.underlying t = some (.slice e)) (ht2 : P.underlying t2 = some (.slice e2)) (hi : (P.info? e).isSome = true)
    (v : Value) (n c : Nat) (xs : List Value) (hs : a.eval s = v) (hown : w.ownsRow base e size v n xs) (hx : a.eval x = .slice none 0 c)
    (h : wpList P ops Q rest (a.put o.dst v) w) : wpList P ops Q (o :: rest) a w := by
  refine wpList_plain hgd fun K hK => ?_
  obtain ⟨i, hi⟩ := Option.isSome_iff_exists.1 hi
  have hrun := run_append_none3 (P := P) (w := w) base t t2 o.type e e2 i size ht ht2 hi v n c xs hown
  unfold Oper.wp
  simp [execOp, ho, resolve, invoke, builtin, hs, hx, hrun, Result.andThen]
  exact hK _ _ h
/-- append of a slice that may be nil -/
theorem wpList_append_src3 {P : Program} {w : World} {ops : Array Oper} {rest : List Oper} {o : Oper} {a : Act} {Q : Exit → Act → World → Prop} (hgd : o.guard = none) (s x : Operand) (t t2 e2 : TypeId)
    (ho : o.op = .call { callee := .builtin .append, args := #[s, x], argTypes := #[t, t2] }) (base : Nat) (e : TypeId) (hu : P.underlying t = some (.slice e)) (hu2 : P.underlying t2 = some (.slice e2)) (z : Value) (bytes : Nat)
    (hinf : (P.info? e).map (fun i => (i.zero, i.size, i.bytes)) = some (some z, 1, bytes)) (hzs : z.cells.size = 1)
    (v : Value) (n : Nat) (xs : List Value) (hs : a.eval s = v) (hown : w.ownsRow base e 1 v n xs) (ad : Option Addr) (m c : Nat) (news : List Value) (hx : a.eval x = .slice ad m c) (hl : news.length = m) (hnil : ad = none → m = 0)
    (hnews : ∀ b, ad = some b → ∀ (j : Nat) u, news[j]? = some u → w.cell? (b.add j) = some u) (h1 : ∀ u ∈ news, u.oneCell' = true) (h63 : n + m ≤ maxLen) (hbytes : (n + m) * bytes ≤ 140737488355328) (hbase : base ≤ w.heap.size)
    (h : ∀ v' w', w'.ownsRow base e 1 v' (n + m) (xs ++ news) → w.grownBy w' v.ownBlock → (v'.ownBlock = v.ownBlock ∨ (v'.ownBlock = some w.heap.size ∧ w.grownBy w' none)) → wpList P ops Q rest (a.put o.dst v') w') :
    wpList P ops Q (o :: rest) a w := by
  cases ad with
  | some b => exact wpList_append_own3 hgd s x t t2 e2 ho base e hu hu2 z bytes hinf hzs v n xs hs hown b m c news hx hl (hnews b rfl) h1 h63 hbytes hbase h
  | none =>
    have hm := hnil rfl
    subst hm
    have hz : news = [] := List.length_eq_zero_iff.1 hl
    subst hz
    refine wpList_append_none3 hgd s x t t2 e2 ho base e 1 hu hu2 (by cases hi : P.info? e; rw [hi] at hinf; simp at hinf; rfl) v n c xs hs hown hx ?_
    exact h v w (by simpa using hown) (World.grownBy.refl _ _) (.inl rfl)
theorem Bs.oneCell {w : World} {v : Value} {l : List UInt8} (h : Bs w v l) : v.oneCell' = true := by
  obtain ⟨p, c, rfl, -⟩ := h
  rfl
theorem news1 (w : World) (t : TypeId) (v : Value) (h : v.oneCell' = true) : ∀ (j : Nat) u, [v][j]? = some u → (w.alloc (.cells #[v] t)).cell? ((⟨w.heap.size, 0, none⟩ : Addr).add j) = some u := fun j u hj => by
  rw [add_none rfl]
  rcases j with _ | j
  · simp at hj; subst hj
    simp [go_sem]
  · simp at hj
theorem news2 {w : World} {b o : Nat} {x y : Value} (h1 : w.cell? ⟨b, o, none⟩ = some x) (h2 : w.cell? ⟨b, o + 1, none⟩ = some y) : ∀ (j : Nat) u, [x, y][j]? = some u → w.cell? ((⟨b, o, none⟩ : Addr).add j) = some u := fun j u hj => by
  rw [add_none rfl]
  rcases j with _ | _ | j
  · simp at hj; subst hj; exact h1
  · simp at hj; subst hj; exact h2
  · simp at hj
set_option maxHeartbeats 3200000 in
theorem placesOf_any (V : IV) (m : IM) (w : World) (hV : SeeIm w V m) (hcap : (V.pv.length + 3) * 24 ≤ 140737488355328) :
    Calls Try.prog 27 #[V.agg] w fun e w' => ∃ v, e = .returned v ∧ w'.ownsRow w.heap.size 25 1 v (V.pv.length + 3) (V.pv ++ [V.pair, V.m0, V.m1]) ∧ Kept [] w w' := by
  obtain ⟨pp, cp, ep, hp1, hp2, hp3, hp4⟩ := id hV.vp
  obtain ⟨u1, v1, e1, -⟩ := id hV.pair
  obtain ⟨u2, v2, e2, -⟩ := id hV.log
  obtain ⟨u3, v3, e3, -⟩ := id hV.m0
  obtain ⟨u4, v4, e4, -⟩ := id hV.m1
  have hone : ∀ u ∈ V.pv, u.oneCell' = true := fun u hu => by
    obtain ⟨i, hi⟩ := List.getElem?_of_mem hu
    have hl : i < m.ps.length := by rw [← hV.len]; exact (List.getElem?_eq_some_iff.1 hi).1
    exact (hV.ps i u _ hi (List.getElem?_eq_getElem hl)).oneCell
  obtain ⟨vp, pv, pair, log, m0, m1⟩ := V
  simp only at ep e1 e2 e3 e4 hp1 hp2 hp3 hp4 hone hcap
  subst ep e1 e2 e3 e4
  unfold IV.agg
  dsimp only
  generalize m.pair.length = lp at *
  generalize m.log.length = lg at *
  generalize m.m0.length = la at *
  generalize m.m1.length = lb at *
  obtain ⟨w0, hw0⟩ : ∃ w0, w0 = w.alloc (.cells #[.slice pp pv.length cp, .slice u1 lp v1, .slice u2 lg v2, .slice u3 la v3, .slice u4 lb v4] 28) := ⟨_, rfl⟩
  have k0 : Kept [] w w0 := by rw [hw0]; exact (Kept.refl [] w).alloc _
  have s0 : w0.heap.size = w.heap.size + 1 := by rw [hw0]; simp
  have bI : Blk w0 w.heap.size 28 [.slice pp pv.length cp, .slice u1 lp v1, .slice u2 lg v2, .slice u3 la v3, .slice u4 lb v4] := by rw [hw0]; exact Blk.new w _ _
  have q0 := bI.cell (j := 0) rfl
  have HW0 : Hid (w0 = w.alloc (.cells #[.slice pp pv.length cp, .slice u1 lp v1, .slice u2 lg v2, .slice u3 la v3, .slice u4 lb v4] 28)) := hw0
  have HC : Hid ((pv.length + 3) * 24 ≤ 140737488355328) := hcap
  have HB : Hid (Blk w0 w.heap.size 28 [.slice pp pv.length cp, .slice u1 lp v1, .slice u2 lg v2, .slice u3 la v3, .slice u4 lb v4] ∧ w0.heap.size = w.heap.size + 1 ∧ Kept [] w w0) := ⟨bI, s0, k0⟩
  have hnews : ∀ a, pp = some a → ∀ (j : Nat) u, pv[j]? = some u → w0.cell? (a.add j) = some u := fun a ha j u hj => k0.cell (hp3 a ha j u hj) (by simp)
  rw [hw0] at q0
  clear hV hp1 hp2 hp3 hcap hw0 bI s0 k0
  go_enter Try.func27, Try.ntmps27
  go_wp2_with (first
    | (at_builtin
       rw [← HW0.out]
       refine wpList_append_src3 rfl (.tmp 4) (.tmp 6) 69 24 25 rfl w0.heap.size 25 Try.underlying69 Try.underlying24 (.slice none 0 0) 24 (by kernel_rfl) rfl (.slice none 0 0) 0 [] (by rfl) (World.ownsRow_nil _ _ _ _) pp pv.length cp pv (by rfl) rfl hp4 hnews hone (by have := HC.out; unfold maxLen; omega) (by have := HC.out; omega) (Nat.le_refl _) ?_
       intro v3' w3 o3 g3 at3
       rw [Nat.zero_add, List.nil_append] at o3
       obtain ⟨p3, c3, rfl⟩ := own_shape2 o3
       have k3 : Kept [] w0 w3 := (Kept.refl [] w0).grown g3 (fun k hk => by simp [Value.ownBlock] at hk)
       have q1 := (HB.out.1.kept k3 (by simp)).cell (j := 1) rfl
       have kb := (Kept.refl [] w3).alloc (.cells #[.slice u1 lp v1] 25)
       have hn1 := news1 w3 25 (.slice u1 lp v1) rfl
       have o3b := own_of_kept o3 kb (by simp))
    | (at_builtin
       refine wpList_append_own2 rfl (.tmp 8) (.tmp 11) 69 rfl w0.heap.size 25 Try.underlying69 (.slice none 0 0) 24 (by kernel_rfl) rfl (.slice p3 pv.length c3) pv.length pv (by rfl) o3b ⟨w3.heap.size, 0, none⟩ 1 1 [.slice u1 lp v1] (by rfl) rfl hn1 (by simp [Value.oneCell']) (by have := HC.out; unfold maxLen; omega) (by have := HC.out; omega) (by have := k3.size; simp; omega) ?_
       intro v5 w5 o5 g5 at5
       obtain ⟨p5, c5, rfl⟩ := own_shape2 o5
       have k5 : Kept [] w0 w5 := (k3.then kb).grown g5 (fun k hk => .inr (own_ge o3b k hk))
       have bI5 := HB.out.1.kept k5 (by simp)
       have hn2 := news2 (bI5.cell (j := 3) rfl) (bI5.cell (j := 4) rfl))
    | (at_builtin
       refine wpList_append_own3 rfl (.tmp 13) (.tmp 15) 69 24 25 rfl w0.heap.size 25 Try.underlying69 Try.underlying24 (.slice none 0 0) 24 (by kernel_rfl) rfl (.slice p5 (pv.length + 1) c5) (pv.length + 1) (pv ++ [.slice u1 lp v1]) (by rfl) o5 ⟨w.heap.size, 3, none⟩ 2 2 [.slice u3 la v3, .slice u4 lb v4] (by rfl) rfl hn2 (by simp [Value.oneCell']) (by have := HC.out; unfold maxLen; omega) (by have := HC.out; omega) k5.size ?_
       intro v7 w7 o7 g7 at7
       obtain ⟨p7, c7, rfl⟩ := own_shape2 o7
       have k7 : Kept [] w0 w7 := k5.grown g7 (fun k hk => .inr (own_ge o5 k hk)))
    | fail)
  go_ret
  exact ⟨_, rfl, own_mono (by simpa using o7) (by have := HB.out.2.1; omega), HB.out.2.2.then k7⟩
/-- the lengths of rows -/
def Lens (pv : List Value) (ms : List Nat) : Prop := pv.length = ms.length ∧ ∀ (i : Nat) u n, pv[i]? = some u → ms[i]? = some n → ∃ p c, u = .slice p n c
set_option maxHeartbeats 1600000 in
theorem eqFunc_any (v1 v2 : Value) (b1 b2 n1 n2 : Nat) (p1 p2 : List Value) (m1 m2 : List Nat) (w : World) (h1 : w.ownsRow b1 25 1 v1 n1 p1) (h2 : w.ownsRow b2 25 1 v2 n2 p2) (l1 : Lens p1 m1) (l2 : Lens p2 m2) (hn1 : 0 < n1) (hn2 : 0 < n2) :
    Calls Try.prog 28 #[v1, v2, .func (.func 30) #[] #[]] w fun e w' => e = .returned (.bool (decide (m1 = m2))) ∧ Kept [] w w' := by
  have e1 : m1.length = n1 := by have := h1.1; have := l1.1; omega
  have e2 : m2.length = n2 := by have := h2.1; have := l2.1; omega
  obtain ⟨g1, c1, rfl, -, hc1⟩ := own_at8 h1 hn1
  obtain ⟨g2, c2, rfl, -, hc2⟩ := own_at8 h2 hn2
  have hN : n1 ≤ maxLen := by
    rcases h1.2 with ⟨-, e0⟩ | ⟨g9, cap9, cur9, -, -, -, h3, h4, -⟩ <;> omega
  by_cases hn : n1 = n2
  · subst hn
    obtain ⟨z, hz⟩ : ∃ z, z = decide (m1 = m2) := ⟨_, rfl⟩
    rw [← hz]
    have HZ : Hid (z = decide (m1 = m2)) := hz
    have hl63 : (n1 : Int) ≤ 9223372036854775807 := by unfold maxLen at hN; omega
    have HH : Hid (w.ownsRow b1 25 1 (.slice (some ⟨g1, 0, none⟩) n1 c1) n1 p1 ∧ w.ownsRow b2 25 1 (.slice (some ⟨g2, 0, none⟩) n1 c2) n1 p2 ∧ Lens p1 m1 ∧ Lens p2 m2 ∧ m1.length = n1 ∧ m2.length = n1) := ⟨h1, h2, l1, l2, e1, e2⟩
    clear hz h1 h2 l1 l2 e1 e2 hc1 hc2 hN hn1 hn2
    go_enter Try.func28, Try.ntmps28
    go_wp2
    go_loopw [17] (fun i wr => ∃ k : Nat, k ≤ n1 ∧ i = .int .i64 k ∧ Hid (Kept [] w wr ∧ ∀ j, j < k → m1[j]? = m2[j]?)) (fun i _ => n1 - (intOf i).toNat)
    case atStart => exact ⟨0, Nat.zero_le _, rfl, Kept.refl _ _, fun j hj => by omega⟩
    case round =>
      obtain ⟨k, hk, rfl, st⟩ := hrel
      by_cases hlt : k < n1
      · have hk' : (k : Int) < (n1 : Int) := by omega
        have hk0 : (0 : Int) ≤ (k : Int) := by omega
        have wk : IntKind.i64.wrap ((k : Int) + 1) = (k : Int) + 1 := wrap_i64_of (by omega) (by omega)
        obtain ⟨H1, H2, L1, L2, E1, E2⟩ := HH.out
        obtain ⟨x1, hx1⟩ : ∃ x, p1[k]? = some x := ⟨_, List.getElem?_eq_getElem (by have := H1.1; omega)⟩
        obtain ⟨x2, hx2⟩ : ∃ x, p2[k]? = some x := ⟨_, List.getElem?_eq_getElem (by have := H2.1; omega)⟩
        obtain ⟨y1, hy1⟩ : ∃ x, m1[k]? = some x := ⟨_, List.getElem?_eq_getElem (by omega)⟩
        obtain ⟨y2, hy2⟩ : ∃ x, m2[k]? = some x := ⟨_, List.getElem?_eq_getElem (by omega)⟩
        obtain ⟨a1, d1, rfl⟩ := L1.2 k x1 y1 hx1 hy1
        obtain ⟨a2, d2, rfl⟩ := L2.2 k x2 y2 hx2 hy2
        have t1 := st.out.1.cell (own_cell H1 hx1).1 (by simp)
        have t2 := st.out.1.cell (own_cell H2 hx2).1 (by simp)
        have hs := fun W => sameLen_any (.slice a1 y1 d1) (.slice a2 y2 d2) y1 y2 W ⟨_, _, rfl⟩ ⟨_, _, rfl⟩
        have HY : Hid (m1[k]? = some y1 ∧ m2[k]? = some y2) := ⟨hy1, hy2⟩
        clear H1 H2 L1 L2 E1 E2 hx1 hx2 hy1 hy2
        by_cases hy : y1 = y2
        · subst hy
          rw [decide_eq_true rfl] at hs
          go_wp2_with fail
          refine (hs _).mono ?_
          rintro e w3 ⟨rfl, rfl⟩
          clear hs t1 t2
          go_wp2
          go_roundw
          case rel => exact ⟨k + 1, by omega, by go_num, st.out.1, fun j hj => by
            rcases Nat.lt_or_ge j k with c | c
            · exact st.out.2 j c
            · obtain rfl : j = k := by omega
              rw [HY.out.1, HY.out.2]⟩
          case measure => simp [intOf]; omega
        · rw [decide_eq_false hy] at hs
          have hzf : z = false := by
            rw [HZ.out]
            refine decide_eq_false fun e => hy ?_
            have h9 := HY.out
            rw [e, h9.2] at h9
            exact (Option.some.inj h9.1).symm
          subst hzf
          go_wp2_with fail
          refine (hs _).mono ?_
          rintro e w3 ⟨rfl, rfl⟩
          clear hs t1 t2
          go_wp2
          go_ret
          exact ⟨rfl, st.out.1⟩
      · obtain rfl : k = n1 := by omega
        have hk' : ¬ (k : Int) < (k : Int) := by omega
        have hzt : z = true := by
          rw [HZ.out]
          refine decide_eq_true (List.ext_getElem? fun j => ?_)
          rcases Nat.lt_or_ge j k with c | c
          · exact st.out.2 j c
          · rw [List.getElem?_eq_none (by have := HH.out.2.2.2.2.1; omega), List.getElem?_eq_none (by have := HH.out.2.2.2.2.2; omega)]
        subst hzt
        go_wp2
        go_ret
        exact ⟨rfl, st.out.1⟩
  · rw [decide_eq_false (fun e => hn (by rw [← e1, ← e2, e]))]
    have hn' : ¬ (n1 : Int) = (n2 : Int) := by omega
    clear h1 h2 l1 l2 e1 e2 hc1 hc2 hN hn1 hn2
    go_enter Try.func28, Try.ntmps28
    go_wp2
    go_ret
    exact ⟨rfl, Kept.refl _ _⟩
/-- the lengths that a shape asks of an image's places -/
theorem imOk_lens (np ns lm : Nat) (m : IM) : imOk np ns lm m = (decide (m.ps.map List.length ++ [m.pair.length, m.m0.length, m.m1.length] = List.replicate np (pgB ns) ++ [16 + pgB ns, 40, 40]) && decide (m.log.length ≤ lm)) := by
  have key : (m.ps.map List.length ++ [m.pair.length, m.m0.length, m.m1.length] = List.replicate np (pgB ns) ++ [16 + pgB ns, 40, 40]) ↔ (m.ps.length = np ∧ m.pair.length = 16 + pgB ns ∧ m.m0.length = 40 ∧ m.m1.length = 40 ∧ ∀ p ∈ m.ps, p.length = pgB ns) := by
    constructor
    · intro h
      have hl := congrArg List.length h
      simp at hl
      obtain ⟨h1, h2⟩ := List.append_inj h (by simpa using hl)
      simp at h2
      refine ⟨hl, h2.1, h2.2.1, h2.2.2, fun p hp => ?_⟩
      have : p.length ∈ m.ps.map List.length := List.mem_map.2 ⟨p, hp, rfl⟩
      rw [h1] at this
      exact (List.mem_replicate.1 this).2
    · rintro ⟨h1, h2, h3, h4, h5⟩
      have e : m.ps.map List.length = List.replicate np (pgB ns) := List.eq_replicate_iff.2 ⟨by simpa using h1, fun b hb => by obtain ⟨p, hp, rfl⟩ := List.mem_map.1 hb; exact h5 p hp⟩
      rw [e, h2, h3, h4]
  unfold imOk
  rw [Bool.eq_iff_iff]
  simp only [Bool.and_eq_true, decide_eq_true_eq, List.all_eq_true, key]
  constructor
  · rintro ⟨⟨⟨⟨⟨h1, h2⟩, h3⟩, h4⟩, h5⟩, h6⟩
    exact ⟨⟨h1, h2, h3, h4, h6⟩, h5⟩
  · rintro ⟨⟨h1, h2, h3, h4, h6⟩, h5⟩
    exact ⟨⟨⟨⟨⟨h1, h2⟩, h3⟩, h4⟩, h5⟩, h6⟩
end Go.Proofs.Ytmipmiaflompmab

/-
  OWN WORK. The law's rows: all lists of an image; families laid one behind the other.
-/
namespace Go.Proofs.Ytmipmiaflompmab
open Go.RowKit
set_option linter.unusedVariables false

set_option maxHeartbeats 3200000 in
theorem rows_any (V : IV) (m : IM) (w : World) (hV : SeeIm w V m) (hcap : (V.pv.length + 4) * 24 ≤ 140737488355328) :
    Calls Try.prog 36 #[V.agg] w fun e w' => ∃ v, e = .returned v ∧ w'.ownsRow w.heap.size 25 1 v (V.pv.length + 4) (V.pv ++ [V.pair, V.log, V.m0, V.m1]) ∧ Kept [] w w' := by
  obtain ⟨pp, cp, ep, hp1, hp2, hp3, hp4⟩ := id hV.vp
  obtain ⟨u1, v1, e1, -⟩ := id hV.pair
  obtain ⟨u2, v2, e2, -⟩ := id hV.log
  obtain ⟨u3, v3, e3, -⟩ := id hV.m0
  obtain ⟨u4, v4, e4, -⟩ := id hV.m1
  have hone : ∀ u ∈ V.pv, u.oneCell' = true := fun u hu => by
    obtain ⟨i, hi⟩ := List.getElem?_of_mem hu
    have hl : i < m.ps.length := by rw [← hV.len]; exact (List.getElem?_eq_some_iff.1 hi).1
    exact (hV.ps i u _ hi (List.getElem?_eq_getElem hl)).oneCell
  obtain ⟨vp, pv, pair, log, m0, m1⟩ := V
  simp only at ep e1 e2 e3 e4 hp1 hp2 hp3 hp4 hone hcap
  subst ep e1 e2 e3 e4
  unfold IV.agg
  dsimp only
  generalize m.pair.length = lp at *
  generalize m.log.length = lg at *
  generalize m.m0.length = la at *
  generalize m.m1.length = lb at *
  obtain ⟨w0, hw0⟩ : ∃ w0, w0 = w.alloc (.cells #[.slice pp pv.length cp, .slice u1 lp v1, .slice u2 lg v2, .slice u3 la v3, .slice u4 lb v4] 28) := ⟨_, rfl⟩
  have k0 : Kept [] w w0 := by rw [hw0]; exact (Kept.refl [] w).alloc _
  have s0 : w0.heap.size = w.heap.size + 1 := by rw [hw0]; simp
  have bI : Blk w0 w.heap.size 28 [.slice pp pv.length cp, .slice u1 lp v1, .slice u2 lg v2, .slice u3 la v3, .slice u4 lb v4] := by rw [hw0]; exact Blk.new w _ _
  have q0 := bI.cell (j := 0) rfl
  have HW0 : Hid (w0 = w.alloc (.cells #[.slice pp pv.length cp, .slice u1 lp v1, .slice u2 lg v2, .slice u3 la v3, .slice u4 lb v4] 28)) := hw0
  have HC : Hid ((pv.length + 4) * 24 ≤ 140737488355328) := hcap
  have HB : Hid (Blk w0 w.heap.size 28 [.slice pp pv.length cp, .slice u1 lp v1, .slice u2 lg v2, .slice u3 la v3, .slice u4 lb v4] ∧ w0.heap.size = w.heap.size + 1 ∧ Kept [] w w0) := ⟨bI, s0, k0⟩
  have hnews : ∀ a, pp = some a → ∀ (j : Nat) u, pv[j]? = some u → w0.cell? (a.add j) = some u := fun a ha j u hj => k0.cell (hp3 a ha j u hj) (by simp)
  rw [hw0] at q0
  clear hV hp1 hp2 hp3 hcap hw0 bI s0 k0
  go_enter Try.func36, Try.ntmps36
  go_wp2_with (first
    | (at_builtin
       rw [← HW0.out]
       refine wpList_append_src3 rfl (.tmp 4) (.tmp 6) 24 24 25 rfl w0.heap.size 25 Try.underlying24 Try.underlying24 (.slice none 0 0) 24 (by kernel_rfl) rfl (.slice none 0 0) 0 [] (by rfl) (World.ownsRow_nil _ _ _ _) pp pv.length cp pv (by rfl) rfl hp4 hnews hone (by have := HC.out; unfold maxLen; omega) (by have := HC.out; omega) (Nat.le_refl _) ?_
       intro v3' w3 o3 g3 at3
       rw [Nat.zero_add, List.nil_append] at o3
       obtain ⟨p3, c3, rfl⟩ := own_shape2 o3
       have k3 : Kept [] w0 w3 := (Kept.refl [] w0).grown g3 (fun k hk => by simp [Value.ownBlock] at hk)
       have q1 := (HB.out.1.kept k3 (by simp)).cell (j := 1) rfl
       have q2 := (HB.out.1.kept k3 (by simp)).cell (j := 2) rfl
       have q3 := (HB.out.1.kept k3 (by simp)).cell (j := 3) rfl
       have q4 := (HB.out.1.kept k3 (by simp)).cell (j := 4) rfl
       have kb := (Kept.refl [] w3).alloc (.cells #[.slice u1 lp v1, .slice u2 lg v2, .slice u3 la v3, .slice u4 lb v4] 25)
       have hn1 := World.news_of_block (heap_alloc_new w3 (.cells #[.slice u1 lp v1, .slice u2 lg v2, .slice u3 la v3, .slice u4 lb v4] 25))
       have o3b := own_of_kept o3 kb (by simp))
    | (at_builtin
       refine wpList_append_own2 rfl (.tmp 8) (.tmp 19) 24 rfl w0.heap.size 25 Try.underlying24 (.slice none 0 0) 24 (by kernel_rfl) rfl (.slice p3 pv.length c3) pv.length pv (by rfl) o3b ⟨w3.heap.size, 0, none⟩ 4 4 [.slice u1 lp v1, .slice u2 lg v2, .slice u3 la v3, .slice u4 lb v4] (by rfl) rfl hn1 (by simp [Value.oneCell']) (by have := HC.out; unfold maxLen; omega) (by have := HC.out; omega) (by have := k3.size; simp; omega) ?_
       intro v5 w5 o5 g5 at5
       obtain ⟨p5, c5, rfl⟩ := own_shape2 o5
       have k5 : Kept [] w0 w5 := (k3.then kb).grown g5 (fun k hk => .inr (own_ge o3b k hk)))
    | fail)
  go_ret
  exact ⟨_, rfl, own_mono (by simpa using o5) (by have := HB.out.2.1; omega), HB.out.2.2.then k5⟩
/-- a family, and another that was made behind it -/
theorem Fam.app {w w' : World} {base lo : Nat} {vs us : List Value} {ls ms : List (List UInt8)} (h : Fam w base vs ls) (h' : Fam w' lo us ms) (hk : Fam w' base vs ls) (hlo : ∀ x ∈ blocks vs, x < lo) (hb : base ≤ lo) : Fam w' base (vs ++ us) (ls ++ ms) := by
  have hl := h.len
  refine ⟨by simp [h.len, h'.len], fun i v l hv hl' => ?_, fun i j u v x hij hu hv hx => ?_⟩
  · rw [List.getElem?_append] at hv hl'
    by_cases hi : i < vs.length
    · rw [if_pos hi] at hv
      rw [if_pos (by omega)] at hl'
      exact hk.own i v l hv hl'
    · rw [if_neg hi] at hv
      rw [if_neg (by omega), ← hl] at hl'
      exact own_mono (h'.own _ v l hv hl') hb
  · rw [List.getElem?_append] at hu hv
    by_cases hj : j < vs.length
    · rw [if_pos hj] at hv
      rw [if_pos (by omega)] at hu
      exact h.apart i j u v x hij hu hv hx
    · rw [if_neg hj] at hv
      by_cases hi : i < vs.length
      · rw [if_pos hi] at hu
        intro hy
        have h1 := hlo x (mem_blocks hu hx)
        have h2 := (h'.lt _ v x hv hy).1
        omega
      · rw [if_neg hi] at hu
        exact h'.apart _ _ u v x (by omega) hu hv hx
theorem mem_blocks_iff {vs : List Value} {x : Nat} : x ∈ blocks vs ↔ ∃ v ∈ vs, v.ownBlock = some x := by
  unfold blocks
  simp [List.mem_filterMap]
theorem Fam.perm {w : World} {base : Nat} {vs us : List Value} {ls ms : List (List UInt8)} (h : Fam w base vs ls) (f : Nat → Nat) (hf : ∀ i, i < us.length → f i < vs.length) (hinj : ∀ i j, i < us.length → j < us.length → f i = f j → i = j) (hu : ∀ i, i < us.length → us[i]? = vs[f i]?) (hm : ∀ i, i < us.length → ms[i]? = ls[f i]?) (hl : us.length = ms.length) : Fam w base us ms := by
  refine ⟨hl, fun i v l hv hl' => ?_, fun i j u v x hij hu' hv' hx hy => ?_⟩
  · have hi := (List.getElem?_eq_some_iff.1 hv).1
    exact h.own (f i) v l (by rw [← hu i hi]; exact hv) (by rw [← hm i hi]; exact hl')
  · have hi := (List.getElem?_eq_some_iff.1 hu').1
    have hj := (List.getElem?_eq_some_iff.1 hv').1
    have e1 : vs[f i]? = some u := by rw [← hu i hi]; exact hu'
    have e2 : vs[f j]? = some v := by rw [← hu j hj]; exact hv'
    rcases Nat.lt_trichotomy (f i) (f j) with c | c | c
    · exact h.apart _ _ u v x c e1 e2 hx hy
    · have := hinj i j hi hj c; omega
    · exact h.apart _ _ v u x c e2 e1 hy hx
/-- the rows of an image in the order of 'rows' -/
theorem OwnIm.rowsFam {w : World} {b : Nat} {V : IV} {m : IM} (h : OwnIm w b V m) : Fam w b (V.pv ++ [V.pair, V.log, V.m0, V.m1]) (m.ps ++ [m.pair, m.log, m.m0, m.m1]) := by
  have hl := h.len
  have F := h.fam
  unfold IV.rows IM.all at F
  refine F.perm (fun i => if i < V.pv.length then i + 2 else if i = V.pv.length then 1 else if i = V.pv.length + 1 then 0 else i) (fun i hi => ?_) (fun i j hi hj e => ?_) (fun i hi => ?_) (fun i hi => ?_) (by simp [hl])
  · simp at hi ⊢
    split
    · omega
    · split
      · omega
      · split <;> omega
  · simp at hi hj
    split at e <;> split at e <;> (try split at e) <;> (try split at e) <;> (try split at e) <;> (try split at e) <;> omega
  · simp at hi
    by_cases c : i < V.pv.length
    · rw [if_pos c, List.getElem?_append_left c]
      simp [List.getElem?_append_left c]
    · rw [if_neg c, List.getElem?_append_right (by omega)]
      obtain ⟨k, rfl⟩ : ∃ k, i = V.pv.length + k := ⟨i - V.pv.length, by omega⟩
      rcases k with _ | _ | _ | _ | k
      · simp
      · simp
      · rw [if_neg (by omega), if_neg (by omega), show V.pv.length + (0 + 1 + 1) = V.pv.length + 0 + 1 + 1 by omega, List.getElem?_cons_succ, List.getElem?_cons_succ, List.getElem?_append_right (by omega)]
        simp
        rw [show V.pv.length + 1 + 1 - V.pv.length = 2 by omega]
        rfl
      · rw [if_neg (by omega), if_neg (by omega), show V.pv.length + (0 + 1 + 1 + 1) = V.pv.length + 1 + 1 + 1 by omega, List.getElem?_cons_succ, List.getElem?_cons_succ, List.getElem?_append_right (by omega)]
        simp
        rw [show V.pv.length + 1 + 1 + 1 - V.pv.length = 3 by omega]
        rfl
      · omega
  · simp at hi
    by_cases c : i < V.pv.length
    · rw [if_pos c, List.getElem?_append_left (by omega)]
      simp [List.getElem?_append_left (show i < m.ps.length by omega)]
    · rw [if_neg c, List.getElem?_append_right (by omega)]
      obtain ⟨k, rfl⟩ : ∃ k, i = m.ps.length + k := ⟨i - m.ps.length, by omega⟩
      rw [hl]
      rcases k with _ | _ | _ | _ | k
      · simp
      · simp
      · rw [if_neg (by omega), if_neg (by omega), show m.ps.length + (0 + 1 + 1) = m.ps.length + 0 + 1 + 1 by omega, List.getElem?_cons_succ, List.getElem?_cons_succ, List.getElem?_append_right (by omega)]
        simp
        rw [show m.ps.length + 1 + 1 - m.ps.length = 2 by omega]
        rfl
      · rw [if_neg (by omega), if_neg (by omega), show m.ps.length + (0 + 1 + 1 + 1) = m.ps.length + 1 + 1 + 1 by omega, List.getElem?_cons_succ, List.getElem?_cons_succ, List.getElem?_append_right (by omega)]
        simp
        rw [show m.ps.length + 1 + 1 + 1 - m.ps.length = 3 by omega]
        rfl
      · omega
end Go.Proofs.Ytmipmiaflompmab

/-
  OWN WORK. What lengthening a marked row by its mark does: the row stays as it was, its longer self holds the mark all through.
-/
namespace Go.Proofs.Ytmipmiaflompmab
open Go.RowKit
set_option linter.unusedVariables false

theorem mk_small (k : Nat) (h : k < 200) : (k : Int) + 1 = ((mk k).toNat : Int) := by
  unfold mk
  rw [UInt8.toNat_ofNat']
  omega
/-- a beginning of an owned row -/
theorem Bs.prefix {w : World} {base g n d m k : Nat} {v' : Value} (ho : w.ownsRow base 5 1 v' m (u8s (rep m k))) (hg : v'.ownBlock = some g) (h1 : n ≤ d) (h2 : d ≤ maxLen) (hm : n ≤ m) : Bs w (.slice (some ⟨g, 0, none⟩) n d) (rep n k) := by
  have := Bs.mk (w := w) (b := g) (o := 0) (c := d) (l := rep n k) (by rw [rep_length]; exact h1) h2 (fun i x hx => by
    have hi : i < n := by have := (List.getElem?_eq_some_iff.1 hx).1; rwa [rep_length] at this
    rw [rep_get hi] at hx
    simp at hx
    subst hx
    have := ho.cells hg i (.int .u8 ((Go.Proofs.Ytmipmiaflompmab.mk k).toNat : Int)) (by simp only [u8s, List.getElem?_map, rep_get (show i < m by omega)]; rfl)
    rwa [add_none rfl] at this)
  rwa [rep_length] at this
/-- one mark more behind l, a longer self of v -/
theorem mark_step {wr W w' : World} {base n m k lo : Nat} {v l v' : Value} (hv : ∃ p d, v = .slice p n d ∧ (p = none ∧ n = 0 ∨ ∃ g, p = some ⟨g, 0, none⟩ ∧ n ≤ d ∧ d ≤ maxLen))
    (hbs : Bs W v (rep n k)) (hnm : n ≤ m) (hlo : lo ≤ W.heap.size) (hl : l.ownBlock = v.ownBlock ∨ ∃ y, l.ownBlock = some y ∧ lo ≤ y)
    (hvlt : ∀ x, v.ownBlock = some x → x < lo)
    (ho : w'.ownsRow base 5 1 v' (m + 1) (u8s (rep m k ++ [mk k]))) (hg : W.grownBy w' l.ownBlock) (hat : v'.ownBlock = l.ownBlock ∨ (v'.ownBlock = some W.heap.size ∧ W.grownBy w' none)) :
    w'.ownsRow base 5 1 v' (m + 1) (u8s (rep (m + 1) k)) ∧ Bs w' v (rep n k) ∧ (v'.ownBlock = v.ownBlock ∨ ∃ y, v'.ownBlock = some y ∧ lo ≤ y) := by
  rw [rep_snoc] at ho
  refine ⟨ho, ?_, ?_⟩
  · rcases hat with hat | ⟨_, hgn⟩
    · rcases hl with hl | ⟨y, hy, hly⟩
      · obtain ⟨p, d, rfl, hp⟩ := hv
        rcases hp with ⟨rfl, rfl⟩ | ⟨g, rfl, h1, h2⟩
        · exact hbs.carry fun a x hx hb => by simp [Value.ownBlock] at hb
        · exact Bs.prefix ho (by rw [hat, hl]; rfl) h1 h2 (by omega)
      · refine hbs.keptOwn (S := [y]) (Kept.ofGrown hg (by intro x hx _; rw [hy] at hx; simp at hx; simp [hx])) fun x hx hm => ?_
        simp at hm
        subst hm
        have := hvlt x hx
        omega
    · exact hbs.kept (Kept.ofGrown hgn (by simp))
  · rcases hat with hat | ⟨hat, _⟩
    · rw [hat]; exact hl
    · exact .inr ⟨_, hat, hlo⟩

/-- 'long', as far as it has been made -/
structure Lng (M : Nat) (w2 wr : World) (base : Nat) (vs : List Value) (ls : List (List UInt8)) (k : Nat) (us : List Value) (long : Value) : Prop where
  ul : us.length = k
  lo : wr.ownsRow base 25 1 long k us
  lb : ∀ x, long.ownBlock = some x → w2.heap.size ≤ x
  uo : ∀ (j : Nat) u, us[j]? = some u → wr.ownsRow base 5 1 u (nn ls j + M) (u8s (rep (nn ls j + M) j))
  ub : ∀ (j : Nat) u v, us[j]? = some u → vs[j]? = some v → u.ownBlock = v.ownBlock ∨ ∃ y, u.ownBlock = some y ∧ w2.heap.size ≤ y
  vb : ∀ (j : Nat) v, vs[j]? = some v → Bs wr v (rep (nn ls j) j)
  vo : ∀ (j : Nat) v, k ≤ j → vs[j]? = some v → wr.ownsRow base 5 1 v (nn ls j) (u8s (rep (nn ls j) j))
  kp : Kept (blocks vs) w2 wr

theorem Lng.start {w2 : World} {M base N : Nat} {vs : List Value} {ls : List (List UInt8)} (F : Fam w2 base vs (midl ls N)) (hN : ls.length = N) : Lng M w2 w2 base vs ls 0 [] (.slice none 0 0) := by
  have hv : ∀ (j : Nat) v, vs[j]? = some v → w2.ownsRow base 5 1 v (nn ls j) (u8s (rep (nn ls j) j)) := fun j v hv => by
    have hj : j < ls.length := by
      have := (List.getElem?_eq_some_iff.1 hv).1
      rw [F.len, midl_length] at this
      exact this
    have hm := midl_get ls N j hj
    rw [if_pos (by omega)] at hm
    have := F.own j v _ hv hm
    rwa [rep_length] at this
  exact ⟨rfl, World.ownsRow_nil _ _ _ _, by simp [Value.ownBlock], by simp, by simp, fun j v h => Bs.ofOwn (hv j v h), fun j v _ h => hv j v h, Kept.refl _ _⟩

/-- row k has been lengthened (l, in wr), and stands behind 'long' (long', in w') -/
theorem Lng.snoc {w2 w3 wr W w' : World} {M base k : Nat} {vs : List Value} {ls : List (List UInt8)} {us : List Value} {long long' l v : Value} (h : Lng M w2 w3 base vs ls k us long)
    (hap : ∀ (i j : Nat) u v x, i < j → vs[i]? = some u → vs[j]? = some v → u.ownBlock = some x → v.ownBlock ≠ some x) (hvlt : ∀ (j : Nat) v x, vs[j]? = some v → v.ownBlock = some x → x < w2.heap.size)
    (hv : vs[k]? = some v) (kl : Kept v.ownBlock.toList w3 wr) (ol : wr.ownsRow base 5 1 l (nn ls k + M) (u8s (rep (nn ls k + M) k))) (bl : Bs wr v (rep (nn ls k) k)) (lv : l.ownBlock = v.ownBlock ∨ ∃ y, l.ownBlock = some y ∧ w2.heap.size ≤ y)
    (hsz : w2.heap.size ≤ w3.heap.size) (kW : Kept [] wr W) (ho : w'.ownsRow base 25 1 long' (k + 1) (us ++ [l])) (hoW : W.ownsRow base 25 1 long k us) (hg : W.grownBy w' long.ownBlock) (hat : long'.ownBlock = long.ownBlock ∨ (long'.ownBlock = some W.heap.size ∧ W.grownBy w' none)) :
    Lng M w2 w' base vs ls (k + 1) (us ++ [l]) long' := by
  have kL : Kept long.ownBlock.toList W w' := Kept.ofGrown hg (by intro x hx _; simp [hx])
  have hL8 : ∀ x ∈ long.ownBlock.toList, Not8 W x := fun x hx => own_not8 hoW (by decide) x (by simpa using hx)
  -- bytes rows are as they were behind the append to 'long'
  have own2 : ∀ {u : Value} {n : Nat} {xs : List Value}, wr.ownsRow base 5 1 u n xs → w'.ownsRow base 5 1 u n xs := fun ho => by
    have h1 := own_of_kept ho kW (by simp)
    exact own_of_kept h1 kL fun x hx hm => own_is8 h1 x hx (hL8 x hm)
  have bs2 : ∀ {u : Value} {m : List UInt8}, (∃ n xs, wr.ownsRow base 5 1 u n xs) ∨ u = v → Bs wr u m → Bs w' u m := fun hu hb => by
    refine (hb.kept kW).carry fun a x hx hb2 => kL.cell hx fun hm => ?_
    have hn := hL8 _ hm
    simp only [World.cell?] at hx
    have hbl : long.ownBlock = some a.block := by simpa using hm
    rcases hoW.2 with ⟨h0, _⟩ | ⟨gg, cap, cur, hh, _, hheap, _, _, hcs, htk⟩
    · rw [h0] at hbl; simp [Value.ownBlock] at hbl
    · rw [hh] at hbl
      have hga : gg = a.block := by simpa [Value.ownBlock] using hbl
      have hlt := own_lt hoW a.block (by rw [hh]; simpa [Value.ownBlock] using hga)
      rcases hu with ⟨n, xs, hou⟩ | rfl
      · exact own_is8 (own_of_kept hou kW (by simp)) a.block hb2 hn
      · have h1 := hvlt k _ a.block hv hb2
        have h2 := h.lb a.block (by rw [hh]; simpa [Value.ownBlock] using hga)
        omega
  have old : ∀ {u : Value} {n : Nat} {xs : List Value}, w3.ownsRow base 5 1 u n xs → (∀ x, u.ownBlock = some x → v.ownBlock ≠ some x) → wr.ownsRow base 5 1 u n xs := fun ho hne => own_of_kept ho kl fun x hx hm => hne x hx (by simpa using hm)
  refine ⟨by simp [h.ul], ho, ?_, ?_, ?_, ?_, ?_, ?_⟩
  · intro x hx
    rcases hat with hat | ⟨hat, _⟩
    · exact h.lb x (by rw [← hat]; exact hx)
    · rw [hat] at hx
      simp at hx
      have := kl.size
      have := kW.size
      omega
  · intro j u hu
    rw [List.getElem?_append] at hu
    by_cases hj : j < us.length
    · rw [if_pos hj] at hu
      refine own2 (old (h.uo j u hu) fun x hx hvx => ?_)
      have hjl : j < vs.length := by have := (List.getElem?_eq_some_iff.1 hv).1; have := h.ul; omega
      rcases h.ub j u vs[j] hu (List.getElem?_eq_getElem hjl) with e | ⟨y, hy, hly⟩
      · exact hap j k vs[j] v x (by have := h.ul; omega) (List.getElem?_eq_getElem hjl) hv (by rw [← e]; exact hx) hvx
      · rw [hx] at hy
        simp at hy
        have := hvlt k v x hv hvx
        omega
    · rw [if_neg hj] at hu
      rcases hd : j - us.length with _ | d'
      · rw [hd] at hu
        simp at hu
        subst hu
        have : j = k := by have := h.ul; omega
        subst this
        exact own2 ol
      · rw [hd] at hu
        simp at hu
  · intro j u v2 hu hv2
    rw [List.getElem?_append] at hu
    by_cases hj : j < us.length
    · rw [if_pos hj] at hu
      exact h.ub j u v2 hu hv2
    · rw [if_neg hj] at hu
      rcases hd : j - us.length with _ | d'
      · rw [hd] at hu
        simp at hu
        subst hu
        have : j = k := by have := h.ul; omega
        subst this
        rw [hv] at hv2
        simp at hv2
        subst hv2
        exact lv
      · rw [hd] at hu
        simp at hu
  · intro j v2 hv2
    by_cases hjk : j = k
    · subst hjk
      rw [hv] at hv2
      simp at hv2
      subst hv2
      exact bs2 (.inr rfl) bl
    · have hne : ∀ x, v2.ownBlock = some x → v.ownBlock ≠ some x := fun x hx hvx => by
        rcases Nat.lt_or_ge j k with hlt | hge
        · exact hap j k v2 v x hlt hv2 hv hx hvx
        · exact hap k j v v2 x (by omega) hv hv2 hvx hx
      have hb := (h.vb j v2 hv2).keptOwn kl fun x hx hm => hne x hx (by simpa using hm)
      refine (hb.kept kW).carry fun a x hx hb2 => kL.cell hx fun hm => ?_
      have hbl : long.ownBlock = some a.block := by simpa using hm
      have h1 := hvlt j v2 a.block hv2 hb2
      have h2 := h.lb a.block hbl
      omega
  · intro j v2 hkj hv2
    refine own2 (old (h.vo j v2 (by omega) hv2) fun x hx hvx => ?_)
    exact hap k j v v2 x (by omega) hv hv2 hvx hx
  · refine ((h.kp.trans kl ?_).then kW).trans kL ?_
    · intro x hx
      exact .inl (mem_blocks hv (by simpa using hx))
    · intro x hx
      exact .inr (h.lb x (by simpa using hx))
theorem weak_or {a b : Option Nat} {lo lo' : Nat} (h : a = b ∨ ∃ y, a = some y ∧ lo ≤ y) (hl : lo' ≤ lo) : a = b ∨ ∃ y, a = some y ∧ lo' ≤ y := by
  rcases h with e | ⟨y, hy, hly⟩
  · exact .inl e
  · exact .inr ⟨y, hy, Nat.le_trans hl hly⟩
theorem hideLng {M : Nat} {w2 wr : World} {base : Nat} {vs : List Value} {ls : List (List UInt8)} {k : Nat} {us : List Value} {long : Value} (h : Lng M w2 wr base vs ls k us long) : Hid (Lng M w2 wr base vs ls k us long) := h
theorem byte_cell (w : World) (e : TypeId) (z : Int) (y : UInt8) (hz : z = (y.toNat : Int)) : (w.alloc (.cells #[.int .u8 z] e)).cell? ⟨w.heap.size, 0, none⟩ = some (.int .u8 (y.toNat : Int)) := by
  subst hz
  have := World.news_of_block (heap_alloc_new w (.cells #[.int .u8 (y.toNat : Int)] e)) 0 _ rfl
  rwa [add_none rfl] at this
theorem hideAp {vs : List Value} (h : ∀ (i j : Nat) u v x, i < j → vs[i]? = some u → vs[j]? = some v → u.ownBlock = some x → v.ownBlock ≠ some x) : Hid (∀ (i j : Nat) u v x, i < j → vs[i]? = some u → vs[j]? = some v → u.ownBlock = some x → v.ownBlock ≠ some x) := h

end Go.Proofs.Ytmipmiaflompmab

/-
  OWN WORK. DiskKeeps: lent: bytes with 300 marks behind them.
-/
namespace Go.Proofs.Ytmipmiaflompmab
open Go.RowKit
set_option linter.unusedVariables false

def lentT (k : Nat) : List UInt8 := (List.range k).map UInt8.ofNat
theorem lentT_succ (k : Nat) : lentT (k + 1) = lentT k ++ [UInt8.ofNat k] := by simp [lentT, List.range_succ]
theorem lentT_length (k : Nat) : (lentT k).length = k := by simp [lentT]
theorem lent_byte {k : Nat} (h : k < 300) : IntKind.u8.wrap (k : Int) = ((UInt8.ofNat k).toNat : Int) := by
  rw [UInt8.toNat_ofNat']
  unfold IntKind.wrap
  simp [IntKind.signed, IntKind.bits]
set_option maxHeartbeats 3200000 in
theorem lent_any (u : Value) (b : List UInt8) (w : World) (hu : Bs w u b) (hcap : b.length + 300 ≤ 140737488355328) :
    Calls Try.prog 12 #[u] w fun e w' => ∃ v, e = .returned v ∧ w'.ownsRow w.heap.size 5 1 v (b.length + 300) (u8s (b ++ lentT 300)) ∧ Kept [] w w' := by
  obtain ⟨pb, cb, rfl, -⟩ := id hu
  have HC : Hid (b.length + 300 ≤ 140737488355328) := hcap
  clear hcap
  go_enter Try.func12, Try.ntmps12
  go_wp2_with (at_builtin; refine wpList_append_bs rfl (.tmp 5) (.tmp 6) 25 rfl w.heap.size 5 Try.underlying25 (by kernel_rfl) _ _ _ (by rfl) (World.ownsRow_nil w _ _ _) _ b (by rfl) hu (by have := HC.out; omega) (Nat.le_refl _) ?_; intro v1 w1 o1 g1 at1; have k1 : Kept [] w w1 := (Kept.refl [] w).grown g1 (fun k hk => by simp [Value.ownBlock] at hk); rw [Nat.zero_add, List.nil_append] at o1; have H1 := @hideH _ (And.intro o1 k1); clear o1 g1 at1 k1)
  go_loopw [3, 4] (fun l i wr => ∃ k : Nat, k ≤ 300 ∧ i = .int .i64 k ∧ Hid (wr.ownsRow w.heap.size 5 1 l (b.length + k) (u8s (b ++ lentT k)) ∧ Kept [] w wr)) (fun _ i _ => 300 - (intOf i).toNat)
  case atStart => exact ⟨0, Nat.zero_le _, rfl, by simpa [lentT] using H1.out.1, H1.out.2⟩
  case round =>
    clear H1
    obtain ⟨k, hk, rfl, hh⟩ := hrel
    obtain ⟨p, c, rfl⟩ := own_shape2 hh.out.1
    by_cases hlt : k < 300
    · have hlt' : (k : Int) < 300 := by omega
      have wk : IntKind.i64.wrap ((k : Int) + 1) = (k : Int) + 1 := wrap_i64_of (by omega) (by omega)
      have lb := lent_byte hlt
      have ha := @hideH _ (hh.out.1.alloc (.cells #[.int .u8 ((UInt8.ofNat k).toNat : Int)] 5))
      have bc := byte_cell wr 5 _ (UInt8.ofNat k) rfl
      have hsz := hh.out.2.size
      go_wp2_with (at_builtin; refine wpList_append_byte rfl (.tmp 12) (.tmp 15) 25 rfl w.heap.size 5 Try.underlying25 (by kernel_rfl) _ _ _ (by rfl) ha.out ⟨wr.heap.size, 0, none⟩ 1 (UInt8.ofNat k) (by rfl) bc (by have := HC.out; omega) (by simp; omega) ?_; intro v2 w2 o2 g2 at2; have k2 : Kept [] w w2 := (hh.out.2.alloc _).grown g2 (fun x hx => .inr (own_ge hh.out.1 x hx)); have REL := @hideH _ (And.intro (show w2.ownsRow w.heap.size 5 1 v2 (b.length + (k + 1)) (u8s (b ++ lentT (k + 1))) by rw [lentT_succ, ← List.append_assoc]; exact o2) k2); clear o2 g2 at2 k2)
      clear ha bc hsz lb hh
      go_roundw
      case rel => exact ⟨k + 1, by omega, by go_num, REL⟩
      case measure => simp [intOf]; omega
    · obtain rfl : k = 300 := by omega
      go_wp2
      go_ret
      exact ⟨_, rfl, hh.out.1, hh.out.2⟩
end Go.Proofs.Ytmipmiaflompmab

/-
  OWN WORK. The program's disk: New.
-/
namespace Go.Proofs.Ytmipmiaflompmab
open Go.RowKit
set_option linter.unusedVariables false

set_option maxHeartbeats 3200000 in
theorem pNew (a b c : Int) (w : World) :
    Calls Try.prog 10 #[.agg #[.int .i64 a, .int .i64 b, .int .i64 c]] w fun e w' => ∃ u, e = .returned (.tuple #[u, .int .i64 (newE a b c)]) ∧ Made (PD []) w w' u (newD a b c) (newE a b c) := by
  obtain ⟨w0, hw0⟩ : ∃ w0, w0 = w.alloc (.cells #[.int .i64 a, .int .i64 b, .int .i64 c] 23) := ⟨_, rfl⟩
  have k0 : Kept [] w w0 := by rw [hw0]; exact (Kept.refl [] w).alloc _
  have bS : Blk w0 w.heap.size 23 [.int .i64 a, .int .i64 b, .int .i64 c] := by rw [hw0]; exact Blk.new w _ _
  have s0 := bS.cell (j := 0) rfl
  have s1 := bS.cell (j := 1) rfl
  have s2 := bS.cell (j := 2) rfl
  have hmb := mayBe_any a b c w0
  have HW0 : Hid (w0 = w.alloc (.cells #[.int .i64 a, .int .i64 b, .int .i64 c] 23)) := hw0
  cases h : shapeOk a b c with
  | false =>
    have hE : newE a b c = 60 := by unfold newE; rw [h]; rfl
    rw [h] at hmb
    rw [hE]
    rw [hw0] at s0 s1 s2 hmb
    clear h hE hw0 bS
    go_enter Try.func10, Try.ntmps10
    go_wp2_with fail
    refine hmb.mono ?_
    rintro e w1 ⟨rfl, k1⟩
    clear hmb
    rw [← HW0.out] at k1
    go_wp2
    go_ret2
    exact ⟨_, rfl, .inr ⟨by omega, rfl, k0.then k1⟩⟩
  | true =>
    have hE : newE a b c = 0 := by unfold newE; rw [h]; rfl
    rw [h] at hmb
    obtain ⟨np, ns, lm, rfl, rfl, rfl, h1, h2, h3⟩ := shapeOk_nat h
    rw [hE]
    have hok : (newD (np : Int) (ns : Int) (lm : Int)).Ok := by
      have := DS.Ok.ofBlank h1 h2 h3
      simpa [newD] using this
    have eD : newD (np : Int) (ns : Int) (lm : Int) = DS.blank np ns lm := by simp [newD]
    rw [eD] at hok ⊢
    have hbl := fun W => pblank_any np ns lm W h1 h2.2
    have hla := fun (vp : Value) (pv : List Value) (W : World) (hP : Pls W w.heap.size vp (np + 3) pv (prows np (blankRows np ns))) (hs : w.heap.size ≤ W.heap.size) => lasting_any (DS.blank np ns lm) w.heap.size vp (.slice none 0 0) pv W hok ⟨rfl, rfl, rfl⟩ ⟨rfl, rfl⟩ hP hs (Bs.nil W)
    have HLA : Hid (∀ (vp : Value) (pv : List Value) (W : World), Pls W w.heap.size vp (np + 3) pv (prows np (blankRows np ns)) → w.heap.size ≤ W.heap.size → Calls Try.prog 31 #[.agg #[.int .i64 (np : Int), .int .i64 (ns : Int), .int .i64 (lm : Int)], vp, .slice none 0 0] W fun e w' => ∃ u, e = .returned u ∧ (∃ F, PD [] w' u (DS.blank np ns lm) F ∧ (∀ x ∈ F, w.heap.size ≤ x)) ∧ Kept [] W w') := hla
    rw [hw0] at s0 s1 s2 hmb
    clear h hE hw0 bS hok eD h1 h2 h3 hla
    go_enter Try.func10, Try.ntmps10
    go_wp2_with fail
    refine hmb.mono ?_
    rintro e w1 ⟨rfl, k1⟩
    clear hmb
    have d0 := k1.cell s0 (by simp)
    have d1 := k1.cell s1 (by simp)
    have d2 := k1.cell s2 (by simp)
    rw [← HW0.out] at k1
    have e0 := (Kept.refl [] w1).drew.cell d0 (by simp)
    have e1 := (Kept.refl [] w1).drew.cell d1 (by simp)
    have e2 := (Kept.refl [] w1).drew.cell d2 (by simp)
    clear s0 s1 s2
    go_upto_region 3 with fail
    go_region_held3 (fun w' => w'.cell? ⟨w.heap.size, 0, none⟩ = some (.int .i64 (np : Int)) ∧ w'.cell? ⟨w.heap.size, 1, none⟩ = some (.int .i64 (ns : Int)) ∧ w'.cell? ⟨w.heap.size, 2, none⟩ = some (.int .i64 (lm : Int)))
      (first
        | (with_reducible exact ⟨e0, e1, e2⟩)
        | (with_reducible exact ⟨k5.cell d0 (by simp), k5.cell d1 (by simp), k5.cell d2 (by simp)⟩)
        | (with_reducible exact ⟨k6.cell d0 (by simp), k6.cell d1 (by simp), k6.cell d2 (by simp)⟩)
        | fail)
      (first
        | (go_at_call 29; refine (hbl _).mono ?_; rintro e w5 ⟨vp, pv, rfl, hP, k5'⟩; have k5 : Kept [] w1 w5 := (Kept.refl [] w1).drew.then k5'; obtain ⟨gR, cR, rfl, -⟩ := own_at8 hP.row (by omega))
        | (go_at_call 31; refine (HLA.out _ pv _ (hP.mono (Nat.le_trans k0.size k1.size)) (Nat.le_trans k0.size (Nat.le_trans k1.size k5.size))).mono ?_; rintro e w6 ⟨u, rfl, ⟨F, hD, hF⟩, k6'⟩; have k6 : Kept [] w1 w6 := k5.then k6'; obtain ⟨gu, rfl⟩ := hD.ptr)
        | fail)
    have FIN : Hid (Born (PD []) w w6 (.pointer (some ⟨gu, 0, none⟩)) (DS.blank np ns lm)) := ⟨F, hD, hF, (k0.then k1).then k6⟩
    clear hD hF hP k5 k5' k6 k6' d0 d1 d2 e0 e1 e2 hbl HLA
    go_wp2
    go_ret2
    exact ⟨_, rfl, .inl ⟨rfl, FIN.out⟩⟩
end Go.Proofs.Ytmipmiaflompmab

