/-
  OWN WORK. ImageTurns.
-/
import Derived.Test.YtkghbmdicinnnaaRows
import Derived.Test.YtkghbmdicinnnaaPartsWalk
namespace Go.Proofs.Ytkghbmdicinnnaa
open Go.RowKit
set_option linter.unusedVariables false

theorem PartIs.cutGood {a b : List UInt8} {f t : Nat} (h : PartIs a b a.length f t) : ¬ cutBad a.length (f : Int) (t : Int) := by
  have := h.le; have := h.top
  unfold cutBad
  omega
theorem cutL_good {a : List UInt8} {f t : Nat} (h : ¬ cutBad a.length (f : Int) (t : Int)) : cutL a f t = (a.drop f).take (t - f) ∧ cutE a f t = 0 := by
  refine ⟨?_, by rw [cutE, if_neg h]⟩
  rw [cutL, if_neg h]
  congr 1
  unfold cutBad at h
  omega
theorem layL_good {a r : List UInt8} {f : Nat} (h : f + r.length ≤ a.length) : layL a f r = over a f r ∧ layE a f r = 0 := by
  have h' : ¬ layBad a.length (f : Int) r.length := by unfold layBad; omega
  exact ⟨by rw [layL, if_neg h']; rfl, by rw [layE, if_neg h']⟩
theorem PartIs.answers {a b : List UInt8} {f t : Nat} (h : PartIs a b a.length f t) (hl : a.length = b.length) :
    cutE b f t = 0 ∧ cutE a f t = 0 ∧ layE a f (cutL b f t) = 0 ∧ layE b f (cutL a f t) = 0 ∧ layL a f (cutL b f t) = b ∧ layL b f (cutL a f t) = a := by
  have h1 := h.le; have h2 := h.top
  have hs : PartIs b a b.length f t := by rw [← hl]; exact h.symm
  obtain ⟨ca, ea⟩ := cutL_good h.cutGood
  obtain ⟨cb, eb⟩ := cutL_good hs.cutGood
  have la : ((a.drop f).take (t - f)).length = t - f := by simp; omega
  have lb : ((b.drop f).take (t - f)).length = t - f := by simp; omega
  obtain ⟨x1, x2⟩ := layL_good (a := a) (r := (b.drop f).take (t - f)) (f := f) (by rw [lb]; omega)
  obtain ⟨y1, y2⟩ := layL_good (a := b) (r := (a.drop f).take (t - f)) (f := f) (by rw [la]; omega)
  rw [ca, cb]
  exact ⟨eb, ea, x2, y2, by rw [x1]; exact h.turn hl, by rw [y1]; exact hs.turn hl.symm⟩
/-- the bytes at a place of two lists, in memory -/
theorem two_at {w : World} {pu pv : Option Addr} {cu cv : Nat} {a b : List UInt8} (hu : Bs w (.slice pu a.length cu) a) (hv : Bs w (.slice pv b.length cv) b) (i : Nat) (hi : i < a.length) (hj : i < b.length) :
    ∃ bu ou bv ov, pu = some ⟨bu, ou, none⟩ ∧ pv = some ⟨bv, ov, none⟩ ∧ w.cell? ⟨bu, ou + i, none⟩ = some (.int .u8 (a[i].toNat : Int)) ∧ w.cell? ⟨bv, ov + i, none⟩ = some (.int .u8 (b[i].toNat : Int)) := by
  obtain ⟨bu, ou, c', e', -, -, -, hcell⟩ := hu.pos (by omega)
  obtain ⟨bv, ov, c2, e2, -, -, -, hcell2⟩ := hv.pos (by omega)
  simp only [Value.slice.injEq] at e' e2
  exact ⟨bu, ou, bv, ov, e'.1, e2.1, hcell i a[i] (List.getElem?_eq_getElem hi), hcell2 i b[i] (List.getElem?_eq_getElem hj)⟩

theorem hidePk {a b : List UInt8} {f t : Int} (h : cutE b f t = 0 ∧ cutE a f t = 0 ∧ layE a f (cutL b f t) = 0 ∧ layE b f (cutL a f t) = 0 ∧ layL a f (cutL b f t) = b ∧ layL b f (cutL a f t) = a) :
    Hid (cutE b f t = 0 ∧ cutE a f t = 0 ∧ layE a f (cutL b f t) = 0 ∧ layE b f (cutL a f t) = 0 ∧ layL a f (cutL b f t) = b ∧ layL b f (cutL a f t) = a) := h
set_option maxRecDepth 100000 in
set_option maxHeartbeats 8000000 in
theorem imageTurns_walk (u v : Value) (a b : List UInt8) (w : World) (hu : Bs w u a) (hv : Bs w v b) (ha : a.length ≤ 140737488351232) (hb : b.length ≤ 140737488351232) :
    Calls Try.prog 3 #[u, v] w fun e w' => e = .returned (.bool true) ∧ Kept [] w w' := by
  have HA : Hid (a.length ≤ 140737488351232) := ha
  have HB : Hid (b.length ≤ 140737488351232) := hb
  clear ha hb
  obtain ⟨pu, cu, rfl, hcu0, hcu, -⟩ := id hu
  obtain ⟨pv, cv, rfl, -⟩ := id hv
  go_enter Try.func3, Try.ntmps3
  go_wp2_with fail
  refine (part_tot _ _ a b _ hu hv).mono ?_
  rintro e w1 ⟨f, t, z, rfl, hp, k1⟩
  go_wp2_with fail
  refine (alive_any _).mono ?_
  rintro e w2 ⟨rfl, k2⟩
  have kk := k1.then k2
  clear k1 k2
  rcases hp with ⟨h0, rfl, rfl, rfl⟩ | ⟨h0, rfl, hp⟩
  · have h0' : ¬ (a.length : Int) = (b.length : Int) := by omega
    go_wp2_with (go_at_call 10; refine (num_any _ _).mono ?_; rintro e w' ⟨rfl, rfl⟩)
    go_ret
    exact ⟨rfl, kk⟩
  · have hle := hp.le
    have htop := hp.top
    have HP : Hid (PartIs a b a.length f t) := hp
    obtain ⟨n, hn⟩ : ∃ n, n = a.length := ⟨_, rfl⟩
    have hnb : n = b.length := by omega
    have hlen : n ≤ 9223372036854775807 := by unfold maxLen at hcu; omega
    rw [← hn, ← hnb]
    rw [← hn] at htop
    have HNA : Hid (n = a.length) := hn
    have HNB : Hid (n = b.length) := hnb
    have hu2 := hu.kept kk
    have hv2 := hv.kept kk
    have H2 : Hid (Bs w2 (.slice pu a.length cu) a ∧ Bs w2 (.slice pv b.length cv) b) := ⟨hu2, hv2⟩
    clear hp hn hnb h0 hu hv hu2 hv2
    have c0 : ¬ (f : Int) < 0 := by omega
    have c1 : ¬ (t : Int) < (f : Int) := by omega
    have c2 : ¬ (n : Int) < (t : Int) := by omega
    go_wp2_with (go_at_call 10; refine (num_any _ _).mono ?_; rintro e w' ⟨rfl, hw'⟩; subst hw')
    have g0 : decide ((f : Int) < 0) = false := decide_eq_false (by omega)
    have g1 : decide (t < f) = false := decide_eq_false (by omega)
    have g2 : decide (n < t) = false := decide_eq_false (by omega)
    simp only [g0, g1, g2, Bool.or_false]
    clear g0 g1 g2
    go_loopw [8] (fun i wr => ∃ k : Nat, k ≤ n ∧ i = .int .i64 k ∧ Kept [] w' wr) (fun i _ => n - (intOf i).toNat)
    case atStart => exact ⟨0, Nat.zero_le _, rfl, Kept.refl _ _⟩
    case round =>
      obtain ⟨k, hk, rfl, kw⟩ := hrel
      by_cases hlt : k < n
      · have hlt' : (k : Int) < (n : Int) := by omega
        have hka : k < a.length := by rw [← HNA.out]; exact hlt
        have hkb : k < b.length := by rw [← HNB.out]; exact hlt
        obtain ⟨bu, ou, bv, ov, rfl, rfl, ca, cb⟩ := two_at (H2.out.1.kept kw) (H2.out.2.kept kw) k hka hkb
        by_cases d1 : k < f
        · have d1' : (k : Int) < (f : Int) := by omega
          have he := byte_eq hka hkb (HP.out.out k hka (.inl d1))
          rw [← he] at cb
          clear he
          go_wp2
          go_quiet (fail)
          go_wp2
          go_roundw
          case rel => exact ⟨k + 1, by omega, by go_num, kw.drewN' _⟩
          case measure => simp [intOf]; omega
        · have d1' : ¬ (k : Int) < (f : Int) := by omega
          by_cases d2 : t ≤ k
          · have d2' : (t : Int) ≤ (k : Int) := by omega
            have he := byte_eq hka hkb (HP.out.out k hka (.inr d2))
            rw [← he] at cb
            clear he
            go_wp2
            go_quiet (fail)
            go_wp2
            go_roundw
            case rel => exact ⟨k + 1, by omega, by go_num, kw.drewN' _⟩
            case measure => simp [intOf]; omega
          · have d2' : ¬ (t : Int) ≤ (k : Int) := by omega
            go_wp2
            go_quiet (fail)
            go_wp2
            go_roundw
            case rel => exact ⟨k + 1, by omega, by go_num, kw.drewN' _⟩
            case measure => simp [intOf]; omega
      · have hge : ¬ (k : Int) < (n : Int) := by omega
        have kkr := kk.then kw
        have hu3 := H2.out.1.kept kw
        have hv3 := H2.out.2.kept kw
        by_cases hft : f < t
        · obtain ⟨m, rfl⟩ : ∃ m, t = m + 1 := ⟨t - 1, by omega⟩
          obtain ⟨he1, he2⟩ := HP.out.ends hft
          rw [show m + 1 - 1 = m from rfl] at he2
          have fa : f < a.length := by rw [← HNA.out]; omega
          have fb : f < b.length := by rw [← HNB.out]; omega
          have ma : m < a.length := by rw [← HNA.out]; omega
          have mb : m < b.length := by rw [← HNB.out]; omega
          obtain ⟨bu, ou, bv, ov, rfl, rfl, ca, cb⟩ := two_at hu3 hv3 f fa fb
          obtain ⟨bu', ou', bv', ov', e1, e2, ca2, cb2⟩ := two_at hu3 hv3 m ma mb
          simp only [Option.some.injEq, Addr.mk.injEq, and_true] at e1 e2
          obtain ⟨rfl, rfl⟩ := e1
          obtain ⟨rfl, rfl⟩ := e2
          have n1 : ((a[f].toNat : Int) == (b[f].toNat : Int)) = false := beq_false_of_ne (byte_ne fa fb he1)
          have n2 : ((a[m].toNat : Int) == (b[m].toNat : Int)) = false := beq_false_of_ne (byte_ne ma mb he2)
          have ew : IntKind.i64.wrap (m : Int) = (m : Int) := by rw [IntKind.wrap_i64]; omega
          have l1 : (f : Int) < (n : Int) := by omega
          have l2 : (m : Int) < (n : Int) := by omega
          have l3 : (f : Int) < (m : Int) + 1 := by omega
          have l4 : ¬ (m : Int) + 1 = (f : Int) := by omega
          have l5 : (0 : Int) ≤ (m : Int) := by omega
          have l6 : (0 : Int) ≤ (f : Int) := by omega
          clear he1 he2
          go_wp2
          go_quiet (fail)
          go_wp2_with fail
          have pk := HP.out.answers (by rw [← HNA.out]; exact HNB.out)
          rw [show ((m + 1 : Nat) : Int) = (m : Int) + 1 from rfl] at pk
          have kq := kkr.drewN' nq
          have hu4 := hu3.kept ((Kept.refl [] wr).drewN' nq)
          have hv4 := hv3.kept ((Kept.refl [] wr).drewN' nq)
          rw [← HNA.out] at hu4
          rw [← HNB.out] at hv4
          generalize wr.drewN nq = w3 at *
          have HPK := hidePk pk
          clear pk
          refine (cut_tot _ b (f : Int) ((m : Int) + 1) _ hv4 (by have := HB.out; omega)).mono ?_
          rintro e w4 ⟨x, rfl, O4, k4⟩
          rw [HPK.out.1]
          go_wp2_with fail
          refine (lay_tot _ _ a (cutL b (f : Int) ((m : Int) + 1)) (f : Int) _ (hu4.kept k4) (Bs.ofOwn O4) (by have := HA.out; omega)).mono ?_
          rintro e w5 ⟨y, rfl, O5, k5⟩
          rw [HPK.out.2.2.1]
          rw [HPK.out.2.2.2.2.1] at O5
          have k45 := k4.then k5
          go_wp2_with fail
          refine (cut_tot _ a (f : Int) ((m : Int) + 1) _ (hu4.kept k45) (by have := HA.out; omega)).mono ?_
          rintro e w6 ⟨z, rfl, O6, k6⟩
          rw [HPK.out.2.1]
          have k46 := k45.then k6
          go_wp2_with fail
          refine (lay_tot _ _ b (cutL a (f : Int) ((m : Int) + 1)) (f : Int) _ (hv4.kept k46) (Bs.ofOwn O6) (by have := HB.out; omega)).mono ?_
          rintro e w7 ⟨q, rfl, O7, k7⟩
          rw [HPK.out.2.2.2.1]
          rw [HPK.out.2.2.2.2.2] at O7
          have k47 := k46.then k7
          have by7 := (Bs.ofOwn O5).kept (k6.then k7)
          have bq7 := Bs.ofOwn O7
          have hu7 := hu4.kept k47
          have hv7 := hv4.kept k47
          obtain ⟨py, cy, rfl, -⟩ := id by7
          obtain ⟨pq, cq, rfl, -⟩ := id bq7
          rw [← HNB.out] at by7
          rw [← HNA.out] at bq7
          rw [← HNB.out, ← HNA.out]
          have t1 := by7.text
          have t2 := bq7.text
          have t3 := hu7.text
          have t4 := hv7.text
          have kend := kq.then k47
          clear O4 O5 O6 O7 k4 k5 k6 k7 k45 k46 k47 by7 bq7 hu7 hv7 hu4 hv4 kq
          go_wp2_with (go_at_call 10; refine (num_any _ _).mono ?_; rintro e w' ⟨rfl, hw'⟩; subst hw')
          go_ret
          exact ⟨rfl, kend⟩
        · have htf : t = f := by omega
          subst htf
          have ht0 := HP.out.zero rfl
          subst ht0
          go_wp2
          go_quiet (fail)
          go_wp2_with fail
          have pk := HP.out.answers (by rw [← HNA.out]; exact HNB.out)
          rw [show ((0 : Nat) : Int) = 0 from rfl] at pk
          have kq := kkr.drewN' nq
          have hu4 := hu3.kept ((Kept.refl [] wr).drewN' nq)
          have hv4 := hv3.kept ((Kept.refl [] wr).drewN' nq)
          rw [← HNA.out] at hu4
          rw [← HNB.out] at hv4
          generalize wr.drewN nq = w3 at *
          have HPK := hidePk pk
          clear pk
          refine (cut_tot _ b 0 0 _ hv4 (by have := HB.out; omega)).mono ?_
          rintro e w4 ⟨x, rfl, O4, k4⟩
          rw [HPK.out.1]
          go_wp2_with fail
          refine (lay_tot _ _ a (cutL b 0 0) 0 _ (hu4.kept k4) (Bs.ofOwn O4) (by have := HA.out; omega)).mono ?_
          rintro e w5 ⟨y, rfl, O5, k5⟩
          rw [HPK.out.2.2.1]
          rw [HPK.out.2.2.2.2.1] at O5
          have k45 := k4.then k5
          go_wp2_with fail
          refine (cut_tot _ a 0 0 _ (hu4.kept k45) (by have := HA.out; omega)).mono ?_
          rintro e w6 ⟨z, rfl, O6, k6⟩
          rw [HPK.out.2.1]
          have k46 := k45.then k6
          go_wp2_with fail
          refine (lay_tot _ _ b (cutL a 0 0) 0 _ (hv4.kept k46) (Bs.ofOwn O6) (by have := HB.out; omega)).mono ?_
          rintro e w7 ⟨q, rfl, O7, k7⟩
          rw [HPK.out.2.2.2.1]
          rw [HPK.out.2.2.2.2.2] at O7
          have k47 := k46.then k7
          have by7 := (Bs.ofOwn O5).kept (k6.then k7)
          have bq7 := Bs.ofOwn O7
          have hu7 := hu4.kept k47
          have hv7 := hv4.kept k47
          obtain ⟨py, cy, rfl, -⟩ := id by7
          obtain ⟨pq, cq, rfl, -⟩ := id bq7
          rw [← HNB.out] at by7
          rw [← HNA.out] at bq7
          rw [← HNB.out, ← HNA.out]
          have t1 := by7.text
          have t2 := bq7.text
          have t3 := hu7.text
          have t4 := hv7.text
          have kend := kq.then k47
          clear O4 O5 O6 O7 k4 k5 k6 k7 k45 k46 k47 by7 bq7 hu7 hv7 hu4 hv4 kq
          go_wp2_with (go_at_call 10; refine (num_any _ _).mono ?_; rintro e w' ⟨rfl, hw'⟩; subst hw')
          go_ret
          exact ⟨rfl, kend⟩
end Go.Proofs.Ytkghbmdicinnnaa
