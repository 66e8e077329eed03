import Derived.Test.YtbheegphhllogaaC2
/-
  OWN WORK (by mktbc.py). The law: TableFresh.
-/
namespace Go.Proofs.Ytbheegphhllogaa
open Go.RowKit
set_option linter.unusedVariables false
set_option linter.unusedSimpArgs false

theorem map_rep (S : List RowR) (z : Int) : S.map (fun _ => markR z) = List.replicate S.length (markR z) := by simp [List.map_const']
theorem src_of_row {P : Program} {w : World} {base sz : Nat} {p : Option Addr} {n c : Nat} {cs : List Value} {t e : TypeId} (ht : P.underlying t = some (.slice e)) (h : Row w base sz (.slice p n c) n cs) : Src P sz t (.slice p n c) n cs w := by
  obtain ⟨h1, h2, p', c', e', h3, h4, h5⟩ := h
  cases e'
  rcases h5 with ⟨rfl, rfl⟩ | ⟨g, rfl, -, -, h8, -⟩
  · obtain rfl : n = 0 := by omega
    obtain rfl : cs = [] := List.eq_nil_of_length_eq_zero (by simpa using h1)
    exact Src.ofNil w ht 0
  · refine Src.ofSlice w ht _ _ _ _ h1 (fun j u hj => ?_) h2
    rw [add_none rfl]
    simpa using h8 j u hj
theorem mks_start {Tb : World → Nat → List Nat → Int → List RowR → Prop} (O : TbOps Tb) {w w2 w3 w4 w6 : World} {M : Int} {g : Nat} {F : List Nat} {S : List RowR} {va vb vw : Value} (t : Tb w2 g F M S) (k : Kept [] w w2) (ma : Rw w3 w2.heap.size va S) (k3 : Kept [] w2 w3) (mb : Rw w4 w3.heap.size vb S) (k4 : Kept [] w3 w4) (mw : Rw w6 w4.heap.size vw S) (k6 : Kept [] w4 w6) : Mks Tb w w6 M g F S vw va S vb S := by
  have s1 := k.size; have s3 := k3.size; have s4 := k4.size; have s6 := k6.size
  refine ⟨O.kept t ((k3.then k4).then k6) (by simp), mw.mono (by omega), (ma.kept (k4.then k6) (by simp)).mono (by omega), (mb.kept k6 (by simp)).mono (by omega), ((k.then k3).then k4).then k6, fun x hx => ⟨fun hm => ?_, fun e => ?_, fun e => ?_⟩, fun x hx => ⟨fun hm => ?_, fun e => ?_⟩⟩
  · have := O.lt t x hm; have := (ma.lt hx).1; omega
  · have := (mw.lt e).1; have := (ma.lt hx).2; omega
  · have := (mb.lt e).1; have := (ma.lt hx).2; omega
  · have := O.lt t x hm; have := (mb.lt hx).1; omega
  · have := (mw.lt e).1; have := (mb.lt hx).2; omega
set_option maxRecDepth 20000 in
set_option maxHeartbeats 12800000 in
theorem tableFresh_walk {Tb : World → Nat → List Nat → Int → List RowR → Prop} (O : TbOps Tb) (most : Int) (v : Value) (ss : List StepT) (w : World) (hS : Scr w v ss) : Calls Try.prog 5 #[.int .i64 most, v] w fun e w' => e = .returned (.bool true) ∧ Kept [] w w' := by
  have HPL := @hideH _ (played_any O most v ss w hS)
  clear hS
  obtain ⟨inf, hin1, hin2, hin3, hin4⟩ := info_parts3 (show (Try.prog.info? 24).map (fun i => (i.zero, i.size, i.bytes)) = some (some (.agg #[.int .i64 0, .int .i64 0, .int .i64 0, .int .i64 0, .int .i64 0]), 5, 40) by kernel_rfl)
  have HI := @hideH _ (And.intro hin1 (And.intro hin2 (And.intro hin3 hin4)))
  clear hin1 hin2 hin3 hin4
  go_enter Try.func5, Try.ntmps5
  go_wp2_with fail
  refine HPL.out.mono ?_
  clear HPL
  rintro e w1 ⟨g, F, S, u, l, rfl, p1⟩
  have H8 := @hideH _ (show S.length ≤ 8 by have e1 := (O.ok p1.t).len; have e2 := (O.ok p1.t).most; omega)
  have HT1 := @hideH _ (And.intro p1.t p1.kept)
  clear p1
  have HKN := @hideH _ (known_any O w1)
  go_wp2_with fail
  refine HKN.out.mono ?_
  clear HKN
  rintro e w2 ⟨rfl, k2⟩
  have HT2 := @hideH _ (And.intro (O.kept HT1.out.1 k2 (by simp)) (HT1.out.2.then k2))
  clear HT1 k2
  have HQ := @hideH _ (O.rows w2 HT2.out.1)
  go_wp2_with fail
  refine HQ.out.mono ?_
  clear HQ
  rintro e w3 ⟨va, rfl, ma, k3⟩
  have HQ := @hideH _ (O.rows w3 (O.kept HT2.out.1 k3 (by simp)))
  go_wp2_with fail
  refine HQ.out.mono ?_
  clear HQ
  rintro e w4 ⟨vb, rfl, mb, k4⟩
  have HA := @hideH _ (And.intro ma (And.intro k3 (And.intro mb k4)))
  clear ma mb k3 k4
  obtain ⟨pa, ca, hva⟩ := HA.out.1.shape
  subst hva
  obtain ⟨pb, cb, hvb⟩ := HA.out.2.2.1.shape
  subst hvb
  obtain ⟨n, hn⟩ : ∃ n, n = S.length := ⟨_, rfl⟩
  have HN := @hideH _ hn
  rw [← hn] at HA H8
  rw [← hn]
  clear hn
  obtain ⟨w5, hw5⟩ : ∃ wx, wx = w4.alloc (.cells #[] 24) := ⟨_, rfl⟩
  have k5 : Kept [] w4 w5 := by rw [hw5]; exact (Kept.refl [] w4).alloc _
  have R5 : Row w5 w4.heap.size 5 (.slice (some ⟨w4.heap.size, 0, none⟩) 0 0) 0 [] := ⟨rfl, by simp, _, _, rfl, Nat.le_refl _, by simp [maxLen], .inr ⟨_, rfl, Nat.le_refl _, by rw [hw5, World.size_alloc]; omega, fun j u hj => by simp at hj, fun j hj => by omega⟩⟩
  have RA := HA.out.1.kept (HA.out.2.2.2.then k5) (by simp)
  unfold Rw at RA
  rw [← HN.out] at RA
  have hsrc : Src Try.prog 5 26 (.slice pa n ca) n (rcells S) w5 := src_of_row Try.underlying26 RA
  have HS5 := @hideH _ (And.intro k5 (show w4.heap.size ≤ w5.heap.size from k5.size))
  go_upto_region 7 with (at_builtin; rw [← hw5]; refine wpList_append_row2 rfl (.tmp 32) (.tmp 33) 26 rfl w4.heap.size 24 inf (.agg #[.int .i64 0, .int .i64 0, .int .i64 0, .int .i64 0, .int .i64 0]) 5 40 Try.underlying26 HI.out.1 HI.out.2.1 HI.out.2.2.1 HI.out.2.2.2 rfl _ _ _ (by rfl) R5 _ _ _ (by rfl) hsrc (by have e1 := H8.out; omega) (by have e1 := H8.out; unfold maxLen; omega) (by have e1 := H8.out; omega) HS5.out.2 ?_; intro v' w6 r6 k6 o6; rw [Nat.zero_add, List.nil_append] at r6; obtain ⟨pw, cw, hvw, -⟩ := Row.shape r6; subst hvw)
  have HK46 := @hideH _ (show Kept [] w4 w6 from HS5.out.1.trans k6 (fun x hx => .inr (by simp [Value.ownBlock] at hx; omega)))
  have HW6 := @hideH _ (show Rw w6 w4.heap.size (.slice pw n cw) S by unfold Rw; rw [← HN.out]; exact r6)
  clear hsrc RA R5 hw5 r6 k6 o6 k5 HS5
  have HM6 := @hideH _ (mks_start O HT2.out.1 HT2.out.2 HA.out.1 HA.out.2.1 HA.out.2.2.1 HA.out.2.2.2 HW6.out HK46.out)
  have HQ := @hideH _ (same_eq _ _ S _ _ w6 HM6.out.b HM6.out.r)
  clear HA HT2 HW6 HK46
  go_wp2_with fail
  refine HQ.out.mono ?_
  clear HQ
  rintro e w7 ⟨rfl, k7⟩
  have HM7 := @hideH _ (HM6.out.then O k7)
  clear HM6 k7
  go_wp2
  go_loopw [10] (fun vi wr => ∃ t : Nat, t ≤ n ∧ vi = .int .i64 t ∧ Hid (Mks Tb w wr (mostOf most) g F S (.slice pw n cw) (.slice pa n ca) (mapTo (fun _ => markR (-1)) S t) (.slice pb n cb) S)) (fun vi _ => n - (intOf vi).toNat)
  case atStart => exact ⟨0, Nat.zero_le _, rfl, by rw [mapTo_zero]; exact HM7.out⟩
  case round =>
    clear HM7
    obtain ⟨t, ht, rfl, hh⟩ := hrel
    by_cases htl : t < n
    · have htl' : (t : Int) < (n : Int) := by omega
      have h0 : (0 : Int) ≤ (t : Int) := by omega
      have wt : IntKind.i64.wrap ((t : Int) + 1) = (t : Int) + 1 := wrap_i64_of (by omega) (by have := H8.out; omega)
      obtain ⟨x, hx⟩ : ∃ x, S[t]? = some x := ⟨_, List.getElem?_eq_getElem (by have := HN.out; omega)⟩
      obtain ⟨gl, hp, -, -, ⟨d0, d1, d2, d3, d4⟩, f0, f1, f2, f3, f4⟩ := hh.out.a.at (mapTo_at _ hx)
      subst hp
      have HS7 := @hideH _ (hh.out.a.set (k := t) (by rw [mapTo_length, ← HN.out]; exact htl) (markR (-1)))
      have HH := @hideH _ (show mapTo (fun _ => markR (-1)) S (t + 1) = (mapTo (fun _ => markR (-1)) S t).set t (markR (-1)) from mapTo_next _ hx)
      clear hx
      obtain ⟨wz, hwz⟩ : ∃ wx, wx = setRow wr gl (t * 5) (markR (-1)) := ⟨_, rfl⟩
      rw [← hwz] at HS7
      simp only [setRow, markR] at hwz
      have HMN := @hideH _ (hh.out.setA O HS7.out.1 HS7.out.2)
      go_upto_region 11 with fail
      rw [← hwz]
      clear hwz d0 d1 d2 d3 d4 f0 f1 f2 f3 f4
      go_wp2
      go_roundw
      case rel => exact ⟨t + 1, by omega, by go_num, by rw [HH.out]; exact HMN.out⟩
      case measure => simp [intOf]; omega
    · have htl' : ¬ (t : Int) < (n : Int) := by omega
      have HMA := @hideH _ (show Mks Tb w wr (mostOf most) g F S (.slice pw n cw) (.slice pa n ca) (List.replicate n (markR (-1))) (.slice pb n cb) S by have q := hh.out; rw [show t = S.length by have := HN.out; omega, mapTo_all, map_rep, ← HN.out] at q; exact q)
      obtain ⟨wA, rfl⟩ : ∃ wx, wx = wr := ⟨_, rfl⟩
      clear hh htl ht
      go_wp2
      go_loopw [11] (fun vi wr => ∃ t : Nat, t ≤ n ∧ vi = .int .i64 t ∧ Hid (Mks Tb w wr (mostOf most) g F S (.slice pw n cw) (.slice pa n ca) (List.replicate n (markR (-1))) (.slice pb n cb) (mapTo (fun _ => markR (-2)) S t))) (fun vi _ => n - (intOf vi).toNat)
      case atStart => exact ⟨0, Nat.zero_le _, rfl, by rw [mapTo_zero]; exact HMA.out⟩
      case round =>
        clear HMA
        obtain ⟨t, ht, rfl, hh⟩ := hrel
        by_cases htl : t < n
        · have htl' : (t : Int) < (n : Int) := by omega
          have h0 : (0 : Int) ≤ (t : Int) := by omega
          have wt : IntKind.i64.wrap ((t : Int) + 1) = (t : Int) + 1 := wrap_i64_of (by omega) (by have := H8.out; omega)
          obtain ⟨x, hx⟩ : ∃ x, S[t]? = some x := ⟨_, List.getElem?_eq_getElem (by have := HN.out; omega)⟩
          obtain ⟨gl, hp, -, -, ⟨d0, d1, d2, d3, d4⟩, f0, f1, f2, f3, f4⟩ := hh.out.b.at (mapTo_at _ hx)
          subst hp
          have HS7 := @hideH _ (hh.out.b.set (k := t) (by rw [mapTo_length, ← HN.out]; exact htl) (markR (-2)))
          have HH := @hideH _ (show mapTo (fun _ => markR (-2)) S (t + 1) = (mapTo (fun _ => markR (-2)) S t).set t (markR (-2)) from mapTo_next _ hx)
          clear hx
          obtain ⟨wz, hwz⟩ : ∃ wx, wx = setRow wr gl (t * 5) (markR (-2)) := ⟨_, rfl⟩
          rw [← hwz] at HS7
          simp only [setRow, markR] at hwz
          have HMN := @hideH _ (hh.out.setB O HS7.out.1 HS7.out.2)
          go_upto_region 15 with fail
          rw [← hwz]
          clear hwz d0 d1 d2 d3 d4 f0 f1 f2 f3 f4
          go_wp2
          go_roundw
          case rel => exact ⟨t + 1, by omega, by go_num, by rw [HH.out]; exact HMN.out⟩
          case measure => simp [intOf]; omega
        · have htl' : ¬ (t : Int) < (n : Int) := by omega
          have HMB := @hideH _ (show Mks Tb w wr (mostOf most) g F S (.slice pw n cw) (.slice pa n ca) (List.replicate n (markR (-1))) (.slice pb n cb) (List.replicate n (markR (-2))) by have q := hh.out; rw [show t = S.length by have := HN.out; omega, mapTo_all, map_rep, ← HN.out] at q; exact q)
          obtain ⟨wB, rfl⟩ : ∃ wx, wx = wr := ⟨_, rfl⟩
          clear hh htl ht
          go_wp2
          go_loopw [12, 13, 14] (fun vc vd vi wr => ∃ k : Nat, k ≤ 40 ∧ vi = .int .i64 k ∧ (∃ p1 c1 p2 c2, vc = .slice p1 (n + k) c1 ∧ vd = .slice p2 (n + k) c2) ∧ Hid (Grs Tb w wr (mostOf most) g F S (.slice pw n cw) (.slice pa n ca) vc (.slice pb n cb) vd n k k)) (fun _ _ vi _ => 40 - (intOf vi).toNat)
          case atStart => exact ⟨0, Nat.zero_le _, rfl, ⟨_, _, _, _, rfl, rfl⟩, Grs.start HMB.out⟩
          case round =>
            clear HMB
            obtain ⟨k, hk, rfl, ⟨p1, c1, p2, c2, rfl, rfl⟩, hh⟩ := hrel
            by_cases hkl : k < 40
            · have hkl' : (k : Int) < (40 : Int) := by omega
              have wk : IntKind.i64.wrap ((k : Int) + 1) = (k : Int) + 1 := wrap_i64_of (by omega) (by omega)
              obtain ⟨xa, hxa⟩ : ∃ wx, wx = wr.alloc (.cells #[.int .i64 0, .int .i64 (-1), .int .i64 0, .int .i64 0, .int .i64 0] 24) := ⟨_, rfl⟩
              have kxa : Kept [] wr xa := by rw [hxa]; exact (Kept.refl [] wr).alloc _
              have hsrc := src_row (P := Try.prog) wr 26 24 Try.underlying26 (markR (-1))
              simp only [RowR.cs, markR] at hsrc
              rw [← hxa] at hsrc
              have HGa := @hideH _ (hh.out.then O kxa)
              have RX := HGa.out.a.row
              unfold Rw at RX
              rw [List.length_replicate] at RX
              have HSX := @hideH _ HGa.out.kept.size
              go_upto_region 23 with (at_builtin; rw [← hxa]; refine wpList_append_row2 rfl (.tmp 65) (.tmp 67) 26 rfl w.heap.size 24 inf (.agg #[.int .i64 0, .int .i64 0, .int .i64 0, .int .i64 0, .int .i64 0]) 5 40 Try.underlying26 HI.out.1 HI.out.2.1 HI.out.2.2.1 HI.out.2.2.2 rfl _ _ _ (by rfl) RX _ 1 _ (by rfl) hsrc (by have e1 := H8.out; have e2 := hk; omega) (by have e1 := H8.out; have e2 := hk; unfold maxLen; omega) (by have e1 := H8.out; have e2 := hk; omega) HSX.out ?_; intro v' ya r8 k8 o8; obtain ⟨p3, c3, hv8, -⟩ := Row.shape r8; subst hv8)
              have HGA := @hideH _ (HGa.out.growA O (show Rw ya w.heap.size (.slice p3 (n + k + 1) c3) (List.replicate (n + (k + 1)) (markR (-1))) by unfold Rw; rw [show n + (k + 1) = n + k + 1 by omega, rep_snoc, List.length_append, List.length_replicate, rcells_snoc]; exact r8) k8 o8)
              clear r8 k8 o8 hsrc RX HSX hxa kxa HGa
              obtain ⟨xb, hxb⟩ : ∃ wx, wx = ya.alloc (.cells #[.int .i64 0, .int .i64 (-2), .int .i64 0, .int .i64 0, .int .i64 0] 24) := ⟨_, rfl⟩
              have kxb : Kept [] ya xb := by rw [hxb]; exact (Kept.refl [] ya).alloc _
              have hsrc := src_row (P := Try.prog) ya 26 24 Try.underlying26 (markR (-2))
              simp only [RowR.cs, markR] at hsrc
              rw [← hxb] at hsrc
              have HGb := @hideH _ (HGA.out.then O kxb)
              have RX := HGb.out.b.row
              unfold Rw at RX
              rw [List.length_replicate] at RX
              have HSX := @hideH _ HGb.out.kept.size
              go_upto_region 21 with (at_builtin; rw [← hxb]; refine wpList_append_row2 rfl (.tmp 69) (.tmp 71) 26 rfl w.heap.size 24 inf (.agg #[.int .i64 0, .int .i64 0, .int .i64 0, .int .i64 0, .int .i64 0]) 5 40 Try.underlying26 HI.out.1 HI.out.2.1 HI.out.2.2.1 HI.out.2.2.2 rfl _ _ _ (by rfl) RX _ 1 _ (by rfl) hsrc (by have e1 := H8.out; have e2 := hk; omega) (by have e1 := H8.out; have e2 := hk; unfold maxLen; omega) (by have e1 := H8.out; have e2 := hk; omega) HSX.out ?_; intro v' yb r8 k8 o8; obtain ⟨p4, c4, hv8, -⟩ := Row.shape r8; subst hv8)
              have HGB := @hideH _ (HGb.out.growB O (show Rw yb w.heap.size (.slice p4 (n + k + 1) c4) (List.replicate (n + (k + 1)) (markR (-2))) by unfold Rw; rw [show n + (k + 1) = n + k + 1 by omega, rep_snoc, List.length_append, List.length_replicate, rcells_snoc]; exact r8) k8 o8)
              clear r8 k8 o8 hsrc RX HSX hxb kxb HGb
              go_wp2
              go_roundw
              case rel => exact ⟨k + 1, by omega, by go_num, ⟨p3, c3, p4, c4, rfl, rfl⟩, HGB.out⟩
              case measure => simp [intOf]; omega
            · have hkl' : ¬ (k : Int) < (40 : Int) := by omega
              have ek : k = 40 := by omega
              subst ek
              obtain ⟨wz, rfl⟩ : ∃ wx, wx = wr := ⟨_, rfl⟩
              have HGZ := hh
              clear hh hkl hk
              go_wp2
              go_loopw [15] (fun vi wr => ∃ t : Nat, t ≤ n + 40 ∧ vi = .int .i64 t ∧ wr = wz) (fun vi _ => n + 40 - (intOf vi).toNat)
              case atStart => exact ⟨0, Nat.zero_le _, rfl, rfl⟩
              case round =>
                obtain ⟨t, ht, rfl, hwr⟩ := hrel
                subst hwr
                by_cases htl : t < n + 40
                · have htl' : (t : Int) < ((n + 40 : Nat) : Int) := by omega
                  have h0 : (0 : Int) ≤ (t : Int) := by omega
                  have wt : IntKind.i64.wrap ((t : Int) + 1) = (t : Int) + 1 := wrap_i64_of (by omega) (by have := H8.out; omega)
                  obtain ⟨g3, e3, -, -, ⟨-, d3, -⟩, -⟩ := HGZ.out.a.row.at (rep_at (x := markR (-1)) htl)
                  obtain ⟨g4, e4, -, -, ⟨-, d4, -⟩, -⟩ := HGZ.out.b.row.at (rep_at (x := markR (-2)) htl)
                  subst e3
                  subst e4
                  simp only [markR] at d3 d4
                  by_cases htn : t < n
                  · have htn' : (t : Int) < (n : Int) := by omega
                    obtain ⟨pq, cq, eq1, om1⟩ := HGZ.out.a.orig
                    obtain ⟨pq2, cq2, eq2, om2⟩ := HGZ.out.b.orig
                    cases eq1
                    cases eq2
                    obtain ⟨ga, ea, da⟩ := om1 t htn
                    obtain ⟨gb, eb, db⟩ := om2 t htn
                    subst ea
                    subst eb
                    clear om1 om2
                    go_wp2
                    go_roundw
                    case rel => exact ⟨t + 1, by omega, by go_num, by first | rfl | trivial⟩
                    case measure => simp [intOf]; omega
                  · have htn' : ¬ (t : Int) < (n : Int) := by omega
                    go_wp2
                    go_roundw
                    case rel => exact ⟨t + 1, by omega, by go_num, by first | rfl | trivial⟩
                    case measure => simp [intOf]; omega
                · have htl' : ¬ (t : Int) < ((n + 40 : Nat) : Int) := by omega
                  have HQ := @hideH _ (O.rows wr HGZ.out.t)
                  go_wp2_with fail
                  refine HQ.out.mono ?_
                  clear HQ
                  rintro e wc ⟨vu, rfl, mu, ku⟩
                  have HGC := @hideH _ (HGZ.out.then O ku)
                  have HQ := @hideH _ (same_eq vu _ S _ _ wc mu HGC.out.r)
                  go_wp2_with fail
                  refine HQ.out.mono ?_
                  clear HQ
                  rintro e wd ⟨rfl, kd⟩
                  have HGD := @hideH _ (HGC.out.then O kd)
                  clear HGC HGZ mu ku kd
                  have hq := O.count wd HGD.out.t
                  rw [← HN.out] at hq
                  have HQ := @hideH _ hq
                  clear hq
                  go_wp2_with fail
                  refine HQ.out.mono ?_
                  clear HQ
                  rintro e we ⟨rfl, ke⟩
                  have KE := @hideH _ (HGD.out.kept.then ke)
                  clear HGD ke
                  go_wp2
                  go_ret
                  exact ⟨by first | rfl | simp, KE.out⟩
end Go.Proofs.Ytbheegphhllogaa

