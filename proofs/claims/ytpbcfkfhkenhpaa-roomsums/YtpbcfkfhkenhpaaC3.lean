import Derived.Deep.CutBlock
import Derived.Test.YtpbcfkfhkenhpaaC2
/-
  OWN WORK (by mkrm9.py). The law: RoomSums.
-/
namespace Go.Proofs.Ytpbcfkfhkenhpaa
open Go.RowKit
set_option linter.unusedVariables false
set_option linter.unusedSimpArgs false

set_option maxRecDepth 20000 in
set_option maxHeartbeats 25600000 in
theorem roomSums_walk {Rm : World → Nat → List Nat → Int → List Tx → Prop} (O : RmOps Rm) (a : Int) (v : Value) (ss : List OpR) (w : World) (ha : I64 a) (hS : Ops w v ss) (hL : ss.length ≤ 4398046511104) : Calls Try.prog 5 #[.int .i64 a, v] w fun e w' => e = .returned (.bool true) ∧ Kept [] w w' := by
  obtain ⟨ps, cs, hv, hml⟩ := hS.shape
  subst hv
  obtain ⟨n, hn⟩ : ∃ n, n = ss.length := ⟨_, rfl⟩
  have HS := @hideH _ hS
  have HN := @hideH _ (show n = ss.length ∧ n ≤ 4398046511104 from ⟨hn, by omega⟩)
  rw [← hn]
  have HA := @hideH _ ha
  clear hS hml hn hL ha
  obtain ⟨infI, hin1, hin2, hin3, hin4⟩ := info_parts3 (show (Try.prog.info? 3).map (fun i => (i.zero, i.size, i.bytes)) = some (some (.int .i64 0), 1, 8) by kernel_rfl)
  have HII := @hideH _ (And.intro hin1 (And.intro hin2 (And.intro hin3 hin4)))
  clear hin1 hin2 hin3 hin4
  go_enter Try.func5, Try.ntmps5
  go_wp2_with fail
  refine (head_any O w).mono ?_
  rintro e w1 ⟨rfl, k1⟩
  go_wp2_with fail
  refine (O.new a w1 HA.out).mono ?_
  rintro e w2 ⟨gP, F, rfl, l2, hF, k2⟩
  have A0 : S0 Rm w w2 gP a 0 F [] (.slice none 0 0) (.slice none 0 0) [] [] := ⟨l2, Ns.nil _ _, Ns.nil _ _, Ap.none rfl, (fun x hx e => by cases e), (fun x hx e => by cases e), fun x hx => Nat.le_trans k1.size (hF x hx), k1.then k2, by simp [szT], fun t ht => by simp at ht⟩
  have HA0 := @hideH _ A0
  clear A0 l2 k1 k2 hF
  go_wp2
  go_loopw [6, 7, 8, 9, 10, 11, 12, 13, 14, 15, 16] (fun v6 v7 v8 v9 v10 v11 v12 v13 v14 v15 v16 wr => ∃ (k : Nat) (pb : Option Addr) (nb cb : Nat) (pk : Option Addr) (nk ck : Nat), k ≤ n ∧ v8 = .int .i64 k ∧ v6 = .slice pb nb cb ∧ v7 = .slice pk nk ck ∧ Hid (∃ F T, nb = T.length ∧ nk = T.length ∧ S0 Rm w wr gP a k F T (.slice pb nb cb) (.slice pk nk ck) (T.map Tx.b) (T.map Tx.sum))) (fun _ _ vi _ _ _ _ _ _ _ _ _ => n - (intOf vi).toNat)
  case atStart => exact ⟨0, none, 0, 0, none, 0, 0, Nat.zero_le _, rfl, rfl, rfl, F, [], rfl, rfl, HA0.out⟩
  case round =>
    clear HA0
    obtain ⟨k, pb, nb, cb, pk, nk, ck, hk, rfl, rfl, rfl, hh⟩ := hrel
    obtain ⟨F, T, hnb, hnk, A⟩ := hh.out
    clear hh
    have HAA := @hideH _ A
    have HNB := @hideH _ (And.intro hnb hnk)
    clear A hnb hnk
    by_cases hkl : k < n
    rotate_left
    · have hkl' : ¬ (k : Int) < (n : Int) := by omega
      go_wp2
      go_ret
      exact ⟨by first | rfl | simp, HAA.out.kp⟩
    have hkl' : (k : Int) < (n : Int) := by omega
    have hk0 : (0 : Int) ≤ (k : Int) := by omega
    have wk : IntKind.i64.wrap ((k : Int) + 1) = (k : Int) + 1 := wrap_i64_of (by omega) (by have := HN.out.2; omega)
    obtain ⟨o, ho⟩ : ∃ o, ss[k]? = some o := ⟨_, List.getElem?_eq_getElem (by have := HN.out.1; omega)⟩
    obtain ⟨sb, so, sc, es, ⟨c0, c1, c2, c3⟩, nn⟩ := HS.out.at ho
    cases es
    have g0 := HAA.out.kp.cell c0 (by simp)
    have g1 := HAA.out.kp.cell c1 (by simp)
    have g2 := HAA.out.kp.cell c2 (by simp)
    have g3 := HAA.out.kp.cell c3 (by simp)
    have HNN := @hideH _ nn
    clear c0 c1 c2 c3 nn ho
    obtain ⟨z2, hz2⟩ : ∃ wx, wx = wr.alloc (.cells #[.int .i64 o.kind, .int .i64 o.birth, .int .i64 o.n, .int .i64 o.m] 35) := ⟨_, rfl⟩
    have kz : Kept [] wr z2 := by rw [hz2]; exact (Kept.refl [] wr).alloc _
    have Z : Blk z2 wr.heap.size 35 o.cs := by rw [hz2]; exact Blk.new wr _ _
    obtain ⟨bx, hbx⟩ : ∃ b, b = wr.heap.size := ⟨_, rfl⟩
    have HBX := @hideH _ (show (∀ x ∈ F, x ≠ bx) ∧ (∀ x, (Value.slice pb nb cb).ownBlock = some x → x ≠ bx) ∧ ∀ x, (Value.slice pk nk ck).ownBlock = some x → x ≠ bx from ⟨fun x hx => by have := O.lt HAA.out.l x hx; omega, fun x hx => by have := (HAA.out.b.lt hx).2; omega, fun x hx => by have := (HAA.out.s.lt hx).2; omega⟩)
    have HAZ := @hideH _ (HAA.out.then O kz)
    rw [← hbx] at Z
    clear kz HAA
    go_upto_region 11 with fail
    rw [← hz2, ← hbx]
    clear hz2 hbx g0 g1 g2 g3
    have d1 := Z.cell (j := 1) rfl
    obtain ⟨E0, hE0⟩ : ∃ E, E = ofT T o.birth := ⟨_, rfl⟩
    have hq := O.of o.birth z2 HAZ.out.l HNN.out.2.1
    rw [← hE0] at hq
    have HQ := @hideH _ hq
    have HE00 := @hideH _ hE0
    clear hq hE0
    go_wp2_with fail
    refine HQ.out.mono ?_
    clear HQ
    rintro e z3 ⟨rfl, k3⟩
    have HA3 := @hideH _ (HAZ.out.then O k3)
    have Z3 := Z.kept k3 (by simp)
    clear k3 HAZ Z d1
    obtain ⟨K0, hK0⟩ : ∃ K, K = keptT T := ⟨_, rfl⟩
    have hq := O.all z3 HA3.out.l
    rw [← hK0] at hq
    have HQ := @hideH _ hq
    have HE0 := @hideH _ (And.intro HE00.out hK0)
    clear hq hK0 HE00
    go_wp2_with fail
    refine HQ.out.mono ?_
    clear HQ
    rintro e z4 ⟨rfl, k4⟩
    have HA4 := @hideH _ (HA3.out.then O k4)
    have Z4 := Z3.kept k4 (by simp)
    clear k4 HA3 Z3
    have d1 := Z4.cell (j := 1) rfl
    have HZ4 := @hideH _ Z4
    clear Z4
    obtain ⟨wo, hwo⟩ : ∃ wo, wo = wr := ⟨_, rfl⟩
    clear hwo
    go_wp2
    go_loopw [12, 13] (fun va vj wq => ∃ (j : Nat) (x : Int), j ≤ nb ∧ va = .int .i64 x ∧ vj = .int .i64 j ∧ Hid (Fnd (T.map Tx.b) o.birth j x ∧ Kept [] z4 wq)) (fun _ vj _ => nb - (intOf vj).toNat)
    case atStart => exact ⟨0, -1, Nat.zero_le _, rfl, rfl, Fnd.start _ _, Kept.refl _ _⟩
    case round =>
      obtain ⟨j, x, hj, rfl, rfl, hh⟩ := hrel
      by_cases hjl : j < nb
      · have hjl' : (j : Int) < (nb : Int) := by omega
        have hj0 : (0 : Int) ≤ (j : Int) := by omega
        have wj : IntKind.i64.wrap ((j : Int) + 1) = (j : Int) + 1 := wrap_i64_of (by omega) (by have e1 := HNB.out.1; have e2 := len_szT T; have e3 := HA4.out.sz; have e4 := HN.out.2; omega)
        obtain ⟨y, hy⟩ : ∃ y, (T.map Tx.b)[j]? = some y := ⟨_, List.getElem?_eq_getElem (by rw [List.length_map, ← HNB.out.1]; exact hjl)⟩
        obtain ⟨gb, hpb, -, -, b0, -⟩ := (HA4.out.b.kept hh.out.2 (by simp)).at hy
        subst hpb
        have d1' := hh.out.2.cell d1 (by simp)
        have HY := @hideH _ hy
        have HH := @hideH _ hh.out
        clear hy hh d1
        by_cases e : y = o.birth
        · have e' : (y == o.birth) = true := by simpa using e
          have HE := @hideH _ e
          clear e
          go_wp2
          go_quiet (fail)
          go_wp2
          go_roundw
          case rel => exact ⟨j + 1, (j : Int), by omega, rfl, by go_num, Fnd.hit (by rw [HY.out, HE.out]), HH.out.2.drewN' _⟩
          case measure => simp [intOf]; omega
        · have e' : (y == o.birth) = false := by simpa using e
          have HE := @hideH _ e
          clear e
          go_wp2
          go_quiet (fail)
          go_wp2
          go_roundw
          case rel => exact ⟨j + 1, x, by omega, rfl, by go_num, HH.out.1.miss HY.out HE.out, HH.out.2.drewN' _⟩
          case measure => simp [intOf]; omega
      have hjl' : ¬ (j : Int) < (nb : Int) := by omega
      have HF := @hideH _ (Fnd.done (O.ok HA4.out.l) (by have q := hh.out.1; rw [show j = T.length by have := HNB.out.1; omega] at q; exact q))
      obtain ⟨w5, hw5⟩ : ∃ w5, w5 = wr := ⟨_, rfl⟩
      have HA5 := @hideH _ (HA4.out.then O hh.out.2)
      have HZ5 := @hideH _ (HZ4.out.kept hh.out.2 (by simp))
      have HLT := @hideH _ (show szT T ≤ k ∧ k < n from ⟨HA4.out.sz, by omega⟩)
      have HOK := @hideH _ (O.ok HA4.out.l)
      clear HA4 HZ4 hh d1 hw5 w5 hjl hj
      have d0 := HZ5.out.cell (j := 0) rfl
      have d1 := HZ5.out.cell (j := 1) rfl
      have d2 := HZ5.out.cell (j := 2) rfl
      go_upto_block 4 with fail
      go_cut [6, 7, 14] (fun s6 s7 s14 wx => ∃ (pb : Option Addr) (nb cb : Nat) (pk : Option Addr) (nk ck : Nat) (E : Int), s6 = .slice pb nb cb ∧ s7 = .slice pk nk ck ∧ s14 = .int .i64 E ∧ Hid (∃ F' T', nb = T'.length ∧ nk = T'.length ∧ S0 Rm w wx gP a (k + 1) F' T' (.slice pb nb cb) (.slice pk nk ck) (T'.map Tx.b) (T'.map Tx.sum) ∧ (E ≠ 0 → T' = T) ∧ Blk wx bx 35 o.cs))
      case first =>
        by_cases q0 : o.kind = 0
        · have q0e : (o.kind == 0) = true := by simpa using q0
          clear q0
          as_aux_lemma =>
            have HQ := @hideH _ (O.beg o.birth wr HA5.out.l HNN.out.2.1 (by have e1 := HA5.out.sz; have e2 := HN.out.2; omega))
            go_wp2_with fail
            refine HQ.out.mono ?_
            clear HQ
            rintro e z6 ⟨F6, rfl, l6, fr6, k6⟩
            have HA6 := @hideH _ (HA5.out.op O l6 fr6 k6 (sz_beg _ _) (bi_beg HA5.out.bi HNN.out.2.1))
            have HZ6 := @hideH _ (HZ5.out.kept k6 (fun hm => HBX.out.1 _ hm rfl))
            clear l6 fr6 k6 HA5 HZ5 d0 d1 d2
            rcases HF.out with ⟨hx, hf⟩ | ⟨i, t, hx, hi, hb, hf⟩
            · subst hx
              have HE := @hideH _ (beg_new hf)
              rw [HE.out.1]
              have hS6 := HA6.out
              rw [HE.out.2] at hS6
              have HS6 := @hideH _ hS6
              clear hS6 HA6 hf
              have d1 := HZ6.out.cell (j := 1) rfl
              have S7 := HS6.out.then O ((Kept.refl [] z6).alloc (.cells #[.int .i64 o.birth] 3))
              have R7 := S7.b
              unfold Ns at R7
              rw [List.length_map, ← HNB.out.1] at R7
              have HS7 := @hideH _ S7
              clear S7
              have hsrc := src_i64 (P := Try.prog) z6 33 3 Try.underlying33 o.birth
              have hlen : nb < 4398046511104 := by have e1 := HNB.out.1; have e2 := len_szT T; have e3 := HN.out.2; have e4 := HLT.out; omega
              have HLN := @hideH _ hlen
              clear hlen
              have hb7 : w.heap.size ≤ (z6.alloc (.cells #[.int .i64 o.birth] 3)).heap.size := HS7.out.kp.size
              go_wp2_with (at_builtin; first | (refine wpList_append_row2 rfl (.tmp 68) (.tmp 71) 33 rfl w.heap.size 3 infI (.int .i64 0) 1 8 Try.underlying33 HII.out.1 HII.out.2.1 HII.out.2.2.1 HII.out.2.2.2 rfl _ _ _ (by rfl) R7 _ 1 _ (by rfl) hsrc (by have e1 := HLN.out; omega) (by have e1 := HLN.out; unfold maxLen; omega) (by have e1 := HLN.out; omega) hb7 ?_; intro v' w8 r8 k8 o8; obtain ⟨p8, c8, hv', -⟩ := Row.shape r8; subst hv'; have S8 := HS7.out.setB O (vb' := .slice p8 (nb + 1) c8) (lb' := T.map Tx.b ++ [o.birth]) (by unfold Ns; rw [List.length_append, List.length_map, ← HNB.out.1, i64s_append]; exact r8) k8 (o8.imp id (fun q y hy => by rw [q.1] at hy; cases hy; exact Nat.le_refl _)); have HZ8 := @hideH _ ((HZ6.out.kept ((Kept.refl [] z6).alloc _) (by simp)).kept k8 (fun hm => HBX.out.2.1 _ (own_mem.1 hm) rfl)); have HS8 := @hideH _ S8; have R9 := (S8.then O ((Kept.refl [] w8).alloc (.cells #[.int .i64 99] 3))).s; unfold Ns at R9; rw [List.length_map, ← HNB.out.2] at R9; have hsrc9 := src_i64 (P := Try.prog) w8 33 3 Try.underlying33 99; have hb9 : w.heap.size ≤ (w8.alloc (.cells #[.int .i64 99] 3)).heap.size := (S8.kp.alloc _).size; clear S8 r8 k8 o8 R7 hsrc hb7) | (refine wpList_append_row2 rfl (.tmp 73) (.tmp 74) 33 rfl w.heap.size 3 infI (.int .i64 0) 1 8 Try.underlying33 HII.out.1 HII.out.2.1 HII.out.2.2.1 HII.out.2.2.2 rfl _ _ _ (by rfl) R9 _ 1 _ (by rfl) hsrc9 (by have e1 := HLN.out; have e2 := HNB.out.1; have e3 := HNB.out.2; omega) (by have e1 := HLN.out; have e2 := HNB.out.1; have e3 := HNB.out.2; unfold maxLen; omega) (by have e1 := HLN.out; have e2 := HNB.out.1; have e3 := HNB.out.2; omega) hb9 ?_; intro v' w10 r10 k10 o10; obtain ⟨p10, c10, hv', -⟩ := Row.shape r10; subst hv'; have S10 := (HS8.out.then O ((Kept.refl [] w8).alloc (.cells #[.int .i64 99] 3))).setK O (vk' := .slice p10 (nk + 1) c10) (lk' := T.map Tx.sum ++ [99]) (by unfold Ns; rw [List.length_append, List.length_map, ← HNB.out.2, i64s_append]; exact r10) k10 (o10.imp id (fun q y hy => by rw [q.1] at hy; cases hy; exact Nat.le_refl _)); have HZ10 := @hideH _ ((HZ8.out.kept ((Kept.refl [] w8).alloc _) (by simp)).kept k10 (fun hm => HBX.out.2.2 _ (own_mem.1 hm) rfl)); have HS10 := @hideH _ S10; clear S10 r10 k10 o10 R9 hsrc9 hb9))
              go_meet
              case rel => exact ⟨p8, nb + 1, c8, p10, nk + 1, c10, 0, rfl, rfl, rfl, F6, T ++ [⟨o.birth, []⟩], by have := HNB.out.1; simp; omega, by have := HNB.out.2; simp; omega, by rw [List.map_append, List.map_append]; exact HS10.out, fun h => absurd rfl h, HZ10.out⟩
            · subst hx
              have h0 : (0 : Int) ≤ (i : Int) := by omega
              have h0' : ¬ (i : Int) < (0 : Int) := by omega
              have HE := @hideH _ (beg_old hf)
              rw [HE.out.1]
              have hS6 := HA6.out
              rw [HE.out.2] at hS6
              have HS6 := @hideH _ hS6
              clear hS6 HA6
              clear hf hi hb
              go_wp2
              go_meet
              case rel => exact ⟨pb, nb, cb, pk, nk, ck, 160, rfl, rfl, rfl, F6, T, by first | exact HNB.out.1 | (have := HNB.out.1; simp; omega), by first | exact HNB.out.2 | (have := HNB.out.2; simp; omega), HS6.out, fun _ => rfl, HZ6.out⟩
        have q0' : (o.kind == 0) = false := by simpa using q0
        by_cases q1 : o.kind = 1
        · have q1e : (o.kind == 1) = true := by simpa using q1
          clear q1 q0
          as_aux_lemma =>
            have HQ := @hideH _ (O.upd o.birth o.n wr HA5.out.l HNN.out.2.1 HNN.out.2.2.1 (by have e1 := HA5.out.sz; have e2 := HN.out.2; omega))
            go_wp2_with fail
            refine HQ.out.mono ?_
            clear HQ
            rintro e z6 ⟨F6, rfl, l6, fr6, k6⟩
            have HA6 := @hideH _ (HA5.out.op O l6 fr6 k6 (sz_upd (O.ok HA5.out.l) _ _) (bi_upd HA5.out.bi HNN.out.2.1))
            have HZ6 := @hideH _ (HZ5.out.kept k6 (fun hm => HBX.out.1 _ hm rfl))
            clear l6 fr6 k6 HA5 HZ5 d0 d1 d2
            have d2 := HZ6.out.cell (j := 2) rfl
            rcases HF.out with ⟨hx, hf⟩ | ⟨i, t, hx, hi, hb, hf⟩
            · subst hx
              have HE := @hideH _ (upd_none (n := o.n) hf)
              rw [HE.out.1]
              have hS6 := HA6.out
              rw [HE.out.2] at hS6
              have HS6 := @hideH _ hS6
              clear hS6 HA6
              clear hf
              go_wp2
              go_meet
              case rel => exact ⟨pb, nb, cb, pk, nk, ck, 160, rfl, rfl, rfl, F6, T, by first | exact HNB.out.1 | (have := HNB.out.1; simp; omega), by first | exact HNB.out.2 | (have := HNB.out.2; simp; omega), HS6.out, fun _ => rfl, HZ6.out⟩
            subst hx
            have h0 : (0 : Int) ≤ (i : Int) := by omega
            have h0' : ¬ (i : Int) < (0 : Int) := by omega
            by_cases hn : isN o.n
            rotate_left
            · skip
              have HE := @hideH _ (upd_range hf hn)
              rw [HE.out.1]
              have hS6 := HA6.out
              rw [HE.out.2] at hS6
              have HS6 := @hideH _ hS6
              clear hS6 HA6
              clear hf hi hb
              by_cases h1 : 1 ≤ o.n
              · have h2 : ¬ o.n ≤ (65535 : Int) := by unfold isN at hn; omega
                clear hn
                go_wp2
                go_meet
                case rel => exact ⟨pb, nb, cb, pk, nk, ck, 30, rfl, rfl, rfl, F6, T, by first | exact HNB.out.1 | (have := HNB.out.1; simp; omega), by first | exact HNB.out.2 | (have := HNB.out.2; simp; omega), HS6.out, fun _ => rfl, HZ6.out⟩
              · clear hn
                go_wp2
                go_meet
                case rel => exact ⟨pb, nb, cb, pk, nk, ck, 30, rfl, rfl, rfl, F6, T, by first | exact HNB.out.1 | (have := HNB.out.1; simp; omega), by first | exact HNB.out.2 | (have := HNB.out.2; simp; omega), HS6.out, fun _ => rfl, HZ6.out⟩
            have HE := @hideH _ (upd_ok hf hn)
            rw [HE.out.1]
            have hS6 := HA6.out
            rw [HE.out.2] at hS6
            clear HA6
            have HA6 := @hideH _ hS6
            clear hS6
            have h1 : 1 ≤ o.n := hn.1
            have h2 : o.n ≤ (65535 : Int) := hn.2
            have HNI := @hideH _ hn
            obtain ⟨gk, hpk, -, -, e0, ef⟩ := HA6.out.s.at (show (T.map Tx.sum)[i]? = some t.sum by rw [List.getElem?_map, hi]; rfl)
            subst hpk
            have hin : (i : Int) < (nk : Int) := by have := (List.getElem?_eq_some_iff.1 hi).1; have := HNB.out.2; omega
            have HV := @hideH _ (show 0 ≤ t.sum ∧ t.sum ≤ 288500000000000000 ∧ 1 ≤ o.n ∧ o.n ≤ 65535 from by have q1 := sum_le HOK.out.rng (List.mem_of_getElem? hi); have q2 := HOK.out.kept; exact ⟨by omega, by omega, h1, h2⟩)
            obtain ⟨sm, hsm⟩ : ∃ s, s = t.sum := ⟨_, rfl⟩
            have v1 : IntKind.i64.wrap (sm + 46) = sm + 46 := by rw [hsm]; have := HV.out; exact wrap_i64_of (by omega) (by omega)
            have v2 : IntKind.i64.wrap (sm + 46 + o.n) = sm + 46 + o.n := by rw [hsm]; have := HV.out; exact wrap_i64_of (by omega) (by omega)
            rw [← hsm] at e0
            have HSM := @hideH _ hsm
            have HI := @hideH _ (And.intro hi (And.intro hb hf))
            clear hsm hi hb hf hn
            go_upto_region 31 with fail
            obtain ⟨w7, hw7⟩ : ∃ wx, wx = z6.drew := ⟨_, rfl⟩
            have k7 : Kept [] z6 w7 := by rw [hw7]; exact (Kept.refl [] z6).drew
            have hS : (fun w' => w'.cell? ⟨gk, i, none⟩ = some (.int .i64 sm) ∧ w'.cell? ⟨bx, 2, none⟩ = some (.int .i64 o.n)) w7 := ⟨k7.cell e0 (by simp), k7.cell d2 (by simp)⟩
            try dsimp only at hS
            have S7 := HA6.out.then O k7
            obtain ⟨gk', hpk, -, -, e7, f7⟩ := S7.s.at (show (T.map Tx.sum)[i]? = some t.sum by rw [List.getElem?_map, HI.out.1]; rfl)
            cases hpk
            rw [← HSM.out] at e7
            have NS := S7.s.set (k := i) (by rw [List.length_map]; exact (List.getElem?_eq_some_iff.1 HI.out.1).1) (sm + 46 + o.n)
            have S8 := S7.setK O NS.1 (NS.2.mono (by simp [Value.ownBlock])) (.inl rfl)
            rw [show (T.map Tx.sum).set i (sm + 46 + o.n) = (setU T o.birth (t.u ++ [o.n])).map Tx.sum from (by rw [← HI.out.2.1, map_setU_s HOK.out HI.out.1, sumU_append, HSM.out]; congr 1; simp only [Tx.sum, sumU]; omega), show T.map Tx.b = (setU T o.birth (t.u ++ [o.n])).map Tx.b from (map_setU_b _ _).symm] at S8
            have HZ8 := @hideH _ ((HZ6.out.kept k7 (by simp)).kept NS.2 (by simp; exact fun e => HBX.out.2.2 gk rfl e.symm))
            have HS8 := @hideH _ S8
            clear NS S7 S8 k7 e0 ef
            refine wp_region_late (fun w' => w'.cell? ⟨gk, i, none⟩ = some (.int .i64 sm) ∧ w'.cell? ⟨bx, 2, none⟩ = some (.int .i64 o.n)) 11 (by kernel_rfl) ?_
            rw [← hw7]
            clear hw7 d2
            refine wpAnyZ_take 0 (v := ?va0_1) rfl (by kernel_rfl) (by kernel_rfl) (by kernel_rfl) (by kernel_rfl) (fun _ _ _ h => h) (by rfl) ?hya0_1 hS ?resta0_1
            case hya0_1 => (intro wx hSx; obtain ⟨s1, s2⟩ := hSx; go_simp; (try with_reducible rfl))
            (try simp only [Act.put, List.getElem_toArray, List.getElem_cons_zero, List.getElem_cons_succ, List.setIfInBounds_toArray, List.set_cons_zero, List.set_cons_succ])
            refine wpAnyZ_take 1 (v := ?va1_2) rfl (by kernel_rfl) (by kernel_rfl) (by kernel_rfl) (by kernel_rfl) (fun _ _ _ h => h) (by rfl) ?hya1_2 hS ?resta1_2
            case hya1_2 => (intro wx hSx; obtain ⟨s1, s2⟩ := hSx; go_simp; (try with_reducible rfl))
            (try simp only [Act.put, List.getElem_toArray, List.getElem_cons_zero, List.getElem_cons_succ, List.setIfInBounds_toArray, List.set_cons_zero, List.set_cons_succ])
            refine wpAnyZ_take 2 (v := ?va2_3) rfl (by kernel_rfl) (by kernel_rfl) (by kernel_rfl) (by kernel_rfl) (fun _ _ _ h => h) (by rfl) ?hya2_3 hS ?resta2_3
            case hya2_3 => (intro wx hSx; obtain ⟨s1, s2⟩ := hSx; go_simp; (try with_reducible rfl))
            (try simp only [Act.put, List.getElem_toArray, List.getElem_cons_zero, List.getElem_cons_succ, List.setIfInBounds_toArray, List.set_cons_zero, List.set_cons_succ])
            refine wpAnyZ_take 3 (v := ?va3_4) rfl (by kernel_rfl) (by kernel_rfl) (by kernel_rfl) (by kernel_rfl) (fun _ _ _ h => h) (by rfl) ?hya3_4 hS ?resta3_4
            case hya3_4 => (intro wx hSx; obtain ⟨s1, s2⟩ := hSx; go_simp; (try with_reducible rfl))
            (try simp only [Act.put, List.getElem_toArray, List.getElem_cons_zero, List.getElem_cons_succ, List.setIfInBounds_toArray, List.set_cons_zero, List.set_cons_succ])
            refine wpAnyZ_take 4 (v := ?va4_5) rfl (by kernel_rfl) (by kernel_rfl) (by kernel_rfl) (by kernel_rfl) (fun _ _ _ h => h) (by rfl) ?hya4_5 hS ?resta4_5
            case hya4_5 => (intro wx hSx; obtain ⟨s1, s2⟩ := hSx; go_simp; (try with_reducible rfl))
            (try simp only [Act.put, List.getElem_toArray, List.getElem_cons_zero, List.getElem_cons_succ, List.setIfInBounds_toArray, List.set_cons_zero, List.set_cons_succ])
            refine wpAnyZ_take 5 (v := ?va5_6) rfl (by kernel_rfl) (by kernel_rfl) (by kernel_rfl) (by kernel_rfl) (fun _ _ _ h => h) (by rfl) ?hya5_6 hS ?resta5_6
            case hya5_6 => (intro wx hSx; obtain ⟨s1, s2⟩ := hSx; go_simp; (try with_reducible rfl))
            (try simp only [Act.put, List.getElem_toArray, List.getElem_cons_zero, List.getElem_cons_succ, List.setIfInBounds_toArray, List.set_cons_zero, List.set_cons_succ])
            refine wpAnyZ_take 6 (v := ?va6_7) rfl (by kernel_rfl) (by kernel_rfl) (by kernel_rfl) (by kernel_rfl) (fun _ _ _ h => h) (by rfl) ?hya6_7 hS ?resta6_7
            case hya6_7 => (intro wx hSx; obtain ⟨s1, s2⟩ := hSx; go_simp; (try with_reducible rfl))
            (try simp only [Act.put, List.getElem_toArray, List.getElem_cons_zero, List.getElem_cons_succ, List.setIfInBounds_toArray, List.set_cons_zero, List.set_cons_succ])
            refine wpAnyZ_take 7 (v := ?va7_8) rfl (by kernel_rfl) (by kernel_rfl) (by kernel_rfl) (by kernel_rfl) (fun _ _ _ h => h) (by rfl) ?hya7_8 hS ?resta7_8
            case hya7_8 => (intro wx hSx; obtain ⟨s1, s2⟩ := hSx; go_simp; (try with_reducible rfl))
            (try simp only [Act.put, List.getElem_toArray, List.getElem_cons_zero, List.getElem_cons_succ, List.setIfInBounds_toArray, List.set_cons_zero, List.set_cons_succ])
            refine wpAnyZ_take 8 (v := ?va8_9) rfl (by kernel_rfl) (by kernel_rfl) (by kernel_rfl) (by kernel_rfl) (fun _ _ _ h => h) (by rfl) ?hya8_9 hS ?resta8_9
            case hya8_9 => (intro wx hSx; obtain ⟨s1, s2⟩ := hSx; go_simp; (try with_reducible rfl))
            (try simp only [Act.put, List.getElem_toArray, List.getElem_cons_zero, List.getElem_cons_succ, List.setIfInBounds_toArray, List.set_cons_zero, List.set_cons_succ])
            refine wpAnyZ_take 9 (v := ?va9_10) rfl (by kernel_rfl) (by kernel_rfl) (by kernel_rfl) (by kernel_rfl) (fun _ _ _ h => h) (by rfl) ?hya9_10 hS ?resta9_10
            case hya9_10 => (intro wx hSx; obtain ⟨s1, s2⟩ := hSx; go_simp; (try with_reducible rfl))
            (try simp only [Act.put, List.getElem_toArray, List.getElem_cons_zero, List.getElem_cons_succ, List.setIfInBounds_toArray, List.set_cons_zero, List.set_cons_succ])
            refine wpAnyZ_one 10 rfl (by kernel_rfl) (fun K hK => ?_)
            go_simp
            refine hK _ _ (fun _ => hS) ?_
            clear hK K
            (try simp only [Act.put, List.getElem_toArray, List.getElem_cons_zero, List.getElem_cons_succ, List.setIfInBounds_toArray, List.set_cons_zero, List.set_cons_succ])
            refine wpAnyZ_one 11 rfl (by kernel_rfl) (fun K hK => ?_)
            go_simp
            refine hK _ _ (fun h => absurd rfl h) ?_
            clear hK K
            (try simp only [Act.put, List.getElem_toArray, List.getElem_cons_zero, List.getElem_cons_succ, List.setIfInBounds_toArray, List.set_cons_zero, List.set_cons_succ])
            refine wpAnyZ_done (by kernel_rfl) ?_ _
            obtain ⟨w8, hw8⟩ : ∃ wx, wx = w7.setCell ⟨gk, i, none⟩ (.int .i64 (sm + 46 + o.n)) := ⟨_, rfl⟩
            rw [← hw8] at HS8 HZ8
            rw [← hw8]
            clear hw8 hS e7 f7
            go_wp2
            go_meet
            case rel => exact ⟨pb, nb, cb, some ⟨gk, 0, none⟩, nk, ck, 0, rfl, rfl, rfl, F6, setU T o.birth (t.u ++ [o.n]), by have := HNB.out.1; simp [setU]; omega, by have := HNB.out.2; simp [setU]; omega, HS8.out, fun h => absurd rfl h, HZ8.out⟩
        have q1' : (o.kind == 1) = false := by simpa using q1
        by_cases q2 : o.kind = 2
        · have q2e : (o.kind == 2) = true := by simpa using q2
          clear q2 q1 q0
          as_aux_lemma =>
            have HQ := @hideH _ (O.und o.birth o.n wr HA5.out.l HNN.out.2.1 HNN.out.2.2.1)
            go_wp2_with fail
            refine HQ.out.mono ?_
            clear HQ
            rintro e z6 ⟨F6, rfl, l6, fr6, k6⟩
            have HA6 := @hideH _ (HA5.out.op O l6 fr6 k6 (sz_und (O.ok HA5.out.l) _ _) (bi_und HA5.out.bi HNN.out.2.1))
            have HZ6 := @hideH _ (HZ5.out.kept k6 (fun hm => HBX.out.1 _ hm rfl))
            clear l6 fr6 k6 HA5 HZ5 d0 d1 d2
            have d2 := HZ6.out.cell (j := 2) rfl
            rcases HF.out with ⟨hx, hf⟩ | ⟨i, t, hx, hi, hb, hf⟩
            · subst hx
              have HE := @hideH _ (und_none (n := o.n) hf)
              rw [HE.out.1]
              have hS6 := HA6.out
              rw [HE.out.2] at hS6
              have HS6 := @hideH _ hS6
              clear hS6 HA6
              clear hf
              go_wp2
              go_quiet (fail)
              have HS7 := @hideH _ (HS6.out.then O ((Kept.refl [] z6).drewN' nq))
              have HZ7 := @hideH _ (HZ6.out.kept ((Kept.refl [] z6).drewN' nq) (by simp))
              go_wp2
              go_meet
              case rel => exact ⟨pb, nb, cb, pk, nk, ck, 160, rfl, rfl, rfl, F6, T, by first | exact HNB.out.1 | (have := HNB.out.1; simp; omega), by first | exact HNB.out.2 | (have := HNB.out.2; simp; omega), HS7.out, fun _ => rfl, HZ7.out⟩
            subst hx
            have h0 : (0 : Int) ≤ (i : Int) := by omega
            have h0' : ¬ (i : Int) < (0 : Int) := by omega
            by_cases hn : o.n ∈ t.u
            rotate_left
            · skip
              have HE := @hideH _ (und_range hf hn)
              rw [HE.out.1]
              have hS6 := HA6.out
              rw [HE.out.2] at hS6
              have HS6 := @hideH _ hS6
              clear hS6 HA6
              clear hf hi hb hn
              go_wp2
              go_quiet (fail)
              have HS7 := @hideH _ (HS6.out.then O ((Kept.refl [] z6).drewN' nq))
              have HZ7 := @hideH _ (HZ6.out.kept ((Kept.refl [] z6).drewN' nq) (by simp))
              go_wp2
              go_meet
              case rel => exact ⟨pb, nb, cb, pk, nk, ck, 30, rfl, rfl, rfl, F6, T, by first | exact HNB.out.1 | (have := HNB.out.1; simp; omega), by first | exact HNB.out.2 | (have := HNB.out.2; simp; omega), HS7.out, fun _ => rfl, HZ7.out⟩
            have HE := @hideH _ (und_ok hf hn)
            rw [HE.out.1]
            have hS6 := HA6.out
            rw [HE.out.2] at hS6
            clear HA6
            have HA6 := @hideH _ hS6
            clear hS6
            have HNI := @hideH _ hn
            obtain ⟨gk, hpk, -, -, e0, ef⟩ := HA6.out.s.at (show (T.map Tx.sum)[i]? = some t.sum by rw [List.getElem?_map, hi]; rfl)
            subst hpk
            have hin : (i : Int) < (nk : Int) := by have := (List.getElem?_eq_some_iff.1 hi).1; have := HNB.out.2; omega
            have HV := @hideH _ (show 0 ≤ t.sum ∧ t.sum ≤ 288500000000000000 ∧ 1 ≤ o.n ∧ o.n ≤ 65535 ∧ 99 ≤ t.sum - 46 - o.n from by have q1 := sum_le HOK.out.rng (List.mem_of_getElem? hi); have q2 := HOK.out.kept; have q3 := HOK.out.rng t (List.mem_of_getElem? hi) o.n hn; have q4 := sumU_erase hn; have q5 := sumU_range (u := t.u.erase o.n) (fun x hx => HOK.out.rng t (List.mem_of_getElem? hi) x (List.mem_of_mem_erase hx)); unfold isN at q3; simp only [Tx.sum] at *; omega)
            obtain ⟨sm, hsm⟩ : ∃ s, s = t.sum := ⟨_, rfl⟩
            have v1 : IntKind.i64.wrap (sm - 46) = sm - 46 := by rw [hsm]; have := HV.out; exact wrap_i64_of (by omega) (by omega)
            have v2 : IntKind.i64.wrap (sm - 46 - o.n) = sm - 46 - o.n := by rw [hsm]; have := HV.out; exact wrap_i64_of (by omega) (by omega)
            rw [← hsm] at e0
            have HSM := @hideH _ hsm
            have HI := @hideH _ (And.intro hi (And.intro hb hf))
            clear hsm hi hb hf hn
            have h99 : ¬ sm - 46 - o.n < (99 : Int) := by rw [HSM.out]; have := HV.out; omega
            go_upto_region 34 with fail
            go_quiet (fail)
            go_upto_region 37 with fail
            obtain ⟨w7, hw7⟩ : ∃ wx, wx = (z6.drewN nq).drew := ⟨_, rfl⟩
            have k7 : Kept [] z6 w7 := by rw [hw7]; exact ((Kept.refl [] z6).drewN' nq).drew
            have hS : (fun w' => w'.cell? ⟨gk, i, none⟩ = some (.int .i64 sm) ∧ w'.cell? ⟨bx, 2, none⟩ = some (.int .i64 o.n)) w7 := ⟨k7.cell e0 (by simp), k7.cell d2 (by simp)⟩
            try dsimp only at hS
            have S7 := HA6.out.then O k7
            obtain ⟨gk', hpk, -, -, e7, f7⟩ := S7.s.at (show (T.map Tx.sum)[i]? = some t.sum by rw [List.getElem?_map, HI.out.1]; rfl)
            cases hpk
            rw [← HSM.out] at e7
            have NS := S7.s.set (k := i) (by rw [List.length_map]; exact (List.getElem?_eq_some_iff.1 HI.out.1).1) (sm - 46 - o.n)
            have S8 := S7.setK O NS.1 (NS.2.mono (by simp [Value.ownBlock])) (.inl rfl)
            rw [show (T.map Tx.sum).set i (sm - 46 - o.n) = (setU T o.birth (t.u.erase o.n)).map Tx.sum from (by rw [← HI.out.2.1, map_setU_s HOK.out HI.out.1, sumU_erase HNI.out, HSM.out]; congr 1; simp only [Tx.sum]; omega), show T.map Tx.b = (setU T o.birth (t.u.erase o.n)).map Tx.b from (map_setU_b _ _).symm] at S8
            have HZ8 := @hideH _ ((HZ6.out.kept k7 (by simp)).kept NS.2 (by simp; exact fun e => HBX.out.2.2 gk rfl e.symm))
            have HS8 := @hideH _ S8
            clear NS S7 S8 k7 e0 ef
            refine wp_region_late (fun w' => w'.cell? ⟨gk, i, none⟩ = some (.int .i64 sm) ∧ w'.cell? ⟨bx, 2, none⟩ = some (.int .i64 o.n)) 11 (by kernel_rfl) ?_
            rw [← hw7]
            clear hw7 d2
            refine wpAnyZ_take 0 (v := ?va0_11) rfl (by kernel_rfl) (by kernel_rfl) (by kernel_rfl) (by kernel_rfl) (fun _ _ _ h => h) (by rfl) ?hya0_11 hS ?resta0_11
            case hya0_11 => (intro wx hSx; obtain ⟨s1, s2⟩ := hSx; go_simp; (try with_reducible rfl))
            (try simp only [Act.put, List.getElem_toArray, List.getElem_cons_zero, List.getElem_cons_succ, List.setIfInBounds_toArray, List.set_cons_zero, List.set_cons_succ])
            refine wpAnyZ_take 1 (v := ?va1_12) rfl (by kernel_rfl) (by kernel_rfl) (by kernel_rfl) (by kernel_rfl) (fun _ _ _ h => h) (by rfl) ?hya1_12 hS ?resta1_12
            case hya1_12 => (intro wx hSx; obtain ⟨s1, s2⟩ := hSx; go_simp; (try with_reducible rfl))
            (try simp only [Act.put, List.getElem_toArray, List.getElem_cons_zero, List.getElem_cons_succ, List.setIfInBounds_toArray, List.set_cons_zero, List.set_cons_succ])
            refine wpAnyZ_take 2 (v := ?va2_13) rfl (by kernel_rfl) (by kernel_rfl) (by kernel_rfl) (by kernel_rfl) (fun _ _ _ h => h) (by rfl) ?hya2_13 hS ?resta2_13
            case hya2_13 => (intro wx hSx; obtain ⟨s1, s2⟩ := hSx; go_simp; (try with_reducible rfl))
            (try simp only [Act.put, List.getElem_toArray, List.getElem_cons_zero, List.getElem_cons_succ, List.setIfInBounds_toArray, List.set_cons_zero, List.set_cons_succ])
            refine wpAnyZ_take 3 (v := ?va3_14) rfl (by kernel_rfl) (by kernel_rfl) (by kernel_rfl) (by kernel_rfl) (fun _ _ _ h => h) (by rfl) ?hya3_14 hS ?resta3_14
            case hya3_14 => (intro wx hSx; obtain ⟨s1, s2⟩ := hSx; go_simp; (try with_reducible rfl))
            (try simp only [Act.put, List.getElem_toArray, List.getElem_cons_zero, List.getElem_cons_succ, List.setIfInBounds_toArray, List.set_cons_zero, List.set_cons_succ])
            refine wpAnyZ_take 4 (v := ?va4_15) rfl (by kernel_rfl) (by kernel_rfl) (by kernel_rfl) (by kernel_rfl) (fun _ _ _ h => h) (by rfl) ?hya4_15 hS ?resta4_15
            case hya4_15 => (intro wx hSx; obtain ⟨s1, s2⟩ := hSx; go_simp; (try with_reducible rfl))
            (try simp only [Act.put, List.getElem_toArray, List.getElem_cons_zero, List.getElem_cons_succ, List.setIfInBounds_toArray, List.set_cons_zero, List.set_cons_succ])
            refine wpAnyZ_take 5 (v := ?va5_16) rfl (by kernel_rfl) (by kernel_rfl) (by kernel_rfl) (by kernel_rfl) (fun _ _ _ h => h) (by rfl) ?hya5_16 hS ?resta5_16
            case hya5_16 => (intro wx hSx; obtain ⟨s1, s2⟩ := hSx; go_simp; (try with_reducible rfl))
            (try simp only [Act.put, List.getElem_toArray, List.getElem_cons_zero, List.getElem_cons_succ, List.setIfInBounds_toArray, List.set_cons_zero, List.set_cons_succ])
            refine wpAnyZ_take 6 (v := ?va6_17) rfl (by kernel_rfl) (by kernel_rfl) (by kernel_rfl) (by kernel_rfl) (fun _ _ _ h => h) (by rfl) ?hya6_17 hS ?resta6_17
            case hya6_17 => (intro wx hSx; obtain ⟨s1, s2⟩ := hSx; go_simp; (try with_reducible rfl))
            (try simp only [Act.put, List.getElem_toArray, List.getElem_cons_zero, List.getElem_cons_succ, List.setIfInBounds_toArray, List.set_cons_zero, List.set_cons_succ])
            refine wpAnyZ_take 7 (v := ?va7_18) rfl (by kernel_rfl) (by kernel_rfl) (by kernel_rfl) (by kernel_rfl) (fun _ _ _ h => h) (by rfl) ?hya7_18 hS ?resta7_18
            case hya7_18 => (intro wx hSx; obtain ⟨s1, s2⟩ := hSx; go_simp; (try with_reducible rfl))
            (try simp only [Act.put, List.getElem_toArray, List.getElem_cons_zero, List.getElem_cons_succ, List.setIfInBounds_toArray, List.set_cons_zero, List.set_cons_succ])
            refine wpAnyZ_take 8 (v := ?va8_19) rfl (by kernel_rfl) (by kernel_rfl) (by kernel_rfl) (by kernel_rfl) (fun _ _ _ h => h) (by rfl) ?hya8_19 hS ?resta8_19
            case hya8_19 => (intro wx hSx; obtain ⟨s1, s2⟩ := hSx; go_simp; (try with_reducible rfl))
            (try simp only [Act.put, List.getElem_toArray, List.getElem_cons_zero, List.getElem_cons_succ, List.setIfInBounds_toArray, List.set_cons_zero, List.set_cons_succ])
            refine wpAnyZ_take 9 (v := ?va9_20) rfl (by kernel_rfl) (by kernel_rfl) (by kernel_rfl) (by kernel_rfl) (fun _ _ _ h => h) (by rfl) ?hya9_20 hS ?resta9_20
            case hya9_20 => (intro wx hSx; obtain ⟨s1, s2⟩ := hSx; go_simp; (try with_reducible rfl))
            (try simp only [Act.put, List.getElem_toArray, List.getElem_cons_zero, List.getElem_cons_succ, List.setIfInBounds_toArray, List.set_cons_zero, List.set_cons_succ])
            refine wpAnyZ_one 10 rfl (by kernel_rfl) (fun K hK => ?_)
            go_simp
            refine hK _ _ (fun _ => hS) ?_
            clear hK K
            (try simp only [Act.put, List.getElem_toArray, List.getElem_cons_zero, List.getElem_cons_succ, List.setIfInBounds_toArray, List.set_cons_zero, List.set_cons_succ])
            refine wpAnyZ_one 11 rfl (by kernel_rfl) (fun K hK => ?_)
            go_simp
            refine hK _ _ (fun h => absurd rfl h) ?_
            clear hK K
            (try simp only [Act.put, List.getElem_toArray, List.getElem_cons_zero, List.getElem_cons_succ, List.setIfInBounds_toArray, List.set_cons_zero, List.set_cons_succ])
            refine wpAnyZ_done (by kernel_rfl) ?_ _
            obtain ⟨w8, hw8⟩ : ∃ wx, wx = w7.setCell ⟨gk, i, none⟩ (.int .i64 (sm - 46 - o.n)) := ⟨_, rfl⟩
            rw [← hw8] at HS8 HZ8
            rw [← hw8]
            clear hw8 hS e7 f7
            go_wp2
            go_meet
            case rel => exact ⟨pb, nb, cb, some ⟨gk, 0, none⟩, nk, ck, 0, rfl, rfl, rfl, F6, setU T o.birth (t.u.erase o.n), by have := HNB.out.1; simp [setU]; omega, by have := HNB.out.2; simp [setU]; omega, HS8.out, fun h => absurd rfl h, HZ8.out⟩
        have q2' : (o.kind == 2) = false := by simpa using q2
        by_cases q3 : o.kind = 3
        · have q3e : (o.kind == 3) = true := by simpa using q3
          clear q3 q2 q1 q0
          as_aux_lemma =>
            have HQ := @hideH _ (O.drp o.birth wr HA5.out.l HNN.out.2.1)
            go_wp2_with fail
            refine HQ.out.mono ?_
            clear HQ
            rintro e z6 ⟨F6, rfl, l6, fr6, k6⟩
            have HA6 := @hideH _ (HA5.out.op O l6 fr6 k6 (sz_drp (O.ok HA5.out.l) _) (bi_drp HA5.out.bi))
            have HZ6 := @hideH _ (HZ5.out.kept k6 (fun hm => HBX.out.1 _ hm rfl))
            clear l6 fr6 k6 HA5 HZ5 d0 d1 d2
            rcases HF.out with ⟨hx, hf⟩ | ⟨i, t, hx, hi, hb, hf⟩
            · subst hx
              have HE := @hideH _ (drp_none hf)
              rw [HE.out.1]
              have hS6 := HA6.out
              rw [HE.out.2] at hS6
              have HS6 := @hideH _ hS6
              clear hS6 HA6
              clear hf
              go_wp2
              go_meet
              case rel => exact ⟨pb, nb, cb, pk, nk, ck, 160, rfl, rfl, rfl, F6, T, by first | exact HNB.out.1 | (have := HNB.out.1; simp; omega), by first | exact HNB.out.2 | (have := HNB.out.2; simp; omega), HS6.out, fun _ => rfl, HZ6.out⟩
            subst hx
            have h0 : (0 : Int) ≤ (i : Int) := by omega
            have h0' : ¬ (i : Int) < (0 : Int) := by omega
            have HE := @hideH _ (drp_ok hf)
            rw [HE.out.1]
            have hS6 := HA6.out
            rw [HE.out.2] at hS6
            clear HA6
            have HA6 := @hideH _ hS6
            clear hS6
            have hil := (List.getElem?_eq_some_iff.1 hi).1
            obtain ⟨gb, hpb, -, -, -, -⟩ := HA6.out.b.at (show (T.map Tx.b)[i]? = some t.b by rw [List.getElem?_map, hi]; rfl)
            subst hpb
            obtain ⟨gk, hpk, -, -, -, -⟩ := HA6.out.s.at (show (T.map Tx.sum)[i]? = some t.sum by rw [List.getElem?_map, hi]; rfl)
            subst hpk
            have hin : (i : Int) < (nb : Int) := by have := HNB.out.1; omega
            have wi : IntKind.i64.wrap ((i : Int) + 1) = (i : Int) + 1 := wrap_i64_of (by omega) (by have e1 := len_szT T; have e2 := HLT.out; have e3 := HN.out.2; omega)
            have HIL := @hideH _ (show i < nb ∧ i < nk ∧ nb < 4398046511104 ∧ nk < 4398046511104 from ⟨by have := HNB.out.1; omega, by have := HNB.out.2; omega, by have e1 := len_szT T; have e2 := HLT.out; have e3 := HN.out.2; have := HNB.out.1; omega, by have e1 := len_szT T; have e2 := HLT.out; have e3 := HN.out.2; have := HNB.out.2; omega⟩)
            have HI := @hideH _ (And.intro hi hb)
            clear hi hb hf hil
            obtain ⟨w7, hw7⟩ : ∃ wx, wx = z6.drew := ⟨_, rfl⟩
            have k7 : Kept [] z6 w7 := by rw [hw7]; exact (Kept.refl [] z6).drew
            have S7 := HA6.out.then O k7
            have HZ7 := @hideH _ (HZ6.out.kept k7 (by simp))
            have RB := S7.b
            unfold Ns at RB
            rw [List.length_map, ← HNB.out.1] at RB
            have hccB : nb ≤ cb := by obtain ⟨p', c', e', h3, -⟩ := Row.shape RB; cases e'; exact h3
            have cut1B := fun (u : World) => run_cut_to_sz (P := Try.prog) u 33 3 1 Try.underlying33 (by kernel_rfl) (some ⟨gb, 0, none⟩) nb cb i (by have := HIL.out; omega)
            obtain ⟨saB, hsaB⟩ : ∃ sa, sa = (if cb = i + 1 then some (⟨gb, 0, none⟩ : Addr) else Option.map (fun x : Addr => x.add ((i + 1) * 1)) (some ⟨gb, 0, none⟩)) := ⟨_, rfl⟩
            have cut2B : ∀ u : World, (Instr.slice 33 (.slice (some ⟨gb, 0, none⟩) nb cb) (some (.int .i64 ((i : Int) + 1))) none none).run Try.prog u = .ok (.slice saB (nb - (i + 1)) (cb - (i + 1))) u := fun u => by have q := run_cut_from_sz (P := Try.prog) u 33 3 1 Try.underlying33 (by kernel_rfl) (some ⟨gb, 0, none⟩) nb cb (i + 1) (by have := HIL.out; omega); rw [← hsaB] at q; exact q
            have HCB := @hideH _ hsaB
            clear hsaB hccB
            have RK := S7.s
            unfold Ns at RK
            rw [List.length_map, ← HNB.out.2] at RK
            have hccK : nk ≤ ck := by obtain ⟨p', c', e', h3, -⟩ := Row.shape RK; cases e'; exact h3
            have cut1K := fun (u : World) => run_cut_to_sz (P := Try.prog) u 33 3 1 Try.underlying33 (by kernel_rfl) (some ⟨gk, 0, none⟩) nk ck i (by have := HIL.out; omega)
            obtain ⟨saK, hsaK⟩ : ∃ sa, sa = (if ck = i + 1 then some (⟨gk, 0, none⟩ : Addr) else Option.map (fun x : Addr => x.add ((i + 1) * 1)) (some ⟨gk, 0, none⟩)) := ⟨_, rfl⟩
            have cut2K : ∀ u : World, (Instr.slice 33 (.slice (some ⟨gk, 0, none⟩) nk ck) (some (.int .i64 ((i : Int) + 1))) none none).run Try.prog u = .ok (.slice saK (nk - (i + 1)) (ck - (i + 1))) u := fun u => by have q := run_cut_from_sz (P := Try.prog) u 33 3 1 Try.underlying33 (by kernel_rfl) (some ⟨gk, 0, none⟩) nk ck (i + 1) (by have := HIL.out; omega); rw [← hsaK] at q; exact q
            have HCK := @hideH _ hsaK
            clear hsaK hccK
            have f7 := RB.fronts i (by have := HIL.out; omega) (by have := HIL.out; omega)
            obtain ⟨gb', e', -, -, hcB, -⟩ := RB.pos (by have := HIL.out; omega)
            cases e'
            have src7 := Row.rest (P := Try.prog) (w' := w7) Try.underlying33 RB hcB (i + 1) (by have := HIL.out; omega) saB HCB.out
            have HS7 := @hideH _ S7
            have hb7 := S7.kp.size
            clear RK RB hcB S7 k7
            have hT : (fun _ : World => True) w7 := trivial
            go_upto_region 43 with fail
            refine wp_region_late (fun _ => True) 17 (by kernel_rfl) ?_
            rw [← hw7]
            clear hw7
            refine wpAnyZ_take 0 (v := ?va0_21) rfl (by kernel_rfl) (by kernel_rfl) (by kernel_rfl) (by kernel_rfl) (fun _ _ _ h => h) (by rfl) ?hya0_21 trivial ?resta0_21
            case hya0_21 => (intro wx hSx; obtain ⟨⟩ := hSx; go_simp; (try with_reducible rfl))
            (try simp only [Act.put, List.getElem_toArray, List.getElem_cons_zero, List.getElem_cons_succ, List.setIfInBounds_toArray, List.set_cons_zero, List.set_cons_succ])
            refine wpAnyZ_take 1 (v := ?va1_22) rfl (by kernel_rfl) (by kernel_rfl) (by kernel_rfl) (by kernel_rfl) (fun _ _ _ h => h) (by rfl) ?hya1_22 trivial ?resta1_22
            case hya1_22 => (intro wx hSx; obtain ⟨⟩ := hSx; go_simp; (try with_reducible rfl))
            (try simp only [Act.put, List.getElem_toArray, List.getElem_cons_zero, List.getElem_cons_succ, List.setIfInBounds_toArray, List.set_cons_zero, List.set_cons_succ])
            refine wpAnyZ_take 2 (v := ?va2_23) rfl (by kernel_rfl) (by kernel_rfl) (by kernel_rfl) (by kernel_rfl) (fun _ _ _ h => h) (by rfl) ?hya2_23 trivial ?resta2_23
            case hya2_23 => (intro wx hSx; obtain ⟨⟩ := hSx; go_simp; (try with_reducible rfl))
            (try simp only [Act.put, List.getElem_toArray, List.getElem_cons_zero, List.getElem_cons_succ, List.setIfInBounds_toArray, List.set_cons_zero, List.set_cons_succ])
            refine wpAnyZ_take 3 (v := ?va3_24) rfl (by kernel_rfl) (by kernel_rfl) (by kernel_rfl) (by kernel_rfl) (fun _ _ _ h => h) (by rfl) ?hya3_24 trivial ?resta3_24
            case hya3_24 => (intro wx hSx; obtain ⟨⟩ := hSx; go_simp; (try with_reducible rfl))
            (try simp only [Act.put, List.getElem_toArray, List.getElem_cons_zero, List.getElem_cons_succ, List.setIfInBounds_toArray, List.set_cons_zero, List.set_cons_succ])
            refine wpAnyZ_take 4 (v := ?va4_25) rfl (by kernel_rfl) (by kernel_rfl) (by kernel_rfl) (by kernel_rfl) (fun _ _ _ h => h) (by rfl) ?hya4_25 trivial ?resta4_25
            case hya4_25 => (intro wx hSx; obtain ⟨⟩ := hSx; go_simp; (try with_reducible rfl))
            (try simp only [Act.put, List.getElem_toArray, List.getElem_cons_zero, List.getElem_cons_succ, List.setIfInBounds_toArray, List.set_cons_zero, List.set_cons_succ])
            refine wpAnyZ_take 5 (v := ?va5_26) rfl (by kernel_rfl) (by kernel_rfl) (by kernel_rfl) (by kernel_rfl) (fun _ _ _ h => h) (by rfl) ?hya5_26 trivial ?resta5_26
            case hya5_26 => (intro wx hSx; obtain ⟨⟩ := hSx; go_simp; (try with_reducible rfl))
            (try simp only [Act.put, List.getElem_toArray, List.getElem_cons_zero, List.getElem_cons_succ, List.setIfInBounds_toArray, List.set_cons_zero, List.set_cons_succ])
            refine wpAnyZ_take 6 (v := ?va6_27) rfl (by kernel_rfl) (by kernel_rfl) (by kernel_rfl) (by kernel_rfl) (fun _ _ _ h => h) (by rfl) ?hya6_27 trivial ?resta6_27
            case hya6_27 => (intro wx hSx; obtain ⟨⟩ := hSx; go_simp; (try with_reducible rfl))
            (try simp only [Act.put, List.getElem_toArray, List.getElem_cons_zero, List.getElem_cons_succ, List.setIfInBounds_toArray, List.set_cons_zero, List.set_cons_succ])
            refine wpAnyZ_take 8 (v := ?va8_28) rfl (by kernel_rfl) (by kernel_rfl) (by kernel_rfl) (by kernel_rfl) (fun _ _ _ h => h) (by rfl) ?hya8_28 trivial ?resta8_28
            case hya8_28 => (intro wx hSx; obtain ⟨⟩ := hSx; go_simp; (try with_reducible rfl))
            (try simp only [Act.put, List.getElem_toArray, List.getElem_cons_zero, List.getElem_cons_succ, List.setIfInBounds_toArray, List.set_cons_zero, List.set_cons_succ])
            refine wpAnyZ_take 9 (v := ?va9_29) rfl (by kernel_rfl) (by kernel_rfl) (by kernel_rfl) (by kernel_rfl) (fun _ _ _ h => h) (by rfl) ?hya9_29 trivial ?resta9_29
            case hya9_29 => (intro wx hSx; obtain ⟨⟩ := hSx; go_simp; (try with_reducible rfl))
            (try simp only [Act.put, List.getElem_toArray, List.getElem_cons_zero, List.getElem_cons_succ, List.setIfInBounds_toArray, List.set_cons_zero, List.set_cons_succ])
            refine wpAnyZ_take 10 (v := ?va10_30) rfl (by kernel_rfl) (by kernel_rfl) (by kernel_rfl) (by kernel_rfl) (fun _ _ _ h => h) (by rfl) ?hya10_30 trivial ?resta10_30
            case hya10_30 => (intro wx hSx; obtain ⟨⟩ := hSx; go_simp; (try with_reducible rfl))
            (try simp only [Act.put, List.getElem_toArray, List.getElem_cons_zero, List.getElem_cons_succ, List.setIfInBounds_toArray, List.set_cons_zero, List.set_cons_succ])
            refine wpAnyZ_take 11 (v := ?va11_31) rfl (by kernel_rfl) (by kernel_rfl) (by kernel_rfl) (by kernel_rfl) (fun _ _ _ h => h) (by rfl) ?hya11_31 trivial ?resta11_31
            case hya11_31 => (intro wx hSx; obtain ⟨⟩ := hSx; go_simp; (try with_reducible rfl))
            (try simp only [Act.put, List.getElem_toArray, List.getElem_cons_zero, List.getElem_cons_succ, List.setIfInBounds_toArray, List.set_cons_zero, List.set_cons_succ])
            refine wpAnyZ_take 12 (v := ?va12_32) rfl (by kernel_rfl) (by kernel_rfl) (by kernel_rfl) (by kernel_rfl) (fun _ _ _ h => h) (by rfl) ?hya12_32 trivial ?resta12_32
            case hya12_32 => (intro wx hSx; obtain ⟨⟩ := hSx; go_simp; (try with_reducible rfl))
            (try simp only [Act.put, List.getElem_toArray, List.getElem_cons_zero, List.getElem_cons_succ, List.setIfInBounds_toArray, List.set_cons_zero, List.set_cons_succ])
            refine wpAnyZ_take 13 (v := ?va13_33) rfl (by kernel_rfl) (by kernel_rfl) (by kernel_rfl) (by kernel_rfl) (fun _ _ _ h => h) (by rfl) ?hya13_33 trivial ?resta13_33
            case hya13_33 => (intro wx hSx; obtain ⟨⟩ := hSx; go_simp; (try with_reducible rfl))
            (try simp only [Act.put, List.getElem_toArray, List.getElem_cons_zero, List.getElem_cons_succ, List.setIfInBounds_toArray, List.set_cons_zero, List.set_cons_succ])
            refine wpAnyZ_take 14 (v := ?va14_34) rfl (by kernel_rfl) (by kernel_rfl) (by kernel_rfl) (by kernel_rfl) (fun _ _ _ h => h) (by rfl) ?hya14_34 trivial ?resta14_34
            case hya14_34 => (intro wx hSx; obtain ⟨⟩ := hSx; go_simp; (try with_reducible rfl))
            (try simp only [Act.put, List.getElem_toArray, List.getElem_cons_zero, List.getElem_cons_succ, List.setIfInBounds_toArray, List.set_cons_zero, List.set_cons_succ])
            refine wpAnyZ_one 7 rfl (by kernel_rfl) (fun K hK => ?_)
            refine step_append_row2 rfl (.tmp 165) (.tmp 169) 33 rfl w.heap.size 3 infI (.int .i64 0) 1 8 Try.underlying33 HII.out.1 HII.out.2.1 HII.out.2.2.1 HII.out.2.2.2 rfl _ i ((i64s (T.map Tx.b)).take (i * 1)) (by rfl) f7 _ (nb - (i + 1)) ((i64s (T.map Tx.b)).drop ((i + 1) * 1)) (by rfl) src7 (by have e1 := HIL.out; omega) (by have e1 := HIL.out; unfold maxLen; omega) (by have e1 := HIL.out; omega) hb7 ?_
            intro v' w8 r8 k8 o8
            obtain ⟨p8, c8, hv', -⟩ := Row.shape r8
            subst hv'
            have S8 := HS7.out.setB O (vb' := .slice p8 (i + (nb - (i + 1))) c8) (lb' := (T.map Tx.b).take i ++ (T.map Tx.b).drop (i + 1)) (by unfold Ns; rw [i64s_append, ← i64s_take, ← i64s_drop, List.length_append, List.length_take, List.length_drop, List.length_map, ← HNB.out.1, show min i nb + (nb - (i + 1)) = i + (nb - (i + 1)) by have := HIL.out; omega]; simpa using r8) k8 (o8.imp id (fun q y hy => by rw [q.1] at hy; cases hy; exact Nat.le_refl _))
            have HZ8 := @hideH _ (HZ7.out.kept k8 (fun hm => HBX.out.2.1 _ (own_mem.1 hm) rfl))
            have R9 := S8.s
            unfold Ns at R9
            rw [List.length_map, ← HNB.out.2] at R9
            have f9 := R9.fronts i (by have := HIL.out; omega) (by have := HIL.out; omega)
            obtain ⟨gk', e', -, -, hcK, -⟩ := R9.pos (by have := HIL.out; omega)
            cases e'
            have src9 := Row.rest (P := Try.prog) (w' := w8) Try.underlying33 R9 hcK (i + 1) (by have := HIL.out; omega) saK HCK.out
            have hb9 := S8.kp.size
            have HS8 := @hideH _ S8
            clear S8 r8 k8 o8 f7 src7 hb7 R9 hcK
            refine hK _ _ (fun _ => trivial) ?_
            clear hK K
            (try simp only [Act.put, List.getElem_toArray, List.getElem_cons_zero, List.getElem_cons_succ, List.setIfInBounds_toArray, List.set_cons_zero, List.set_cons_succ])
            refine wpAnyZ_one 15 rfl (by kernel_rfl) (fun K hK => ?_)
            refine step_append_row2 rfl (.tmp 173) (.tmp 177) 33 rfl w.heap.size 3 infI (.int .i64 0) 1 8 Try.underlying33 HII.out.1 HII.out.2.1 HII.out.2.2.1 HII.out.2.2.2 rfl _ i ((i64s (T.map Tx.sum)).take (i * 1)) (by rfl) f9 _ (nk - (i + 1)) ((i64s (T.map Tx.sum)).drop ((i + 1) * 1)) (by rfl) src9 (by have e1 := HIL.out; omega) (by have e1 := HIL.out; unfold maxLen; omega) (by have e1 := HIL.out; omega) hb9 ?_
            intro v' w10 r10 k10 o10
            obtain ⟨p10, c10, hv', -⟩ := Row.shape r10
            subst hv'
            have S10 := HS8.out.setK O (vk' := .slice p10 (i + (nk - (i + 1))) c10) (lk' := (T.map Tx.sum).take i ++ (T.map Tx.sum).drop (i + 1)) (by unfold Ns; rw [i64s_append, ← i64s_take, ← i64s_drop, List.length_append, List.length_take, List.length_drop, List.length_map, ← HNB.out.2, show min i nk + (nk - (i + 1)) = i + (nk - (i + 1)) by have := HIL.out; omega]; simpa using r10) k10 (o10.imp id (fun q y hy => by rw [q.1] at hy; cases hy; exact Nat.le_refl _))
            have HZ10 := @hideH _ (HZ8.out.kept k10 (fun hm => HBX.out.2.2 _ (own_mem.1 hm) rfl))
            rw [← map_drop HOK.out HI.out.1, ← map_drop HOK.out HI.out.1, HI.out.2] at S10
            have HS10 := @hideH _ S10
            have HDL := @hideH _ (show (dropL T o.birth).length = i + (nb - (i + 1)) ∧ (dropL T o.birth).length = i + (nk - (i + 1)) by rw [← HI.out.2, dropL_at HOK.out.dif HI.out.1, List.length_append, List.length_take, List.length_drop]; have e1 := HNB.out; have e2 := HIL.out; omega)
            clear S10 r10 k10 o10 f9 src9 hb9 cut1B cut2B cut1K cut2K
            refine hK _ _ (fun _ => trivial) ?_
            clear hK K
            (try simp only [Act.put, List.getElem_toArray, List.getElem_cons_zero, List.getElem_cons_succ, List.setIfInBounds_toArray, List.set_cons_zero, List.set_cons_succ])
            refine wpAnyZ_one 16 rfl (by kernel_rfl) (fun K hK => ?_)
            go_simp
            refine hK _ _ (fun _ => trivial) ?_
            clear hK K
            (try simp only [Act.put, List.getElem_toArray, List.getElem_cons_zero, List.getElem_cons_succ, List.setIfInBounds_toArray, List.set_cons_zero, List.set_cons_succ])
            refine wpAnyZ_one 17 rfl (by kernel_rfl) (fun K hK => ?_)
            go_simp
            refine hK _ _ (fun h => absurd rfl h) ?_
            clear hK K
            (try simp only [Act.put, List.getElem_toArray, List.getElem_cons_zero, List.getElem_cons_succ, List.setIfInBounds_toArray, List.set_cons_zero, List.set_cons_succ])
            refine wpAnyZ_done (by kernel_rfl) ?_ _
            go_wp2
            go_meet
            case rel => exact ⟨p8, i + (nb - (i + 1)), c8, p10, i + (nk - (i + 1)), c10, 0, rfl, rfl, rfl, F6, dropL T o.birth, HDL.out.1.symm, HDL.out.2.symm, HS10.out, fun h => absurd rfl h, HZ10.out⟩
        have q3' : (o.kind == 3) = false := by simpa using q3
        clear q0 q1 q2 q3
        go_wp2
        go_meet
        case rel => exact ⟨pb, nb, cb, pk, nk, ck, 0, rfl, rfl, rfl, F, T, by first | exact HNB.out.1 | (have := HNB.out.1; simp; omega), by first | exact HNB.out.2 | (have := HNB.out.2; simp; omega), (show S0 Rm w wr gP a (k + 1) F T (.slice pb nb cb) (.slice pk nk ck) (T.map Tx.b) (T.map Tx.sum) from ⟨HA5.out.l, HA5.out.b, HA5.out.s, HA5.out.ap, HA5.out.fb, HA5.out.fk, HA5.out.lo, HA5.out.kp, Nat.le_succ_of_le HA5.out.sz, HA5.out.bi⟩), fun h => absurd rfl h, HZ5.out⟩
      case rest =>
        as_aux_lemma =>
          obtain ⟨pb', nb', cb', pk', nk', ck', E, hs1, hs2, hs3, hh⟩ := hcut
          subst hs1 hs2 hs3
          obtain ⟨F', T', hn1, hn2, A, hET, Z⟩ := hh.out
          clear hh
          have HA6 := @hideH _ A
          have HNB' := @hideH _ (And.intro hn1 hn2)
          have HET := @hideH _ hET
          have d1 := Z.cell (j := 1) rfl
          clear A hn1 hn2 hET Z HA5 HZ5 HNB HBX HF d0 d2
          skip
          have HLN := @hideH _ (show T'.length ≤ k + 1 from Nat.le_trans (len_szT T') HA6.out.sz)
          go_upto_region 44 with fail
          by_cases hE : E = 0
          · subst hE
            go_wp2
            go_loopw [15, 16] (fun vs vj wq => ∃ j : Nat, j ≤ nb' ∧ vj = .int .i64 j ∧ vs = .int .i64 (keptT (T'.take j)) ∧ Hid (S0 Rm w wq gP a (k + 1) F' T' (.slice pb' nb' cb') (.slice pk' nk' ck') (T'.map Tx.b) (T'.map Tx.sum))) (fun _ vj _ => nb' - (intOf vj).toNat)
            case atStart => exact ⟨0, Nat.zero_le _, rfl, rfl, HA6.out⟩
            case round =>
              obtain ⟨j, hj, rfl, rfl, hh⟩ := hrel
              have HA7 := @hideH _ hh.out
              clear hh HA6
              by_cases hjl : j < nb'
              · have hjl' : (j : Int) < (nb' : Int) := by omega
                have hj0 : (0 : Int) ≤ (j : Int) := by omega
                have hjk : (j : Int) < (nk' : Int) := by have := HNB'.out; omega
                have wj : IntKind.i64.wrap ((j : Int) + 1) = (j : Int) + 1 := wrap_i64_of (by omega) (by have e1 := HNB'.out.1; have e2 := HLN.out; have e4 := HN.out.2; omega)
                obtain ⟨t, ht⟩ : ∃ t, T'[j]? = some t := ⟨_, List.getElem?_eq_getElem (by have := HNB'.out.1; omega)⟩
                obtain ⟨gb, hpb, -, -, b0, -⟩ := HA7.out.b.at (show (T'.map Tx.b)[j]? = some t.b by rw [List.getElem?_map, ht]; rfl)
                subst hpb
                obtain ⟨gk, hpk, -, -, s0, -⟩ := HA7.out.s.at (show (T'.map Tx.sum)[j]? = some t.sum by rw [List.getElem?_map, ht]; rfl)
                subst hpk
                have hfd := (O.ok HA7.out.l).find ht
                have htk := (O.ok HA7.out.l).takes (j + 1)
                have htk0 := (O.ok HA7.out.l).takes j
                obtain ⟨sm, hsm⟩ : ∃ s, s = t.sum := ⟨_, rfl⟩
                obtain ⟨s1, hs1⟩ : ∃ s, s = keptT (T'.take j) := ⟨_, rfl⟩
                have ws : IntKind.i64.wrap (s1 + sm) = s1 + sm := wrap_i64_of (by rw [hs1, hsm]; omega) (by rw [hs1, hsm]; omega)
                have HNX := @hideH _ (show keptT (T'.take (j + 1)) = s1 + sm by rw [hfd.2, hs1, hsm])
                have HBI := @hideH _ (HA7.out.bi t (List.mem_of_getElem? ht))
                have HQ := @hideH _ (fun w6 (h : Rm w6 gP F' a T') (hb : I64 t.b) => O.of t.b w6 h hb)
                rw [hfd.1, ← hsm] at HQ
                rw [← hsm] at s0
                rw [← hs1]
                clear hfd htk htk0 hsm hs1
                have AX := HA7.out.then O (Kept.refl [] wr).drew
                have kx : Kept [] wr wr.drew := (Kept.refl [] wr).drew
                go_upto_region 50 with fail
                go_region_held3 (fun w' => w'.cell? ⟨gb, j, none⟩ = some (.int .i64 t.b) ∧ w'.cell? ⟨gk, j, none⟩ = some (.int .i64 sm))
                  (first
                    | (exact ⟨kx.cell b0 (by simp), kx.cell s0 (by simp)⟩)
                    | fail)
                  (first
                    | (go_at_call 15; refine (HQ.out _ AX.l HBI.out).mono ?_; rintro e w6 ⟨rfl, k6⟩; replace kx := kx.then k6; replace AX := AX.then O k6; clear k6)
                    | fail)
                have HAX := @hideH _ AX
                have s0' := kx.cell s0 (by simp)
                clear AX kx HQ b0 s0 HA7
                go_wp2
                go_roundw
                case rel => exact ⟨j + 1, by omega, by go_num, by rw [HNX.out], HAX.out⟩
                case measure => simp [intOf]; omega
              · have hjl' : ¬ (j : Int) < (nb' : Int) := by omega
                have HJ := @hideH _ (show T'.take j = T' from List.take_of_length_le (by have := HNB'.out.1; omega))
                obtain ⟨K1, hK1⟩ : ∃ K, K = keptT T' := ⟨_, rfl⟩
                have HQ := @hideH _ (O.all _ HA7.out.l)
                rw [← hK1] at HQ
                rw [HJ.out, ← hK1]
                clear hK1
                go_wp2_with fail
                refine HQ.out.mono ?_
                clear HQ
                rintro e w9 ⟨rfl, k9⟩
                have HA9 := @hideH _ (HA7.out.then O k9)
                clear k9 HA7
                go_wp2
                go_roundw
                case rel => exact ⟨k + 1, pb', nb', cb', pk', nk', ck', by omega, by go_num, rfl, rfl, F', T', HNB'.out.1, HNB'.out.2, HA9.out⟩
                case measure => simp [intOf]; omega
          · have hE' : (E != 0) = true := by simpa using hE
            have HTT := @hideH _ (HET.out hE)
            clear hE
            have HQ := @hideH _ (O.of o.birth _ HA6.out.l HNN.out.2.1)
            rw [HTT.out, ← HE0.out.1] at HQ
            go_wp2_with fail
            refine HQ.out.mono ?_
            clear HQ
            rintro e y1 ⟨rfl, k6⟩
            have HA7 := @hideH _ (HA6.out.then O k6)
            clear k6 HA6 d1
            have HQ := @hideH _ (O.all _ HA7.out.l)
            rw [HTT.out, ← HE0.out.2] at HQ
            go_wp2_with fail
            refine HQ.out.mono ?_
            clear HQ
            rintro e y2 ⟨rfl, k6⟩
            have HA6 := @hideH _ (HA7.out.then O k6)
            clear k6 HA7
            go_wp2
            go_loopw [15, 16] (fun vs vj wq => ∃ j : Nat, j ≤ nb' ∧ vj = .int .i64 j ∧ vs = .int .i64 (keptT (T'.take j)) ∧ Hid (S0 Rm w wq gP a (k + 1) F' T' (.slice pb' nb' cb') (.slice pk' nk' ck') (T'.map Tx.b) (T'.map Tx.sum))) (fun _ vj _ => nb' - (intOf vj).toNat)
            case atStart => exact ⟨0, Nat.zero_le _, rfl, rfl, HA6.out⟩
            case round =>
              obtain ⟨j, hj, rfl, rfl, hh⟩ := hrel
              have HA7 := @hideH _ hh.out
              clear hh HA6
              by_cases hjl : j < nb'
              · have hjl' : (j : Int) < (nb' : Int) := by omega
                have hj0 : (0 : Int) ≤ (j : Int) := by omega
                have hjk : (j : Int) < (nk' : Int) := by have := HNB'.out; omega
                have wj : IntKind.i64.wrap ((j : Int) + 1) = (j : Int) + 1 := wrap_i64_of (by omega) (by have e1 := HNB'.out.1; have e2 := HLN.out; have e4 := HN.out.2; omega)
                obtain ⟨t, ht⟩ : ∃ t, T'[j]? = some t := ⟨_, List.getElem?_eq_getElem (by have := HNB'.out.1; omega)⟩
                obtain ⟨gb, hpb, -, -, b0, -⟩ := HA7.out.b.at (show (T'.map Tx.b)[j]? = some t.b by rw [List.getElem?_map, ht]; rfl)
                subst hpb
                obtain ⟨gk, hpk, -, -, s0, -⟩ := HA7.out.s.at (show (T'.map Tx.sum)[j]? = some t.sum by rw [List.getElem?_map, ht]; rfl)
                subst hpk
                have hfd := (O.ok HA7.out.l).find ht
                have htk := (O.ok HA7.out.l).takes (j + 1)
                have htk0 := (O.ok HA7.out.l).takes j
                obtain ⟨sm, hsm⟩ : ∃ s, s = t.sum := ⟨_, rfl⟩
                obtain ⟨s1, hs1⟩ : ∃ s, s = keptT (T'.take j) := ⟨_, rfl⟩
                have ws : IntKind.i64.wrap (s1 + sm) = s1 + sm := wrap_i64_of (by rw [hs1, hsm]; omega) (by rw [hs1, hsm]; omega)
                have HNX := @hideH _ (show keptT (T'.take (j + 1)) = s1 + sm by rw [hfd.2, hs1, hsm])
                have HBI := @hideH _ (HA7.out.bi t (List.mem_of_getElem? ht))
                have HQ := @hideH _ (fun w6 (h : Rm w6 gP F' a T') (hb : I64 t.b) => O.of t.b w6 h hb)
                rw [hfd.1, ← hsm] at HQ
                rw [← hsm] at s0
                rw [← hs1]
                clear hfd htk htk0 hsm hs1
                have AX := HA7.out.then O (Kept.refl [] wr).drew
                have kx : Kept [] wr wr.drew := (Kept.refl [] wr).drew
                go_upto_region 50 with fail
                go_region_held3 (fun w' => w'.cell? ⟨gb, j, none⟩ = some (.int .i64 t.b) ∧ w'.cell? ⟨gk, j, none⟩ = some (.int .i64 sm))
                  (first
                    | (exact ⟨kx.cell b0 (by simp), kx.cell s0 (by simp)⟩)
                    | fail)
                  (first
                    | (go_at_call 15; refine (HQ.out _ AX.l HBI.out).mono ?_; rintro e w6 ⟨rfl, k6⟩; replace kx := kx.then k6; replace AX := AX.then O k6; clear k6)
                    | fail)
                have HAX := @hideH _ AX
                have s0' := kx.cell s0 (by simp)
                clear AX kx HQ b0 s0 HA7
                go_wp2
                go_roundw
                case rel => exact ⟨j + 1, by omega, by go_num, by rw [HNX.out], HAX.out⟩
                case measure => simp [intOf]; omega
              · have hjl' : ¬ (j : Int) < (nb' : Int) := by omega
                have HJ := @hideH _ (show T'.take j = T' from List.take_of_length_le (by have := HNB'.out.1; omega))
                obtain ⟨K1, hK1⟩ : ∃ K, K = keptT T' := ⟨_, rfl⟩
                have HQ := @hideH _ (O.all _ HA7.out.l)
                rw [← hK1] at HQ
                rw [HJ.out, ← hK1]
                clear hK1
                go_wp2_with fail
                refine HQ.out.mono ?_
                clear HQ
                rintro e w9 ⟨rfl, k9⟩
                have HA9 := @hideH _ (HA7.out.then O k9)
                clear k9 HA7
                go_wp2
                go_roundw
                case rel => exact ⟨k + 1, pb', nb', cb', pk', nk', ck', by omega, by go_num, rfl, rfl, F', T', HNB'.out.1, HNB'.out.2, HA9.out⟩
                case measure => simp [intOf]; omega
end Go.Proofs.Ytpbcfkfhkenhpaa

