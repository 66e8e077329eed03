/-
  OWN WORK. HomeFresh.
-/
import Derived.Test.YtoildbbfnhjfoaaRows
import Derived.Deep.RegionHeld3
import Derived.Test.YtoildbbfnhjfoaaHomeLaw
import Derived.Test.YtoildbbfnhjfoaaHFreshPure
import Derived.Test.YtoildbbfnhjfoaaMarked5
namespace Go.Proofs.Ytoildbbfnhjfoaa
open Go.RowKit
set_option linter.unusedVariables false

theorem sz8h : (Try.prog.info? 5).map (·.size) = some 1 := by kernel_rfl
theorem put_one (u : Value) (L : List UInt8) (n q v x : Nat) (w : World) (h : One L n q v) (hu : Bs w u L) (hx : x < 18446744073709551616) :
    Calls Try.prog 13 #[u, .int .i64 (q : Int), .int .u64 (x : Int)] w fun e w' => ∃ c, e = .returned (.tuple #[c, .int .i64 0]) ∧ w'.ownsRow w.heap.size 5 1 c L.length (u8s (putL L (q : Int) x)) ∧ Kept [] w w' := by
  have := hput_any u L (q : Int) x w hu hx
  rw [(h.put x).1, h.put_len x] at this
  exact this
theorem del_one (u : Value) (L : List UInt8) (n q v : Nat) (w : World) (h : One L n q v) (hu : Bs w u L) :
    Calls Try.prog 14 #[u, .int .i64 (q : Int)] w fun e w' => ∃ c, e = .returned (.tuple #[c, .bool true]) ∧ w'.ownsRow w.heap.size 5 1 c L.length (u8s (delL L (q : Int))) ∧ Kept [] w w' := by
  have := hdel_any u L (q : Int) w hu
  rw [h.has, h.del_len] at this
  exact this
theorem own_lit5 (w : World) (base : Nat) (e : TypeId) (a b c d f : Value) (hb : base ≤ w.heap.size) : (w.alloc (.cells #[a, b, c, d, f] e)).ownsRow base e 1 (.slice (some ⟨w.heap.size, 0, none⟩) 5 5) 5 [a, b, c, d, f] :=
  ⟨rfl, .inr ⟨w.heap.size, 5, #[a, b, c, d, f], rfl, hb, heap_alloc_new w _, Nat.le_refl _, by simp [maxLen], rfl, rfl⟩⟩
set_option maxRecDepth 100000 in
set_option maxHeartbeats 12800000 in
theorem homeFresh_walk (slots key : Int) (v : Nat) (w : World) (hv : v < 18446744073709551616) : Calls Try.prog 6 #[.int .i64 slots, .int .i64 key, .int .u64 (v : Int)] w fun e w' => e = .returned (.bool true) ∧ Kept [] w w' := by
  obtain ⟨m, hm⟩ : ∃ m : Nat, (m : Int) = slots % 8 := ⟨(slots % 8).toNat, by have := into_range slots (top := 8) (by omega); omega⟩
  have hm8 : m < 8 := by have := into_range slots (top := 8) (by omega); omega
  have i1 := into_any slots 8 w (by omega) (by omega)
  rw [← hm] at i1
  clear hm
  obtain ⟨q, hq⟩ : ∃ q : Nat, (q : Int) = key % 2147483648 := ⟨(key % 2147483648).toNat, by have := into_range key (top := 2147483648) (by omega); omega⟩
  have hqb : q < 2147483648 := by have := into_range key (top := 2147483648) (by omega); omega
  have i2 := into_any key 2147483648 w (by omega) (by omega)
  rw [← hq] at i2
  clear hq
  obtain ⟨n, hn⟩ : ∃ n, n = m + 1 := ⟨_, rfl⟩
  have hmk := fun u => run_make_bs (P := Try.prog) u 33 5 Try.underlying33 (by kernel_rfl) (24 + 16 * n) (24 + 16 * n) (by omega) (by omega)
  have hown0 := own_made w 5 w.heap.size (24 + 16 * n) (24 + 16 * n) (Nat.le_refl _) (by omega) (by unfold maxLen; omega)
  have wr1 : IntKind.i64.wrap (1 + (m : Int)) = (n : Int) := by rw [IntKind.wrap_i64]; omega
  have wr2 : IntKind.i64.wrap (16 * (n : Int)) = 16 * (n : Int) := by rw [IntKind.wrap_i64]; omega
  have wr3 : IntKind.i64.wrap (24 + 16 * (n : Int)) = 24 + 16 * (n : Int) := by rw [IntKind.wrap_i64]; omega
  rw [show ((24 + 16 * n : Nat) : Int) = 24 + 16 * (n : Int) by omega] at hmk
  obtain ⟨hE0, hOne⟩ := One.start n q v (by omega) (by omega) (by omega)
  have p1 := hput_any _ (zeros (24 + 16 * n)) (q : Int) v _ (Bs.ofOwn hown0) hv
  rw [hE0] at p1
  have hL1 : (putL (zeros (24 + 16 * n)) (q : Int) v).length = 24 + 16 * n := by rw [putL_len, if_pos hE0, zeros_length]
  obtain ⟨L, hL⟩ : ∃ L, L = putL (zeros (24 + 16 * n)) (q : Int) v := ⟨_, rfl⟩
  rw [← hL] at p1 hOne hL1
  obtain ⟨v', hv'⟩ : ∃ v' : Nat, (v' : Int) = IntKind.u64.wrap ((v : Int) + 1) := ⟨(v + 1) % 18446744073709551616, by rw [IntKind.wrap_u64]; omega⟩
  have HV' : Hid (v' < 18446744073709551616) := (show v' < 18446744073709551616 by have : (v' : Int) < 18446744073709551616 := (by rw [hv', IntKind.wrap_u64]; omega); omega)
  have HV : Hid (v < 18446744073709551616) := hv
  have HONE : Hid (One L n q v) := hOne
  have HLN : Hid (L.length = 24 + 16 * n ∧ n ≤ 8) := (show L.length = 24 + 16 * n ∧ n ≤ 8 by omega)
  have hq1 : IntKind.i64.wrap ((q : Int) + 1) = (q : Int) + 1 := by rw [IntKind.wrap_i64]; omega
  have hwv := hv'.symm
  have hk0 : Kept [] w (w.alloc (.cells (madeCells #[.int .u8 0] (24 + 16 * n)) 5)) := (Kept.refl [] w).alloc _
  clear hm8 hn hv hown0 hqb hE0 hOne hL hL1 hv'
  go_enter Try.func6, Try.ntmps6
  go_wp2_with fail
  refine i1.mono ?_
  rintro e w' ⟨rfl, rfl⟩
  go_wp2_with fail
  refine i2.mono ?_
  rintro e w'' ⟨rfl, rfl⟩
  go_wp2_with fail
  refine p1.mono ?_
  rintro e w1 ⟨bv, rfl, o1, k1⟩
  clear p1 hmk i1 i2
  have o1 := own_mono o1 hk0.size
  have kk1 := hk0.then k1
  go_wp2_with fail
  refine (known_any _).mono ?_
  rintro e w2 ⟨rfl, k2⟩
  have o2 := own_of_kept o1 k2 (by simp)
  have kk2 := kk1.then k2
  obtain ⟨bp, bc, rfl⟩ := own_shape2 o2
  have B2 : Bs w2 (.slice bp L.length bc) L := Bs.ofOwn o2
  clear o1 k1 kk1 k2 hk0
  go_wp2_with (at_builtin; refine wpList_append_bs rfl (.tmp 50) (.tmp 51) 33 rfl w2.heap.size 5 Try.underlying33 (by kernel_rfl) _ _ _ (by rfl) (World.ownsRow_nil w2 _ _ _) _ L (by rfl) B2 (by have := HLN.out; omega) (Nat.le_refl _) ?_; intro v3 w3 o3 hg3 hat3)
  have k3 : Kept [] w2 w3 := (Kept.refl [] w2).grown hg3 (fun k hk => by simp [Value.ownBlock] at hk)
  simp only [Nat.zero_add, List.nil_append] at o3
  have ob3 := own_of_kept o2 k3 (by simp)
  have kk3 := kk2.then k3
  have hsz3 := k3.size
  clear hg3 hat3 B2
  go_loopw [10, 11] (fun a i wr => ∃ k : Nat, k ≤ 200 ∧ i = .int .i64 (k : Int) ∧ wr.ownsRow w2.heap.size 5 1 a (L.length + k) (u8s (L ++ List.replicate k 165)) ∧ Kept [] w2 wr) (fun _ i _ => 200 - (intOf i).toNat)
  case atStart => exact ⟨0, by decide, rfl, by simpa using o3, k3⟩
  case round =>
    clear o3 k3 ob3 kk3 hsz3
    obtain ⟨k, hk, rfl, oa, ka⟩ := hrel
    have hsz := ka.size
    by_cases hk2 : k < 200
    · go_wp2_with (at_builtin; refine wpList_append_byte rfl (.tmp 57) (.tmp 58) 33 rfl w2.heap.size 5 Try.underlying33 (by kernel_rfl) _ _ _ (by rfl) (oa.alloc _) ⟨wr.heap.size, 0, none⟩ 1 165 (by rfl) (byte_cell wr 5 165 165 rfl) (by have := HLN.out; omega) (by simp; omega) ?_; intro a' wa oa' ga ata)
      have kb : Kept [] w2 wa := (ka.alloc _).grown ga (fun z hz => .inr (own_ge oa z hz))
      rw [snoc_rep] at oa'
      clear ga ata oa ka
      go_roundw
      case rel => exact ⟨k + 1, by omega, by go_num, oa', kb⟩
      case measure => simp [intOf]; omega
    · have ek : k = 200 := by omega
      subst ek
      rcases id oa.2 with ⟨_, h0⟩ | ⟨bw, cw, cur, rfl, -, -, hcw, hcm, -⟩
      · omega
      · have hcut := fun (z : World) => run_cut_to (P := Try.prog) z 33 5 Try.underlying33 sz8h (some ⟨bw, 0, none⟩) (L.length + 200) cw L.length (by omega)
        have hcw' : (L.length : Int) ≤ (cw : Int) := by omega
        have h0b : (0 : Int) ≤ (L.length : Int) := by omega
        obtain ⟨R, hR⟩ : ∃ R, R = List.replicate 200 (165 : UInt8) := ⟨_, rfl⟩
        rw [← hR] at oa
        have HR : Hid (R = List.replicate 200 (165 : UInt8)) := hR
        have ob := own_of_kept o2 ka (by simp)
        have kk := kk2.then ka
        have hbw : w2.heap.size ≤ bw ∧ bw < wr.heap.size := ⟨own_ge oa bw rfl, own_lt oa bw rfl⟩
        have hbb : ∀ x, (Value.slice bp L.length bc).ownBlock = some x → x < wr.heap.size := fun x hx => own_lt ob x hx
        have OA : Hid (wr.ownsRow w2.heap.size 5 1 (.slice (some ⟨bw, 0, none⟩) (L.length + 200) cw) (L.length + 200) (u8s (L ++ R))) := oa
        have OB : Hid (wr.ownsRow w''.heap.size 5 1 (.slice bp L.length bc) L.length (u8s L)) := ob
        have hb2 : w''.heap.size ≤ w2.heap.size := kk2.size
        clear hR o2 kk2 ka oa ob hk2
        generalize wr = w4 at *
        go_wp2_with fail
        refine (put_one _ L n q v v' _ HONE.out (cut_bs OA.out) HV'.out).mono ?_
        rintro e w5 ⟨vp, rfl, op, kp⟩
        have F1 := (Fam.nil w4 w4.heap.size).snoc (Nat.le_refl _) kp (by simp) op
        have K5 := kp
        obtain ⟨pp, cp, rfl⟩ := own_shape2 op
        clear op
        go_wp2_with fail
        refine (put_one _ L n q v v' _ HONE.out ((cut_bs OA.out).kept K5) HV'.out).mono ?_
        rintro e w6 ⟨vq, rfl, oq, kq⟩
        have F2 := F1.snoc K5.size kq (by simp) oq
        have K6 := K5.then kq
        obtain ⟨pq, cq, rfl⟩ := own_shape2 oq
        clear oq F1
        go_wp2_with fail
        refine (put_one _ L n q v v _ HONE.out ((cut_bs OA.out).kept K6) HV.out).mono ?_
        rintro e w7 ⟨vr, rfl, or', kr⟩
        rw [HONE.out.put_same] at or'
        have F3 := F2.snoc K6.size kr (by simp) or'
        have K7 := K6.then kr
        obtain ⟨pr, cr, rfl⟩ := own_shape2 or'
        clear or' F2
        go_wp2_with fail
        refine (del_one _ L n q v _ HONE.out ((cut_bs OA.out).kept K7)).mono ?_
        rintro e w8 ⟨vd, rfl, od, kd⟩
        have F4 := F3.snoc K7.size kd (by simp) od
        have K8 := K7.then kd
        obtain ⟨pd, cd, rfl⟩ := own_shape2 od
        clear od F3
        go_wp2_with fail
        refine (del_one _ L n q v _ HONE.out ((cut_bs OA.out).kept K8)).mono ?_
        rintro e w9 ⟨vf, rfl, of', kf⟩
        have F5 := F4.snoc K8.size kf (by simp) of'
        have K9 := K8.then kf
        obtain ⟨pf, cf, rfl⟩ := own_shape2 of'
        clear of' F4
        go_wp2_with fail
        refine (find_any _ L (q : Int) _ ((cut_bs OA.out).kept K9)).mono ?_
        rintro e w10 ⟨rfl, k10⟩
        have K10 := K9.then k10
        go_wp2_with fail
        refine (value_any _ L ((q : Int) + 1) _ ((cut_bs OA.out).kept K10)).mono ?_
        rintro e w11 ⟨rfl, k11⟩
        have K11 := K10.then k11
        have F11 := (F5.kept k10 (by simp)).kept k11 (by simp)
        clear kp kq kr kd kf k10 k11 F5 K5 K6 K7 K8 K9 K10
        simp only [List.nil_append, List.cons_append] at F11
        obtain ⟨PL, hPL⟩ : ∃ PL, PL = putL L (q : Int) v' := ⟨_, rfl⟩
        obtain ⟨DL, hDL⟩ : ∃ DL, DL = delL L (q : Int) := ⟨_, rfl⟩
        rw [← hPL, ← hDL] at F11
        have HPL : Hid (PL = putL L (q : Int) v') := hPL
        have HDL : Hid (DL = delL L (q : Int)) := hDL
        have hll : PL.length = L.length ∧ DL.length = L.length := ⟨by rw [hPL]; exact HONE.out.put_len _, by rw [hDL]; exact HONE.out.del_len⟩
        have hnn : Hid (∀ j, nn [PL, PL, L, DL, DL] j ≤ 6000000) := (fun j => nn_of [PL, PL, L, DL, DL] 6000000 (by
          intro l hl
          have := HLN.out
          simp only [List.mem_cons, List.not_mem_nil, or_false] at hl
          rcases hl with rfl | rfl | rfl | rfl | rfl <;> omega) j : ∀ j, nn [PL, PL, L, DL, DL] j ≤ 6000000)
        have bP := F11.bs 0 _ PL rfl rfl
        have bQ := F11.bs 1 _ PL rfl rfl
        have bR := F11.bs 2 _ L rfl rfl
        have bD := F11.bs 3 _ DL rfl rfl
        have bF := F11.bs 4 _ DL rfl rfl
        have tP := bP.text
        have tQ := bQ.text
        have tD := bD.text
        have tF := bF.text
        have FF : Hid (Fam w11 w4.heap.size [.slice pp L.length cp, .slice pq L.length cq, .slice pr L.length cr, .slice pd L.length cd, .slice pf L.length cf] [PL, PL, L, DL, DL]) := F11
        have BR : Hid (Bs w11 (.slice pr L.length cr) L) := bR
        clear hPL hDL hll F11 bP bQ bR bD bF
        go_wp2_with fail
        refine (same_eq _ _ L _ BR.out ((Bs.ofOwn OB.out).kept K11)).mono ?_
        rintro e w12 ⟨rfl, rfl⟩
        go_wp2_with fail
        have hO5 := own_lit5 w12 w4.heap.size 33 (.slice pp L.length cp) (.slice pq L.length cq) (.slice pr L.length cr) (.slice pd L.length cd) (.slice pf L.length cf) K11.size
        refine (marked_any w12.heap.size 5 5 _ [PL, PL, L, DL, DL] w4.heap.size _ hO5 (FF.out.kept ((Kept.refl [] w12).alloc _) (by simp)) rfl (by omega) (by have := K11.size; simp; omega) hnn.out).mono ?_
        rintro e w13 ⟨rfl, k13⟩
        have nb : ∀ z, z ∈ blocks [.slice pp L.length cp, .slice pq L.length cq, .slice pr L.length cr, .slice pd L.length cd, .slice pf L.length cf] → w4.heap.size ≤ z := fun z hz => (FF.out.not8 hz).2.1
        have oa13 := own_of_kept (own_of_kept OA.out (K11.alloc _) (by simp)) k13 (fun z hz hm => by have := nb z hm; simp [Value.ownBlock] at hz; omega)
        have ob13 := own_of_kept (own_of_kept OB.out (K11.alloc _) (by simp)) k13 (fun z hz hm => by have := nb z hm; have := hbb z hz; omega)
        have kk13 : Kept [] w'' w13 := ((kk.then K11).alloc _).trans k13 (fun z hz => .inr (Nat.le_trans kk.size (nb z hz)))
        have hsz13 : w4.heap.size ≤ w13.heap.size := by have h1 := K11.size; have h2 := k13.size; simp at h2; omega
        clear k13 nb hO5 tP tQ tD tF K11 kk OA OB FF BR hnn
        go_wp2_with fail
        refine (same_eq _ _ L _ (cut_bs oa13) (Bs.ofOwn ob13)).mono ?_
        rintro e w14 ⟨rfl, rfl⟩
        go_wp2
        go_loop [25] (fun i => ∃ j : Nat, j ≤ 200 ∧ i = .int .i64 ((L.length : Int) + (j : Int))) (fun i => L.length + 200 - (intOf i).toNat)
        case atStart => exact ⟨0, by omega, by simp⟩
        case round =>
          obtain ⟨j, hj, rfl⟩ := hrel
          by_cases hlt : j < 200
          · have hcc := oa13.cellAt (L.length + j) (by omega)
            rw [show (u8s (L ++ R))[L.length + j]? = some (.int .u8 165) from by rw [HR.out]; exact wide_at L j hlt] at hcc
            have c1 : (L.length : Int) + (j : Int) < (L.length : Int) + 200 := by omega
            have c2 : (0 : Int) ≤ (L.length : Int) + (j : Int) := by omega
            have en : ((L.length : Int) + (j : Int)).toNat = L.length + j := by omega
            have ew : IntKind.i64.wrap ((L.length : Int) + (j : Int) + 1) = (L.length : Int) + (j : Int) + 1 := by rw [IntKind.wrap_i64]; have := HLN.out; omega
            go_wp2
            go_round
            case rel => exact ⟨j + 1, by omega, by go_num⟩
            case measure => simp [intOf]; omega
          · obtain rfl : j = 200 := by omega
            have OA13 : Hid (w14.ownsRow w2.heap.size 5 1 (.slice (some ⟨bw, 0, none⟩) (L.length + 200) cw) (L.length + 200) (u8s (L ++ R))) := oa13
            clear oa13
            go_wp2_with fail
            refine (put_one _ L n q v v' _ HONE.out (cut_bs OA13.out) HV'.out).mono ?_
            rintro e w15 ⟨vp, rfl, op, kp⟩
            rw [← HPL.out] at op
            obtain ⟨pp2, cp2, rfl⟩ := own_shape2 op
            have BP : Hid (Bs w15 (.slice pp2 L.length cp2) PL) := Bs.ofOwn op
            have oa15 := own_of_kept OA13.out kp (by simp)
            go_wp2_with fail
            refine (del_one _ L n q v _ HONE.out (cut_bs oa15)).mono ?_
            rintro e w16 ⟨vd, rfl, od, kd⟩
            rw [← HDL.out] at od
            obtain ⟨pd2, cd2, rfl⟩ := own_shape2 od
            have tD := (Bs.ofOwn od).text
            have tP := (BP.out.kept kd).text
            have oa16 := own_of_kept oa15 kd (by simp)
            have kk16 := (kk13.then kp).then kd
            clear op od oa15 kp kd BP ob13
            obtain ⟨y, hy⟩ : ∃ y, L[20]? = some y := ⟨_, List.getElem?_eq_getElem (by have := HLN.out; have := HONE.out.pos; omega)⟩
            have h20 : 20 < L.length := (List.getElem?_eq_some_iff.1 hy).1
            have hcc := oa16.cellAt 20 (by omega)
            rw [wide_get L R 20 y hy] at hcc
            have hf := oa16.frozenAt 20
            obtain ⟨ow2, kw2⟩ := set_own oa16 20 (y + 1) _ (byte_up y)
            rw [wide_set L R 20 (y + 1) h20] at ow2
            have c20 : (20 : Int) < (L.length : Int) + 200 := by omega
            obtain ⟨L2, hL2⟩ : ∃ L2, L2 = L.set 20 (y + 1) := ⟨_, rfl⟩
            have hl2 : L2.length = L.length := by rw [hL2, List.length_set]
            have hgone : findB L2 (q : Int) = false := by rw [hL2]; exact HONE.out.turned y hy
            rw [← hL2] at ow2
            have B2 := cut_bs ow2
            rw [hl2] at B2
            have kk17 := kk16.trans kw2 (by intro z hz; simp at hz; subst hz; exact .inr (Nat.le_trans hb2 hbw.1))
            have hs17 := kw2.size
            have HB2 : Hid (Bs (w16.setCell ⟨bw, 20, none⟩ (.int .u8 (((y.toNat : Int) + 1) % 256))) (.slice (some ⟨bw, 0, none⟩) L.length cw) L2) := B2
            have HL2 : Hid (L2.length = L.length) := hl2
            clear hL2 hl2 ow2 kw2 oa16 hy h20 OA13 B2
            go_wp2_with (at_builtin; refine wpList_append_bs rfl (.tmp 193) (.tmp 194) 33 rfl w16.heap.size 5 Try.underlying33 (by kernel_rfl) _ _ _ (by rfl) (World.ownsRow_nil _ _ _ _) _ L2 (by rfl) HB2.out (by have := HL2.out; have := HLN.out; omega) hs17 ?_; intro v18 w18 o18 g18 at18)
            have k18 : Kept [] (w16.setCell ⟨bw, 20, none⟩ (.int .u8 (((y.toNat : Int) + 1) % 256))) w18 := (Kept.refl [] _).grown g18 (fun k hk => by simp [Value.ownBlock] at hk)
            simp only [Nat.zero_add, List.nil_append] at o18
            have bl18 := HB2.out.kept k18
            have bt18 : Bs w18 v18 L2 := Bs.ofOwn o18
            have kk18 := kk17.then k18
            have r1 := fun (u : Value) (w' : World) (hw : Bs w' u L2) => hput_any u L2 (q : Int) v' w' hw HV'.out
            have r2 := fun (u : Value) (w' : World) (hw : Bs w' u L2) => hdel_any u L2 (q : Int) w' hw
            rw [hgone] at r2
            generalize putE L2 (q : Int) = E at *
            generalize putL L2 (q : Int) v' = P2 at *
            generalize delL L2 (q : Int) = D2 at *
            clear g18 at18 o18 hgone kk16 kk17 k18 HB2
            refine (r1 _ _ bl18).mono ?_
            rintro e w19 ⟨c19, rfl, o19, k19⟩
            go_wp2_with fail
            refine (r1 _ _ (bt18.kept k19)).mono ?_
            rintro e w20 ⟨c20', rfl, o20, k20⟩
            go_wp2_with fail
            refine (r2 _ _ ((bl18.kept k19).kept k20)).mono ?_
            rintro e w21 ⟨c21, rfl, o21, k21⟩
            have s1 : Bs w21 c19 P2 := ((Bs.ofOwn o19).kept k20).kept k21
            have s2 : Bs w21 c20' P2 := (Bs.ofOwn o20).kept k21
            have kk21 := ((kk18.then k19).then k20).then k21
            clear o19 o20 o21 k19 k20 k21 r1 r2 bl18 bt18 kk18
            go_wp2_with fail
            refine (same_eq _ _ P2 _ s1 s2).mono ?_
            rintro e w22 ⟨rfl, rfl⟩
            go_wp2
            go_ret
            exact ⟨rfl, kk21⟩
end Go.Proofs.Ytoildbbfnhjfoaa
